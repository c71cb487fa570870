import Derived.Test.YtfigmlfdnickmaaGreatDoorL05
import Derived.Test.YtfigmlfdnickmaaGreatDoorProg
import Derived.Maps.OwnSet
import Derived.Maps.OwnOps
import Derived.Maps.Views
import Derived.Lib.IndexMore
import Derived.Lib.IndexLaws
import Derived.Lib.FieldsP
import Derived.Lib.Split
import Derived.Lib.SplitLaws
set_option maxRecDepth 100000
set_option maxHeartbeats 8000000
variable{s:ByteArray}{fr m x y:Int}{acc:List Int}{l:List UInt8}{b n sz:Nat}{key:Go.Value}{w w':Go.World}
namespace Go.Proofs.YtfigmlfdnickmaaGreatDoor
open Go Go.Maps
def c6O(o:Option Nat):Value:=.pointer (o.map fun b=>⟨b,0,none⟩)
def b1A(o:Option Nat):DataW Unit:=.lit (.int .i64 (match o with|none=>-1|some b=>(b:Int)))
def c2C:Value->Option (DataW Unit × List MemPlace)
 |.pointer none=>some (b1A none,[])
 |.pointer (some ⟨b,0,none⟩)=>some (b1A (some b),[])
 |_=>none
theorem c4S(o:Option Nat):c2C (c6O o)=some (b1A o,[]):=by cases o <;> rfl
theorem b6i{a b:Option Nat}(h:b1A a=b1A b):a=b:=by
 unfold b1A at h
 cases a <;> cases b <;> simp at h ⊢ <;> omega
theorem c2B{v:Value}{o:Option Nat}{ps:List MemPlace}(h:c2C v=some (b1A o,ps)):v=c6O o:=by
 unfold c2C at h
 split at h
 ·have e:b1A none=b1A o:=congrArg Prod.fst (Option.some.inj h);have:=b6i e;subst this;rfl
 ·rename_i b
  have e:b1A (some b)=b1A o:=congrArg Prod.fst (Option.some.inj h);have:=b6i e;subst this;rfl
 ·cases h
noncomputable def upd(f:Lit->Option Nat)(kl:Lit)(o:Option Nat)(x:Lit):Option Nat:=@ite _ (x=kl) (Classical.propDecidable _) o (f x)
theorem a4f(f:Lit->Option Nat)(kl:Lit)(o:Option Nat):upd f kl o kl=o:=if_pos rfl
theorem a3n(f:Lit->Option Nat){kl x:Lit}(o:Option Nat)(h:x≠kl):upd f kl o x=f x:=if_neg h
def a4N(P:Program)(k:TypeId)(w:World)(b n:Nat)(f:Lit->Option Nat)(sz:Nat):Prop :=
 ∃ D,w.ownsMap P k c2C b n D/\Maps.size D=sz/\(∀ kl,D.atKey kl (b1A none)=b1A (f kl))/\∀ kl,Maps.has D kl=(f kl).isSome
theorem a4N.block{P:Program}{k:TypeId}{f:Lit->Option Nat}(h:a4N P k w b n f sz)(hb:w'.heap[b]?=w.heap[b]?):a4N P k w' b n f sz:=by
 obtain⟨D,⟨es,clock,h1,h2⟩,h3⟩:=h;exact⟨D,⟨es,clock,hb.trans h1,h2⟩,h3⟩
theorem a4N.tight{P:Program}{k:TypeId}{f:Lit->Option Nat}(h:a4N P k w b n f sz):a4N P k w b sz f sz:=by
 obtain⟨D,⟨es,clock,h1,h2,h3,h4⟩,h5,h6⟩:=h;refine⟨D,⟨es,clock,h1,h2,?_,h4⟩,h5,h6⟩;rw[<- h5,h4,Maps.size_eq,length_sorted];simp
theorem a4N.made(P:Program)(k:TypeId)(w:World):a4N P k (w.alloc (.map #[] 0)) w.heap.size 0 (fun _=>none) 0 :=
 ⟨.map [],World.ownsMap_made w P k c2C,rfl,fun _=>rfl,fun _=>rfl⟩
theorem a4N.look{P:Program}{k e t:TypeId}{f:Lit->Option Nat}(h:a4N P k w b n f sz)(K:Keyed P k)(ht:P.underlying t=some (.map k e))(hz:(zeroValue e).run P w=.ok (.pointer none) w){kl:Lit}(hkey:keyOf P k key=some kl):
  (Instr.lookup t (.map (some b)) key false).run P w=.ok (c6O (f kl)) w:=by
 obtain⟨D,h1,_,h3,_⟩:=h;obtain⟨v,ps,hrun,hv⟩:=h1.lookup K ht hz (zd:=b1A none) (zp:=[]) rfl hkey;rw[h3] at hv;rw[hrun,c2B hv]
theorem a4N.len{P:Program}{k e t:TypeId}{f:Lit->Option Nat}(h:a4N P k w b n f sz)(ht:P.underlying t=some (.map k e))(ty:TypeId):(Builtin.len_ #[t] ty #[.map (some b)]).run P w=.ok (.int .i64 sz) w:=by
 obtain⟨D,h1,h2,_⟩:=h;rw[h1.len ht ty,h2]
theorem a4N.put{P:Program}{k:TypeId}{f:Lit->Option Nat}{D:DataW Unit}{kl:Lit}{p:Nat}(K:Keyed P k)(w:World)(hD:w.ownsMap P k c2C b n D)(h:w'.ownsMap P k c2C b (n+1) (D.put kl (b1A (some p))))(hk:WideAt.IsKeyLit kl)(h3:∀ kl,D.atKey kl (b1A none)=b1A (f kl))(h4:∀ kl,Maps.has D kl=(f kl).isSome):
  a4N P k w' b (n+1) (upd f kl (some p)) (if (f kl).isSome then Maps.size D else Maps.size D+1):=by
 refine⟨_,h,?_,fun x=>?_,fun x=>?_⟩
 ·rw[Maps.size_put (hD.tidy K),h4]
 ·by_cases c:x=kl
  ·rw[c,a4f,Maps.atKey_put_same hD.isMap hk]
  ·rw[a3n f _ c,Maps.atKey_put_other c,h3]
 ·by_cases c:x=kl
  ·rw[c,a4f,Maps.has_put_same hD.isMap hk];rfl
  ·rw[a3n f _ c,Maps.has_put_other c,h4]
theorem a4N.del{P:Program}{k:TypeId}{f:Lit->Option Nat}{D:DataW Unit}{kl:Lit}(K:Keyed P k)(w:World)(hD:w.ownsMap P k c2C b n D)(h:w'.ownsMap P k c2C b n (D.del kl))(h3:∀ kl,D.atKey kl (b1A none)=b1A (f kl))(h4:∀ kl,Maps.has D kl=(f kl).isSome):
  a4N P k w' b n (upd f kl none) (Maps.size D-if (f kl).isSome then 1 else 0):=by
 refine⟨_,h,?_,fun x=>?_,fun x=>?_⟩
 ·have:=Maps.size_del (k:=kl) (hD.tidy K);rw[h4] at this;omega
 ·by_cases c:x=kl
  ·rw[c,a4f,Maps.atKey_del_same]
  ·rw[a3n f _ c,Maps.atKey_del_other c,h3]
 ·by_cases c:x=kl
  ·rw[c,a4f,Maps.has_del_same];rfl
  ·rw[a3n f _ c,Maps.has_del_other c,h4]
theorem a4N.dropRun{P:Program}{k e t:TypeId}{f:Lit->Option Nat}(h:a4N P k w b n f sz)(K:Keyed P k)(ht:P.underlying t=some (.map k e)){kl:Lit}(hkey:keyOf P k key=some kl)(ty:TypeId):
  ∃ w',(Builtin.delete_ #[t,k] ty #[.map (some b),key]).run P w=.ok (.tuple #[]) w'/\a4N P k w' b n (upd f kl none) (sz-if (f kl).isSome then 1 else 0)/\w.grownBy w' (some b):=by
 obtain⟨D,h1,h2,h3,h4⟩:=h;obtain⟨w',hrun,r1,r2⟩:=h1.drop K ht hkey ty;refine⟨w',hrun,?_,r2.grown⟩;rw[<- h2];exact a4N.del K w h1 r1 h3 h4
theorem a4N.storeRun{P:Program}{k e t:TypeId}{f:Lit->Option Nat}(h:a4N P k w b n f sz)(K:Keyed P k)(ht:P.underlying t=some (.map k e))(hn:n<maxLen){kl:Lit}(hkey:keyOf P k key=some kl)(hlit:WideAt.IsKeyLit kl)(p:Nat):
  ∃ w',(Instr.mapUpdate t (.map (some b)) key (c6O (some p))).run P w=.ok () w'/\a4N P k w' b (n+1) (upd f kl (some p)) (if (f kl).isSome then sz else sz+1)/\w.grownBy w' (some b):=by
 obtain⟨D,h1,h2,h3,h4⟩:=h;obtain⟨w',hrun,r1,r2⟩:=h1.update K ht hn hkey (c4S (some p));refine⟨w',hrun,?_,r2⟩;rw[<- h2];exact a4N.put K w h1 r1 hlit h3 h4
section
variable {P:Program}(w:World) {ops:Array Oper}{rest:List Oper}{o:Oper}{a:Act}{Q:Exit->Act->World->Prop}
end
end Go.Proofs.YtfigmlfdnickmaaGreatDoor
namespace Go.Proofs.YtfigmlfdnickmaaGreatDoor.Cal
def ah(y:Int):Int:=(y-1)*365+(y-1) / 4-(y-1) / 100+(y-1) / 400
def c2U(y:Int):Bool:=y % 4==0 && (y % 100 != 0 || y % 400==0)
def lp(y:Int):Int:=if c2U y then 1 else 0
def tab(m:Int):Int:=if m=2 then 28 else if m=4\/m=6\/m=9\/m=11 then 30 else 31
def dim(y m:Int):Int:=if m=2 then 28+lp y else tab m
def cum(y m:Int):Int :=
 if m<=1 then 0 else if m=2 then 31 else lp y+(if m=3 then 59 else if m=4 then 90 else if m=5 then 120 else if m=6 then 151 else if m=7 then 181 else if m=8 then 212 else if m=9 then 243 else if m=10 then 273 else if m=11 then 304 else if m=12 then 334 else 365)
def first:Int:=-738885
def last:Int:=2913173
def num(y m d:Int):Int:=first+ah y+cum y m+d-1
def ok(y m d:Int):Bool:=decide (1<=y/\y<=9999/\1<=m/\m<=12/\1<=d/\d<=dim y m)
theorem c4Z(y:Int):0<=lp y/\lp y<=1:=by unfold lp;split <;> omega
theorem c6W(y:Int):lp y=1/\y % 4=0/\(y % 100≠0\/y % 400=0)\/lp y=0/\¬ (y % 4=0/\(y % 100≠0\/y % 400=0)):=by
 unfold lp
 cases h:c2U y
 ·right;refine⟨by simp,?_⟩;simp only[c2U,Bool.and_eq_false_iff,Bool.or_eq_false_iff,beq_eq_false_iff_ne,bne_eq_false_iff_eq] at h;omega
 ·left;refine⟨by simp,?_⟩;simp only[c2U,Bool.and_eq_true,Bool.or_eq_true,beq_iff_eq,bne_iff_ne] at h;exact h
theorem b5I(y:Int)(_h:1<=y):ah (y+1)=ah y+365+lp y:=by
 rcases c6W y with ⟨e,h1⟩|⟨e,h1⟩ <;> rw[e] <;> unfold ah <;> omega
theorem a9T(a b:Int)(_h0:1<=a)(_h:a<=b):ah a<=ah b:=by unfold ah;omega
theorem g3J:ah 1=0:=by decide
theorem b7t:ah 10000=3652059:=by decide
theorem b7s(g:Int)(_h:0<=g):ah (g*400 / 146097+1)<=g:=by unfold ah;omega
theorem c5D(y:Int)(_h1:1<=y)(_h2:y<=10000):0<=ah y/\ah y<=3652059:=by unfold ah;omega
theorem c5Q(m:Int):28<=tab m/\tab m<=31:=by unfold tab;(repeat' split) <;> omega
theorem b3I(y m:Int):28<=dim y m/\dim y m<=31:=by
 have:=c4Z y;have:=c5Q m;unfold dim;split <;> omega
theorem c3Z(m:Int)(h1:1<=m)(h2:m<=12):m=1\/m=2\/m=3\/m=4\/m=5\/m=6\/m=7\/m=8\/m=9\/m=10\/m=11\/m=12:=by omega
theorem a9K(y:Int):cum y 1=0:=by simp[cum]
theorem a5M(y m:Int)(h1:1<=m)(h2:m<=12):cum y (m+1)=cum y m+dim y m:=by
 rcases c3Z m h1 h2 with h|h|h|h|h|h|h|h|h|h|h|h <;> subst h <;> simp[cum,dim,tab] <;> omega
theorem b5q(y:Int):cum y 13=365+lp y:=by simp[cum];omega
theorem c1p(y a:Int)(k:Nat)(h1:1<=a)(h2:a+k<=13):cum y a<=cum y (a+k):=by
 induction k with
 |zero=>simp
 |succ k ih =>
  have c:=a5M y (a+k) (by omega) (by omega);have d:=b3I y (a+k);have i:=ih (by omega);rw[show a+((k+1:Nat):Int)=a+k+1 from by omega,c];omega
theorem b7m(y m:Int)(h1:1<=m)(h2:m<=13):0<=cum y m/\cum y m<=365+lp y:=by
 have a:=c1p y 1 (m-1).toNat (by omega) (by omega);have b:=c1p y m (13-m).toNat h1 (by omega);rw[show (1:Int)+((m-1).toNat:Int)=m from by omega,a9K] at a;rw[show m+((13-m).toNat:Int)=13 from by omega,b5q] at b;exact⟨a,b⟩
theorem b2i(y a b:Int)(h1:1<=a)(h:a<b)(h2:b<=13):cum y a+dim y a<=cum y b:=by
 rw[<- a5M y a h1 (by omega)];have c:=c1p y (a+1) (b-(a+1)).toNat (by omega) (by omega)
 rwa [show (a+1)+((b-(a+1)).toNat:Int)=b from by omega] at c
theorem a2K(y m d:Int):ok y m d=true↔1<=y/\y<=9999/\1<=m/\m<=12/\1<=d/\d<=dim y m:=by simp[ok]
theorem a9p(y m d:Int)(h:ok y m d=true):ah y<=num y m d-first/\num y m d-first<ah (y+1):=by
 obtain⟨h1,h2,h3,h4,h5,h6⟩:=(a2K y m d).1 h;have a:=b5I y h1;have b:=b7m y m h3 (by omega);have c:=a5M y m h3 h4;have e:=b7m y (m+1) (by omega) (by omega);unfold num;omega
theorem c1Q(a b n:Int)(ha:1<=a)(hb:1<=b)(h1:ah a<=n)(h2:n<ah (a+1))(h3:ah b<=n)(h4:n<ah (b+1)):a=b:=by
 by_cases h:a<b
 ·have:=a9T (a+1) b (by omega) (by omega);omega
 ·by_cases h':b<a
  ·have:=a9T (b+1) a (by omega) (by omega);omega
  ·omega
theorem c0n(y a b n:Int)(ha:1<=a)(ha':a<=12)(hb:1<=b)(hb':b<=12)(h1:cum y a<=n)(h2:n<cum y a+dim y a)(h3:cum y b<=n)(h4:n<cum y b+dim y b):a=b:=by
 by_cases h:a<b
 ·have:=b2i y a b ha h (by omega);omega
 ·by_cases h':b<a
  ·have:=b2i y b a hb h' (by omega);omega
  ·omega
theorem one(y m d y' m' d':Int)(h:ok y m d=true)(h':ok y' m' d'=true)(e:num y m d=num y' m' d'):y=y'/\m=m'/\d=d':=by
 have i:=a9p y m d h;have i':=a9p y' m' d' h';obtain⟨h1,h2,h3,h4,h5,h6⟩:=(a2K y m d).1 h;obtain⟨g1,g2,g3,g4,g5,g6⟩:=(a2K y' m' d').1 h';have hy:y=y':=c1Q y y' (num y m d-first) h1 g1 i.1 i.2 (by rw[e];exact i'.1) (by rw[e];exact i'.2);subst hy;unfold num at e;have hm:m=m':=c0n y m m' (cum y m+d-1) h3 h4 g3 g4 (by omega) (by omega) (by omega) (by omega);subst hm;exact⟨rfl,rfl,by omega⟩
theorem c3X(y m d:Int)(h:ok y m d=true):first<=num y m d/\num y m d<=last:=by
 obtain⟨h1,h2,h3,h4,h5,h6⟩:=(a2K y m d).1 h;have i:=a9p y m d h;have a:=a9T (y+1) 10000 (by omega) (by omega);have b:=c5D y h1 (by omega);have c:=b7t;unfold first at i;unfold first last;omega
end Go.Proofs.YtfigmlfdnickmaaGreatDoor.Cal
namespace Go.Proofs.YtfigmlfdnickmaaGreatDoor.Cal
def yF(g:Int):Int:=if ah (g*400 / 146097+2)<=g then g*400 / 146097+2 else g*400 / 146097+1
def mF(y r:Int):Int:=if r<cum y 2 then 1 else if r<cum y 3 then 2 else if r<cum y 4 then 3 else if r<cum y 5 then 4 else if r<cum y 6 then 5 else if r<cum y 7 then 6 else if r<cum y 8 then 7 else if r<cum y 9 then 8 else if r<cum y 10 then 9 else if r<cum y 11 then 10 else if r<cum y 12 then 11 else 12
theorem c5C(g:Int)(_h:0<=g):g<ah (g*400 / 146097+3):=by unfold ah;omega
theorem c6R(g:Int)(h:0<=g):1<=yF g/\ah (yF g)<=g/\g<ah (yF g+1):=by
 have a:=b7s g h;have b:=c5C g h;unfold yF
 split
 ·refine⟨by omega,by assumption,?_⟩;rw[show g*400 / 146097+2+1=g*400 / 146097+3 from by omega];exact b
 ·refine⟨by omega,a,?_⟩;rw[show g*400 / 146097+1+1=g*400 / 146097+2 from by omega];omega
theorem c6V(y r:Int)(h0:0<=r)(h1:r<cum y 13):1<=mF y r/\mF y r<=12/\cum y (mF y r)<=r/\r<cum y (mF y r+1):=by
 have c1:=a9K y;unfold mF
 by_cases e2:r<cum y 2
 ·rw[if_pos e2];exact⟨by omega,by omega,by omega,e2⟩
 rw[if_neg e2]
 by_cases e3:r<cum y 3
 ·rw[if_pos e3];exact⟨by omega,by omega,by omega,e3⟩
 rw[if_neg e3]
 by_cases e4:r<cum y 4
 ·rw[if_pos e4];exact⟨by omega,by omega,by omega,e4⟩
 rw[if_neg e4]
 by_cases e5:r<cum y 5
 ·rw[if_pos e5];exact⟨by omega,by omega,by omega,e5⟩
 rw[if_neg e5]
 by_cases e6:r<cum y 6
 ·rw[if_pos e6];exact⟨by omega,by omega,by omega,e6⟩
 rw[if_neg e6]
 by_cases e7:r<cum y 7
 ·rw[if_pos e7];exact⟨by omega,by omega,by omega,e7⟩
 rw[if_neg e7]
 by_cases e8:r<cum y 8
 ·rw[if_pos e8];exact⟨by omega,by omega,by omega,e8⟩
 rw[if_neg e8]
 by_cases e9:r<cum y 9
 ·rw[if_pos e9];exact⟨by omega,by omega,by omega,e9⟩
 rw[if_neg e9]
 by_cases e10:r<cum y 10
 ·rw[if_pos e10];exact⟨by omega,by omega,by omega,e10⟩
 rw[if_neg e10]
 by_cases e11:r<cum y 11
 ·rw[if_pos e11];exact⟨by omega,by omega,by omega,e11⟩
 rw[if_neg e11]
 by_cases e12:r<cum y 12
 ·rw[if_pos e12];exact⟨by omega,by omega,by omega,e12⟩
 rw[if_neg e12];exact⟨by omega,by omega,by omega,h1⟩
def yT(n:Int):Int:=yF (n+738885)
def mT(n:Int):Int:=mF (yT n) (n+738885-ah (yT n))
def dT(n:Int):Int:=n+738885-ah (yT n)-cum (yT n) (mT n)+1
theorem c6G(n:Int)(h1:-738885<=n)(h2:n<=2913173):ok (yT n) (mT n) (dT n)=true/\num (yT n) (mT n) (dT n)=n:=by
 have ⟨a1,a2,a3⟩:=c6R (n+738885) (by omega);have s:=b5I (yF (n+738885)) a1
 have hy:yF (n+738885)<=9999:=by
  by_cases h:yF (n+738885)<=9999
  ·exact h
  ·have:=a9T 10000 (yF (n+738885)) (by omega) (by omega);have:=b7t;omega
 have ce:=b5q (yF (n+738885));have ⟨b1,b2,b3,b4⟩:=c6V (yF (n+738885)) (n+738885-ah (yF (n+738885))) (by omega) (by omega);have cs:=a5M (yF (n+738885)) (mF (yF (n+738885)) (n+738885-ah (yF (n+738885)))) b1 b2;refine⟨(a2K _ _ _).2 ?_,?_⟩
 ·unfold dT mT yT;refine⟨a1,hy,b1,b2,by omega,by omega⟩
 ·unfold num dT mT yT first;omega
theorem c4g(y m d n:Int)(h:ok y m d=true)(e:num y m d=n):y=yT n/\m=mT n/\d=dT n:=by
 have b:=c3X y m d h;rw[e] at b;unfold first last at b;have ⟨h1,h2⟩:=c6G n b.1 b.2;exact one y m d _ _ _ h h1 (by rw[e,h2])
end Go.Proofs.YtfigmlfdnickmaaGreatDoor.Cal
namespace Go.Proofs.YtfigmlfdnickmaaGreatDoor.Txt
def dig(c:UInt8):Bool:=decide (48<=(c.toNat:Int)/\(c.toNat:Int)<=57)
def a6j(l:List UInt8):Bool:=l.all dig
def b4R(l:List UInt8):Int:=l.foldl (fun n c=>n*10+((c.toNat:Int)-48)) 0
def low(c:UInt8):Bool:=decide (97<=(c.toNat:Int)/\(c.toNat:Int)<=122)
def c1M(l:List UInt8):Bool:=l.all low
def isNum(l:List UInt8):Bool:=decide (1<=l.length/\l.length<=7) && a6j l
def a1j(l:List UInt8):Bool:=decide (1<=l.length/\l.length<=8) && c1M l
theorem a6k(c:UInt8):dig c=true↔48<=(c.toNat:Int)/\(c.toNat:Int)<=57:=by simp[dig]
theorem c0s(c:UInt8):low c=true↔97<=(c.toNat:Int)/\(c.toNat:Int)<=122:=by simp[low]
theorem a6X(l:List UInt8)(c:UInt8):a6j (l++[c])=(a6j l && dig c):=by simp[a6j]
theorem b3c(l:List UInt8)(c:UInt8):c1M (l++[c])=(c1M l && low c):=by simp[c1M]
theorem b2Y(l:List UInt8)(c:UInt8):b4R (l++[c])=b4R l*10+((c.toNat:Int)-48):=by simp[b4R]
theorem a8N(s:ByteArray)(k:Nat)(h:k<s.size):s.data.toList.take (k+1)=s.data.toList.take k++[s[k]]:=by
 rw[List.take_succ_eq_append_getElem (by simpa using h)];rfl
theorem a5t(s:ByteArray)(k:Nat)(h:s.size<=k):s.data.toList.take k=s.data.toList:=List.take_of_length_le (by simpa using h)
theorem a1d(s:ByteArray):s.data.toList.length=s.size:=by simp
theorem a8h(l:List UInt8)(k:Nat)(h:a6j (l.take k)=false):a6j l=false:=by
 unfold a6j at *;rw[List.all_eq_false] at *;obtain⟨x,hx,h⟩:=h;exact⟨x,List.mem_of_mem_take hx,h⟩
theorem b3d(l:List UInt8)(k:Nat)(h:c1M (l.take k)=false):c1M l=false:=by
 unfold c1M at *;rw[List.all_eq_false] at *;obtain⟨x,hx,h⟩:=h;exact⟨x,List.mem_of_mem_take hx,h⟩
theorem c5i(l:List UInt8):∀ (k:Nat)(n:Int),0<=n->n<10 ^ k->a6j l=true->0<=l.foldl (fun n c=>n*10+((c.toNat:Int)-48)) n/\l.foldl (fun n c=>n*10+((c.toNat:Int)-48)) n<10 ^ (k+l.length):=by
 induction l with
 |nil=>intro k n h0 h1 _;exact⟨h0,h1⟩
 |cons c l ih =>
  intro k n h0 h1 hd;simp only[a6j,List.all_cons,Bool.and_eq_true] at hd;have hc:=(a6k c).1 hd.1;have:=ih (k+1) (n*10+((c.toNat:Int)-48)) (by omega) (by rw[Int.pow_succ];omega) hd.2;simp only[List.foldl_cons,List.length_cons];rw[show k+(l.length+1)=k+1+l.length from by omega];exact this
theorem c0i(l:List UInt8)(h:a6j l=true)(hl:l.length<=7):0<=b4R l/\b4R l<=9999999:=by
 have b:=c5i l 0 0 (by omega) (by decide) h;have q:∀ k:Nat,k<8->(10:Int) ^ k<=10000000:=by decide
 have p:=q (0+l.length) (by omega);unfold b4R;omega
theorem b0J(h1:1<=l.length)(h2:l.length<=7)(h3:a6j l=true):isNum l=true:=by
 simp[isNum,h1,h2,h3]
theorem b3o(h:¬ (1<=l.length/\l.length<=7)):isNum l=false:=by
 unfold isNum;rw[decide_eq_false h];rfl
theorem b3q(h:a6j l=false):isNum l=false:=by simp[isNum,h]
theorem b3p(l:List UInt8):isNum l=true↔(1<=l.length/\l.length<=7)/\a6j l=true:=by simp[isNum]
theorem b5b(h1:1<=l.length)(h2:l.length<=8)(h3:c1M l=true):a1j l=true:=by
 simp[a1j,h1,h2,h3]
theorem b0K(h:¬ (1<=l.length/\l.length<=8)):a1j l=false:=by
 unfold a1j;rw[decide_eq_false h];rfl
theorem b8r(h:c1M l=false):a1j l=false:=by simp[a1j,h]
def a2f(l:List UInt8):Int:=if isNum l then b4R l else 0
theorem a2B(l:List UInt8):0<=a2f l/\a2f l<=9999999:=by
 unfold a2f
 split
 ·rename_i h
  have:=(b3p l).1 h;exact c0i l this.2 this.1.2
 ·omega
end Go.Proofs.YtfigmlfdnickmaaGreatDoor.Txt
namespace Go.Proofs.YtfigmlfdnickmaaGreatDoor.Txt
def a0V(s:ByteArray)(i:Nat):Int:=((s.data.toList.getD i 0).toNat:Int)
theorem a2W(s:ByteArray)(i:Nat)(h:i<s.size):a0V s i=(s[i].toNat:Int):=by
 unfold a0V;rw[List.getD_eq_getElem?_getD,List.getElem?_eq_getElem (by simpa using h)];rfl
def part(s:ByteArray)(a b:Nat):List UInt8:=(s.extract a b).data.toList
def a3a(s:ByteArray):Bool:=decide (s.size=5/\a0V s 2=58/\isNum (part s 0 2)=true/\isNum (part s 3 5)=true/\a2f (part s 0 2)<=23/\a2f (part s 3 5)<=59)
def a6J(s:ByteArray):Int:=if a3a s then a2f (part s 0 2)*60+a2f (part s 3 5) else 0
def a5j(s:ByteArray):Bool:=decide (s.size=10/\a0V s 4=45/\a0V s 7=45/\isNum (part s 0 4)=true/\isNum (part s 5 7)=true/\isNum (part s 8 10)=true/\Cal.ok (a2f (part s 0 4)) (a2f (part s 5 7)) (a2f (part s 8 10))=true)
def a2o(s:ByteArray):Int:=if a5j s then Cal.num (a2f (part s 0 4)) (a2f (part s 5 7)) (a2f (part s 8 10)) else 0
def a2y(s:ByteArray):Bool:=decide (a5j s=true/\0<=a2o s/\a2o s<728)
theorem a5D(h:¬ (s.size=5/\a0V s 2=58/\isNum (part s 0 2)=true/\isNum (part s 3 5)=true/\a2f (part s 0 2)<=23/\a2f (part s 3 5)<=59)):a3a s=false:=decide_eq_false h
theorem a6l(h:¬ (s.size=10/\a0V s 4=45/\a0V s 7=45/\isNum (part s 0 4)=true/\isNum (part s 5 7)=true/\isNum (part s 8 10)=true/\Cal.ok (a2f (part s 0 4)) (a2f (part s 5 7)) (a2f (part s 8 10))=true)):a5j s=false:=decide_eq_false h
theorem b6G(hs:s.size=5)(hb:a0V s 2=58):a3a s=(isNum (part s 0 2) && isNum (part s 3 5) && decide (a2f (part s 0 2)<=23) && decide (a2f (part s 3 5)<=59)):=by
 rw[Bool.eq_iff_iff];simp[a3a,hs,hb,and_assoc]
theorem c1h(hs:s.size=10)(hb:a0V s 4=45)(hc:a0V s 7=45):a5j s=(isNum (part s 0 4) && isNum (part s 5 7) && isNum (part s 8 10) && Cal.ok (a2f (part s 0 4)) (a2f (part s 5 7)) (a2f (part s 8 10))):=by
 rw[Bool.eq_iff_iff];simp[a5j,hs,hb,hc,and_assoc]
theorem c4W(s:ByteArray):0<=a6J s/\a6J s<=1439:=by
 unfold a6J
 split
 ·rename_i h
  have h:=of_decide_eq_true h;have:=a2B (part s 0 2);have:=a2B (part s 3 5);omega
 ·omega
theorem c3w(s:ByteArray):-738885<=a2o s/\a2o s<=2913173:=by
 unfold a2o
 split
 ·rename_i h
  have h:=of_decide_eq_true h;have b:=Cal.c3X _ _ _ h.2.2.2.2.2.2;unfold Cal.first Cal.last at b;exact b
 ·omega
end Go.Proofs.YtfigmlfdnickmaaGreatDoor.Txt
namespace Go.Proofs.YtfigmlfdnickmaaGreatDoor.Txt
open Go
def dmB(s:ByteArray):Bool:=decide (s.size=16/\a0V s 10=47/\a5j (s.extract 0 10)=true/\a3a (s.extract 11 16)=true)
def dmV(s:ByteArray):Int:=if dmB s then a2o (s.extract 0 10)*1440+a6J (s.extract 11 16) else 0
def b1a(s:ByteArray):ByteArray:={ data:=(Lib.cut s.data.toList [47]).fst.toArray }
def b0Z(s:ByteArray):ByteArray:={ data:=(Lib.cut s.data.toList [47]).snd.fst.toArray }
def c1N(s:ByteArray):Bool:=(Lib.cut s.data.toList [47]).snd.snd
theorem a3g(s:ByteArray)(a b:Nat):(s.extract a b).data.toList=(s.data.toList.take b).drop a:=by
 rw[ByteArray.data_extract,Array.toList_extract];simp[List.drop_take]
theorem a7x{t:ByteArray}(h:s.data.toList=t.data.toList):s=t:=by
 cases s;cases t;simp only at h;congr;exact Array.toList_inj.1 h
theorem c6F(c:UInt8)(h:dig c=true):c≠47:=by
 intro e;subst e;revert h;decide
theorem b2h(h:a6j l=true){c:UInt8}(hc:c∈l):c≠47:=c6F c (by
 unfold a6j at h;rw[List.all_eq_true] at h;exact h c hc)
theorem a7C(h:isNum l=true):a6j l=true:=((b3p l).1 h).2
theorem b3N(t:ByteArray)(h:a5j t=true):∀ j,j<10->t.data.toList[j]?≠some 47:=by
 have h:=of_decide_eq_true h;obtain⟨hs,b4,b7,n1,n2,n3,_⟩:=h;have d1:=a7C n1;have d2:=a7C n2;have d3:=a7C n3;unfold part at d1 d2 d3;rw[a3g] at d1 d2 d3;have hl:t.data.toList.length=10:=by rw[a1d];exact hs
 intro j hj he;have hjl:j<t.data.toList.length:=by omega
 have e:t.data.toList[j]=47:=by
  rw[List.getElem?_eq_getElem hjl] at he;exact Option.some.inj he
 have m1:j<4->False:=fun h4=>b2h d1 (c:=t.data.toList[j]) (by
  rw[List.mem_iff_getElem?];exact⟨j,by rw[List.getElem?_drop,List.getElem?_take];simp[h4]⟩) e
 have m2:5<=j->j<7->False:=fun h5 h7=>b2h d2 (c:=t.data.toList[j]) (by
  rw[List.mem_iff_getElem?];exact⟨j-5,by rw[List.getElem?_drop,List.getElem?_take];simp[show 5+(j-5)=j from by omega,h7]⟩) e
 have m3:8<=j->False:=fun h8=>b2h d3 (c:=t.data.toList[j]) (by
  rw[List.mem_iff_getElem?];exact⟨j-8,by rw[List.getElem?_drop,List.getElem?_take];simp[show 8+(j-8)=j from by omega,hj]⟩) e
 have g:∀ k:Nat,j=k->a0V t k=47:=fun k hk=>by
  subst hk;unfold a0V;rw[List.getD_eq_getElem?_getD,List.getElem?_eq_getElem hjl,e];rfl
 by_cases c4:j=4
 ·have:=g 4 c4;omega
 ·by_cases c7:j=7
  ·have:=g 7 c7;omega
  ·by_cases c1:j<4
   ·exact m1 c1
   ·by_cases c2:j<7
    ·exact m2 (by omega) c2
    ·exact m3 (by omega)
theorem b4P(l:List UInt8)(i:Nat):Lib.occAt l [47] i=true↔l[i]?=some 47:=by
 unfold Lib.occAt;rw[<- List.head?_drop]
 cases l.drop i with
 |nil=>simp[List.isPrefixOf]
 |cons b r=>simp[List.isPrefixOf];exact eq_comm
theorem c1m(hs:s.size=16)(hb:a0V s 10=47)(hd:a5j (s.extract 0 10)=true):b1a s=s.extract 0 10/\b0Z s=s.extract 11 16/\c1N s=true:=by
 have hl:s.data.toList.length=16:=by rw[a1d];exact hs
 have h10:s.data.toList[10]?=some 47:=by
  unfold a0V at hb;rw[List.getD_eq_getElem?_getD,List.getElem?_eq_getElem (by omega)] at hb;rw[List.getElem?_eq_getElem (by omega)];have:(s.data.toList[10]'(by omega)).toNat=47:=by simpa using (by exact_mod_cast hb:_)
  rw[show s.data.toList[10]'(by omega)=47 from UInt8.toNat_inj.1 (by simpa using this)]
 have hi:Lib.index s.data.toList [47]=10:=Lib.index_first (i:=10) (by omega) ((b4P _ _).2 h10) (fun j hj=>by
  cases ho:Lib.occAt s.data.toList [47] j with
  |false=>rfl
  |true =>
   have:=b3N _ hd j hj;rw[a3g,List.drop_zero,List.getElem?_take,if_pos hj] at this
   exact absurd ((b4P _ _).1 ho) this)
 have hc:Lib.cut s.data.toList [47]=(s.data.toList.take 10,s.data.toList.drop 11,true):=by
  unfold Lib.cut;rw[hi];rfl
 refine⟨a7x ?_,a7x ?_,?_⟩
 ·simp only[b1a,hc,a3g];simp
 ·simp only[b0Z,hc,a3g];rw[List.take_of_length_le (by omega)]
 ·simp[c1N,hc]
theorem c6H(s:ByteArray):(c1N s && a5j (b1a s) && a3a (b0Z s))=dmB s/\(dmB s=true->a2o (b1a s)*1440+a6J (b0Z s)=dmV s):=by
 have key:(c1N s && a5j (b1a s) && a3a (b0Z s))=dmB s:=by
  rw[Bool.eq_iff_iff];constructor
  ·intro h;simp only[Bool.and_eq_true] at h;obtain⟨⟨hf,hd⟩,hm⟩:=h;have s1:(b1a s).size=10:=(of_decide_eq_true hd).1;have s2:(b0Z s).size=5:=(of_decide_eq_true hm).1
   have hi:0<=Lib.index s.data.toList [47]:=by
    by_cases hi:0<=Lib.index s.data.toList [47]
    ·exact hi
    ·simp[c1N,Lib.cut,hi] at hf
   obtain⟨i,hi'⟩:=Int.eq_ofNat_of_zero_le hi;have hr:=Lib.index_room s.data.toList [47] hi
   have hc:Lib.cut s.data.toList [47]=(s.data.toList.take i,s.data.toList.drop (i+1),true):=by
    unfold Lib.cut;rw[if_pos hi,hi'];simp
   have hocc:s.data.toList[i]?=some 47:=by
    rcases Lib.index_spec s.data.toList [47] with ⟨h,_⟩|⟨j,hj,_,ho,_⟩
    ·omega
    ·rw[hi'] at hj;have:i=j:=by omega
     subst this;exact (b4P _ _).1 ho
   rw[hi'] at hr;simp only[List.length_singleton,a1d] at hr
   have e1:min i s.size=10:=by
    rw[<- a1d] at s1;simp only[b1a,hc] at s1;simpa using s1
   have e2:s.size-(i+1)=5:=by
    rw[<- a1d] at s2;simp only[b0Z,hc] at s2;simpa using s2
   have i10:i=10:=by omega
   have hs:s.size=16:=by omega
   subst i10;have a1:b1a s=s.extract 0 10:=a7x (by simp only[b1a,hc,a3g];simp);have a2:b0Z s=s.extract 11 16:=a7x (by simp only[b0Z,hc,a3g];rw[List.take_of_length_le (by rw[a1d];omega)]);rw[a1] at hd;rw[a2] at hm
   have hb:a0V s 10=47:=by
    unfold a0V;rw[List.getD_eq_getElem?_getD,hocc];rfl
   exact decide_eq_true ⟨hs,hb,hd,hm⟩
  ·intro h;obtain⟨hs,hb,hd,hm⟩:=of_decide_eq_true h;obtain⟨a1,a2,a3⟩:=c1m hs hb hd;rw[a1,a2,a3,hd,hm];rfl
 refine⟨key,fun h=>?_⟩;obtain⟨hs,hb,hd,_⟩:=of_decide_eq_true h;obtain⟨a1,a2,_⟩:=c1m hs hb hd;rw[a1,a2];simp[dmV,h]
end Go.Proofs.YtfigmlfdnickmaaGreatDoor.Txt
namespace Go.Proofs.YtfigmlfdnickmaaGreatDoor.Txt
open Go
def a3H(b:Bool)(pos:Nat)(x:List (Nat × Nat) × Option Nat):List (Nat × Nat) × Option Nat :=
 if b then (match x.2 with|some a=>(x.1++[(a,pos)],none)|none=>(x.1,none)) else (x.1,some (x.2.getD pos))
def spK(s:ByteArray):Nat->List (Nat × Nat) × Option Nat
 |0=>([],none)
 |k+1=>a3H (decide (a0V s k=32)) k (spK s k)
def a1v(s:ByteArray):List ByteArray:=(Lib.closeSpans s (spK s s.size)).map fun x=>s.extract x.1 x.2
theorem b0R(s:ByteArray)(i:Nat)(h:i<s.size):(s.get! i).toNat=(a0V s i).toNat:=by
 unfold a0V;rw[List.getD_eq_getElem?_getD,List.getElem?_eq_getElem (by simpa using h)];simp only[Option.getD_some,Int.toNat_natCast]
 congr 1
 cases s with
 |mk a=>simp only[ByteArray.get!];rw[getElem!_pos a i h];simp
theorem b3J(s:ByteArray)(i:Nat)(h:i<s.size):
  ((s.get! i).toNat<128/\Utf8.decode s i=((s.get! i).toNat,1)) \/
  (128<=(Utf8.decode s i).1/\1<=(Utf8.decode s i).2/\∀ j,j<(Utf8.decode s i).2->128<=(s.get! (i+j)).toNat/\i+j<s.size):=by
 unfold Utf8.decode;simp only[Nat.add_zero]
 by_cases h0:(s.get! i).toNat<128
 ·left;exact⟨h0,by rw[if_pos (by omega)]⟩
 ·right;rw[if_neg (by omega)]
  have one:∀ j,j<1->128<=(s.get! (i+j)).toNat/\i+j<s.size:=fun j hj=>by
   obtain rfl:j=0:=by omega
   exact⟨by simpa using h0,by omega⟩
  split
  ·rename_i hc
   simp only[Bool.and_eq_true,decide_eq_true_eq,beq_iff_eq] at hc
   split
   ·refine⟨by simp only;omega,by simp,fun j hj=>?_⟩;simp only at hj;rcases (show j=0\/j=1 by omega) with rfl|rfl
    ·exact one 0 (by omega)
    ·exact⟨by omega,by omega⟩
   ·exact⟨by simp[Utf8.runeError],by simp,one⟩
  ·split
   ·rename_i hc
    simp only[Bool.and_eq_true,decide_eq_true_eq,beq_iff_eq] at hc
    split
    ·rename_i hv
     simp only[Bool.and_eq_true,decide_eq_true_eq] at hv;refine⟨by simp only;omega,by simp,fun j hj=>?_⟩;simp only at hj;rcases (show j=0\/j=1\/j=2 by omega) with rfl|rfl|rfl
     ·exact one 0 (by omega)
     ·exact⟨by omega,by omega⟩
     ·exact⟨by omega,by omega⟩
    ·exact⟨by simp[Utf8.runeError],by simp,one⟩
   ·split
    ·rename_i hc
     simp only[Bool.and_eq_true,decide_eq_true_eq,beq_iff_eq] at hc
     split
     ·rename_i hv
      simp only[Bool.and_eq_true,decide_eq_true_eq] at hv;refine⟨by simp only;omega,by simp,fun j hj=>?_⟩;simp only at hj;rcases (show j=0\/j=1\/j=2\/j=3 by omega) with rfl|rfl|rfl|rfl
      ·exact one 0 (by omega)
      ·exact⟨by omega,by omega⟩
      ·exact⟨by omega,by omega⟩
      ·exact⟨by omega,by omega⟩
     ·exact⟨by simp[Utf8.runeError],by simp,one⟩
    ·exact⟨by simp[Utf8.runeError],by simp,one⟩
theorem c4C(s:ByteArray)(pos:Nat):∀ n:Nat,(∀ j,j<n+1->a0V s (pos+j)≠32)->spK s (pos+(n+1))=((spK s pos).1,some ((spK s pos).2.getD pos)):=by
 intro n
 induction n with
 |zero =>
  intro h;have:=h 0 (by omega);simp only[Nat.add_zero] at this;show a3H _ pos (spK s pos)=_;rw[decide_eq_false this];rfl
 |succ n ih =>
  intro h;have i:=ih (fun j hj=>h j (by omega));have:=h (n+1) (by omega);show a3H (decide (a0V s (pos+(n+1))=32)) (pos+(n+1)) (spK s (pos+(n+1)))=_;rw[decide_eq_false this,i];rfl
theorem c2l(s:ByteArray):∀ (f pos:Nat),pos<=s.size->s.size-pos<=f->Lib.spansFromP (fun r=>r==32) s f pos (spK s pos).2 (spK s pos).1=spK s s.size:=by
 intro f
 induction f with
 |zero =>
  intro pos h1 h2;obtain rfl:pos=s.size:=by omega
  rfl
 |succ f ih =>
  intro pos h1 h2
  by_cases hlt:pos<s.size
  ·unfold Lib.spansFromP;rw[if_pos hlt];rcases b3J s pos hlt with ⟨hb,hd⟩|⟨hr,hw,hj⟩
   ·rw[hd];simp only;have gb:=b0R s pos hlt;have nb:0<=a0V s pos:=by unfold a0V;omega
    have i:=ih (pos+1) (by omega) (by omega);have st:spK s (pos+1)=a3H (decide (a0V s pos=32)) pos (spK s pos):=rfl
    by_cases h32:a0V s pos=32
    ·have e:((s.get! pos).toNat==32)=true:=by rw[beq_iff_eq];omega
     rw[e,if_pos rfl];rw[decide_eq_true h32] at st
     cases hs:(spK s pos).2 with
     |none=>simp only;rw[st] at i;simp only[a3H,hs,if_true] at i;exact i
     |some a=>simp only;rw[st] at i;simp only[a3H,hs,if_true] at i;exact i
    ·have e:((s.get! pos).toNat==32)=false:=by rw[beq_eq_false_iff_ne];omega
     rw[e,if_neg (by decide)];rw[decide_eq_false h32] at st
     cases hs:(spK s pos).2 with
     |none=>simp only;rw[st] at i;simp only[a3H,hs,Bool.false_eq_true,if_false,Option.getD_none] at i;exact i
     |some a=>simp only;rw[st] at i;simp only[a3H,hs,Bool.false_eq_true,if_false,Option.getD_some] at i;exact i
   ·have e:((Utf8.decode s pos).1==32)=false:=by rw[beq_eq_false_iff_ne];omega
    rw[e,if_neg (by decide)];obtain⟨n,hn⟩:∃ n,(Utf8.decode s pos).2=n+1:=⟨(Utf8.decode s pos).2-1,by omega⟩;have lastj:=hj ((Utf8.decode s pos).2-1) (by omega)
    have st:=c4C s pos n (fun j hjn=>by
     have q:=hj j (by omega);have gb:=b0R s (pos+j) q.2;have nb:0<=a0V s (pos+j):=by unfold a0V;omega
     omega)
    have i:=ih (pos+(n+1)) (by omega) (by omega);rw[st] at i;rw[hn]
    cases hs:(spK s pos).2 with
    |none=>simp only;simp only[hs,Option.getD_none] at i;exact i
    |some a=>simp only;simp only[hs,Option.getD_some] at i;exact i
  ·obtain rfl:pos=s.size:=by omega
   unfold Lib.spansFromP;rw[if_neg hlt]
theorem b3C(s:ByteArray):Lib.goFieldsP (fun r=>r==32) s=a1v s:=by
 unfold Lib.goFieldsP Lib.spansOfP a1v;have:=c2l s s.size 0 (zN _) (by omega);rw[show (spK s 0).2=none from rfl,show (spK s 0).1=[] from rfl] at this;rw[this]
end Go.Proofs.YtfigmlfdnickmaaGreatDoor.Txt
namespace Go.Proofs.YtfigmlfdnickmaaGreatDoor.Txt
open Go
def a8z(s:ByteArray)(k:Nat):ByteArray:=match (spK s k).2 with|none=>⟨#[]⟩|some a=>s.extract a k
def b7w(s:ByteArray)(k:Nat):List ByteArray:=(spK s k).1.map fun x=>s.extract x.1 x.2
theorem b5U(s:ByteArray):∀ (k a:Nat),(spK s k).2=some a->a<k
 |0,a,h=>by simp[spK] at h
 |k+1,a,h=>by
  simp only[spK,a3H] at h
  split at h
  ·split at h <;> simp at h
  ·simp only[Option.some.injEq] at h
   cases hs:(spK s k).2 with
   |none=>rw[hs] at h;simp at h;omega
   |some b=>rw[hs] at h;simp at h;have:=b5U s k b hs;omega
theorem a1X(a b:ByteArray):(a++b).data.toList=a.data.toList++b.data.toList:=by
 rw[ByteArray.data_append,Array.toList_append]
theorem c5l(s:ByteArray)(a k:Nat)(h:a<=k):s.extract a k++s.extract k (k+1)=s.extract a (k+1):=by
 apply a7x;rw[a1X,a3g,a3g,a3g]
 have h1:(s.data.toList.take k).drop a=((s.data.toList.take (k+1)).drop a).take (k-a):=by
  rw[List.drop_take,List.drop_take,List.take_take,show min (k-a) (k+1-a)=k-a from by omega]
 have h2:(s.data.toList.take (k+1)).drop k=((s.data.toList.take (k+1)).drop a).drop (k-a):=by
  rw[List.drop_drop,show a+(k-a)=k from by omega]
 rw[h1,h2,List.take_append_drop]
theorem b7k(s:ByteArray)(k:Nat):(a8z s k).size<=k:=by
 unfold a8z
 split
 ·exact zN _
 ·have:∀ a b,(s.extract a b).size=min b s.size-a:=fun a b=>ByteArray.size_extract ..
  rw[this];omega
theorem c0V(b:ByteArray):(⟨#[]⟩:ByteArray)++b=b:=by
 apply a7x;rw[a1X];rfl
theorem b7l(s:ByteArray)(k:Nat)(h:a0V s k≠32):a8z s k++s.extract k (k+1)=a8z s (k+1)/\b7w s (k+1)=b7w s k:=by
 have e:spK s (k+1)=((spK s k).1,some ((spK s k).2.getD k)):=by simp only[spK,a3H,decide_eq_false h];rfl
 refine⟨?_,by unfold b7w;rw[e]⟩;unfold a8z;rw[e]
 cases hs:(spK s k).2 with
 |none=>simp only[Option.getD_none];exact c0V _
 |some a=>simp only[Option.getD_some];exact c5l s a k (Nat.le_of_lt (b5U s k a hs))
theorem b3O(s:ByteArray)(k:Nat)(hk:k<=s.size)(h:a0V s k=32):a8z s (k+1)=⟨#[]⟩/\b7w s (k+1)=b7w s k++(if (a8z s k).size=0 then [] else [a8z s k]):=by
 have e:spK s (k+1)=a3H true k (spK s k):=by simp only[spK,decide_eq_true h]
 cases hs:(spK s k).2 with
 |none =>
  have e2:spK s (k+1)=((spK s k).1,none):=by rw[e];simp[a3H,hs]
  have c:a8z s k=⟨#[]⟩:=by unfold a8z;rw[hs]
  refine⟨by unfold a8z;rw[e2],?_⟩;rw[c];unfold b7w;rw[e2];simp;rfl
 |some a =>
  have e2:spK s (k+1)=((spK s k).1++[(a,k)],none):=by rw[e];simp[a3H,hs]
  have c:a8z s k=s.extract a k:=by unfold a8z;rw[hs]
  have lt:=b5U s k a hs;have sz:(s.extract a k).size=min k s.size-a:=ByteArray.size_extract ..;refine⟨by unfold a8z;rw[e2],?_⟩;rw[c,if_neg (by omega)];unfold b7w;rw[e2];simp
theorem b2t(s:ByteArray):a1v s=b7w s s.size++(if (a8z s s.size).size=0 then [] else [a8z s s.size]):=by
 unfold a1v b7w a8z Lib.closeSpans
 cases hs:(spK s s.size).2 with
 |none=>simp;rfl
 |some a =>
  have lt:=b5U s _ a hs;have sz:(s.extract a s.size).size=min s.size s.size-a:=ByteArray.size_extract ..;simp only;rw[if_neg (by omega)];simp
theorem b5J(s:ByteArray):∀ k:Nat,(b7w s k).length<=k
 |0=>zq _
 |k+1=>by
  have ih:=b5J s k;unfold b7w at *;rw[List.length_map] at *;simp only[spK,a3H]
  split
  ·split <;> simp <;> omega
  ·simp;omega
end Go.Proofs.YtfigmlfdnickmaaGreatDoor.Txt
namespace Go.Proofs.YtfigmlfdnickmaaGreatDoor.Txt
open Go
def wdL(l:List UInt8):Int :=
 if l==[109,111] then 0 else if l==[116,117] then 1 else if l==[119,101] then 2 else if l==[116,104] then 3 else if l==[102,114] then 4 else if l==[115,97] then 5 else if l==[115,117] then 6 else -1
theorem c3Q(l:List UInt8):-1<=wdL l/\wdL l<=6:=by
 unfold wdL;(repeat' split) <;> omega
theorem b8X(h:0<=wdL l):l=[109,111]\/l=[116,117]\/l=[119,101]\/l=[116,104]\/l=[102,114]\/l=[115,97]\/l=[115,117]:=by
 unfold wdL at h
 by_cases c0:(l==[109,111])=true
 ·exact .inl (beq_iff_eq.1 c0)
 ·rw[if_neg c0] at h
  by_cases c1:(l==[116,117])=true
  ·exact .inr (.inl (beq_iff_eq.1 c1))
  ·rw[if_neg c1] at h
   by_cases c2:(l==[119,101])=true
   ·exact .inr (.inr (.inl (beq_iff_eq.1 c2)))
   ·rw[if_neg c2] at h
    by_cases c3:(l==[116,104])=true
    ·exact .inr (.inr (.inr (.inl (beq_iff_eq.1 c3))))
    ·rw[if_neg c3] at h
     by_cases c4:(l==[102,114])=true
     ·exact .inr (.inr (.inr (.inr (.inl (beq_iff_eq.1 c4)))))
     ·rw[if_neg c4] at h
      by_cases c5:(l==[115,97])=true
      ·exact .inr (.inr (.inr (.inr (.inr (.inl (beq_iff_eq.1 c5))))))
      ·rw[if_neg c5] at h
       by_cases c6:(l==[115,117])=true
       ·exact .inr (.inr (.inr (.inr (.inr (.inr (beq_iff_eq.1 c6))))))
       ·rw[if_neg c6] at h;omega
theorem c4s(h:0<=wdL l):l.length=2/\44 ∉ l:=by
 rcases b8X h with rfl|rfl|rfl|rfl|rfl|rfl|rfl <;> decide
theorem a8E(h:¬ (l.length=2/\44 ∉ l)):wdL l=-1:=by
 have b:=c3Q l
 by_cases g:0<=wdL l
 ·exact absurd (c4s g) h
 ·omega
def a4D(acc:List Int)(d:Int):Option (List Int):=if 0<=d/\acc.contains d=false then some (d :: acc) else none
def onP:List (List UInt8)->List Int->Option (List Int)
 |[],acc=>some acc
 |p :: ps,acc=>(a4D acc (wdL p)).bind (onP ps)
def onC:List UInt8->List Int->Option (List Int)
 |[a,b],acc=>a4D acc (wdL [a,b])
 |a :: b :: c :: r,acc=>if c=44 then (a4D acc (wdL [a,b])).bind (onC r) else none
 |_,_=>none
def sp:List UInt8->List (List UInt8)
 |[]=>[[]]
 |c :: l=>if c=44 then [] :: sp l else (match sp l with| []=>[[c]]|p :: ps=>(c :: p) :: ps)
theorem a6z(acc:List Int):a4D acc (-1)=none:=by simp[a4D]
theorem c6S(l:List UInt8):sp l≠[]:=by
 cases l with
 |nil=>simp[sp]
 |cons c l=>unfold sp;split;simp;split <;> simp
theorem a2U{p:List UInt8}(ps:List (List UInt8))(acc:List Int)(h:¬ (p.length=2/\44 ∉ p)):onP (p :: ps) acc=none:=by
 simp[onP,a8E h,a6z]
theorem f4x:∀ (l:List UInt8)(acc r:List Int),onC l acc=some r->l.length % 3=2
 |[],_,_,h=>by simp[onC] at h
 |[_],_,_,h=>by simp[onC] at h
 |[_,_],_,_,_=>rfl
 |a :: b :: c :: l,acc,r,h=>by
  unfold onC at h
  split at h
  ·simp only[Option.bind_eq_some_iff] at h;obtain⟨x,_,h⟩:=h;have:=f4x l x r h;simp only[List.length_cons];omega
  ·cases h
theorem a7k(c:UInt8)(l:List UInt8)(h:c≠44):∃ p ps,sp l=p :: ps/\sp (c :: l)=(c :: p) :: ps:=by
 cases hs:sp l with
 |nil=>exact absurd hs (c6S l)
 |cons p ps=>exact⟨p,ps,rfl,by simp[sp,h,hs]⟩
theorem a4h(l:List UInt8):sp (44 :: l)=[] :: sp l:=by simp[sp]
theorem b9V:∀ (l:List UInt8)(acc:List Int),onP (sp l) acc=onC l acc
 |[],acc=>by rw[show sp []=[[]] from rfl,a2U _ _ (by simp)];rfl
 |[a],acc=>by
  by_cases ha:a=44
  ·subst ha;rw[a4h,a2U _ _ (by simp)];rfl
  ·obtain⟨p,ps,h1,h2⟩:=a7k a [] ha;simp only[sp,List.cons.injEq] at h1;obtain⟨rfl,rfl⟩:=h1;rw[h2,a2U _ _ (by simp)];rfl
 |[a,b],acc=>by
  by_cases ha:a=44
  ·subst ha;rw[a4h,a2U _ _ (by simp),onC,a8E (by simp),a6z]
  ·obtain⟨p,ps,h1,h2⟩:=a7k a [b] ha;rw[h2]
   by_cases hb:b=44
   ·subst hb;rw[a4h] at h1;simp only[List.cons.injEq] at h1;obtain⟨rfl,rfl⟩:=h1;rw[a2U _ _ (by simp),onC,a8E (by simp),a6z]
   ·obtain⟨p',ps',h1',h2'⟩:=a7k b [] hb;simp only[sp,List.cons.injEq] at h1';obtain⟨rfl,rfl⟩:=h1';rw[h2'] at h1;simp only[List.cons.injEq] at h1;obtain⟨rfl,rfl⟩:=h1;simp only[onP,onC]
    cases a4D acc (wdL [a,b]) <;> rfl
 |a :: b :: c :: l,acc=>by
  have ih:=b9V l
  by_cases ha:a=44
  ·subst ha;rw[a4h,a2U _ _ (by simp),onC,a8E (by simp),a6z]
   split <;> rfl
  ·obtain⟨p,ps,h1,h2⟩:=a7k a (b :: c :: l) ha;rw[h2]
   by_cases hb:b=44
   ·subst hb;rw[a4h] at h1;simp only[List.cons.injEq] at h1;obtain⟨rfl,rfl⟩:=h1;rw[a2U _ _ (by simp),onC,a8E (by simp),a6z]
    split <;> rfl
   ·obtain⟨p',ps',h1',h2'⟩:=a7k b (c :: l) hb;rw[h2'] at h1;simp only[List.cons.injEq] at h1;obtain⟨rfl,rfl⟩:=h1
    by_cases hc:c=44
    ·subst hc;rw[a4h] at h1';simp only[List.cons.injEq] at h1';obtain⟨rfl,rfl⟩:=h1';simp only[onP,onC,if_true]
     cases a4D acc (wdL [a,b]) with
     |none=>rfl
     |some x=>exact ih x
    ·obtain⟨p'',ps'',_,h2''⟩:=a7k c l hc;rw[h2''] at h1';simp only[List.cons.injEq] at h1';obtain⟨rfl,rfl⟩:=h1';rw[a2U _ _ (by simp),onC,if_neg hc]
theorem b8u(c:UInt8)(l:List UInt8)(h:c≠44):Lib.index (c :: l) [44]=if Lib.index l [44]==-1 then -1 else Lib.index l [44]+1:=by
 rw[Lib.index];have:([44]:List UInt8).isPrefixOf (c :: l)=false:=by simp[List.isPrefixOf];exact fun e=>h e.symm
 rw[this];rfl
theorem b5c(l:List UInt8):Lib.index (44 :: l) [44]=0:=by
 rw[Lib.index];simp[List.isPrefixOf]
theorem b4B(c:UInt8)(l:List UInt8)(h:c≠44)(k:Nat):∃ p ps,Lib.splitK [44] 0 k l=p :: ps/\Lib.splitK [44] 0 k (c :: l)=(c :: p) :: ps:=by
 cases k with
 |zero=>exact⟨l,[],rfl,rfl⟩
 |succ k =>
  unfold Lib.splitK;rw[b8u c l h]
  by_cases hi:(Lib.index l [44]==-1)=true
  ·rw[if_pos hi,if_pos hi];exact⟨l,[],rfl,rfl⟩
  ·rw[if_neg hi,if_neg hi];have g:=Lib.index_ge l [44];have hn:Lib.index l [44]≠-1:=fun e=>hi (beq_iff_eq.2 e)
   rw[if_neg (by rw[beq_iff_eq];omega)];refine⟨_,_,rfl,?_⟩;obtain⟨i,hi'⟩:=Int.eq_ofNat_of_zero_le (show 0<=Lib.index l [44] by omega);rw[hi',show ((i:Int)+1).toNat=i+1 from by omega,show ((i:Int)).toNat=i from by omega];simp
theorem b5T:∀ l:List UInt8,Lib.splitK [44] 0 (l.count 44) l=sp l
 |[]=>rfl
 |c :: l=>by
  have ih:=b5T l
  by_cases h:c=44
  ·subst h;rw[List.count_cons_self,a4h,<- ih];rw[Lib.splitK,b5c];simp
  ·rw[List.count_cons_of_ne (by simpa using h)];obtain⟨p,ps,h1,h2⟩:=b4B c l h (l.count 44);rw[h2];rw[ih] at h1;simp[sp,h,h1]
def onW(s:ByteArray):Option (List Int):=onC s.data.toList []
def onB(s:ByteArray):Bool:=(onW s).isSome
theorem b9L(s:ByteArray):onP ((Lib.splitB ⟨#[44]⟩ 0 (Lib.countB s ⟨#[44]⟩) s).map (·.data.toList)) []=onW s:=by
 rw[Lib.splitB_data];have hc:Lib.countB s ⟨#[44]⟩=s.data.toList.count 44:=Lib.count_one 44 s.data.toList;rw[hc,show (ByteArray.mk #[44]).data.toList=[44] from rfl,b5T,b9V];rfl
end Go.Proofs.YtfigmlfdnickmaaGreatDoor.Txt
namespace Go.Proofs.YtfigmlfdnickmaaGreatDoor
def isd(acc:List Int)(j:Int):Bool:=acc.contains j
end Go.Proofs.YtfigmlfdnickmaaGreatDoor
namespace Go.Proofs.YtfigmlfdnickmaaGreatDoor
theorem a4i{α:Type}{lt:α->α->Prop}(hi:∀ x,¬ lt x x)(ht:∀ x y z,lt x y->lt y z->lt x z):∀ {l m:List α},l.Pairwise lt->m.Pairwise lt->(∀ x,x∈l↔x∈m)->l=m
 |[],[],_,_,_=>rfl
 |[],y :: m,_,_,h=>by have:=(h y).2 (by simp);simp at this
 |x :: l,[],_,_,h=>by have:=(h x).1 (by simp);simp at this
 |x :: l,y :: m,hl,hm,h=>by
  rw[List.pairwise_cons] at hl hm
  have e:x=y:=by
   rcases List.mem_cons.1 ((h x).1 (by simp)) with e|e
   ·exact e
   ·rcases List.mem_cons.1 ((h y).2 (by simp)) with k|k
    ·exact k.symm
    ·exact absurd (ht _ _ _ (hl.1 y k) (hm.1 x e)) (hi x)
  subst e
  congr 1
  refine a4i hi ht hl.2 hm.2 (fun z=>?_);constructor
  ·intro hz;rcases List.mem_cons.1 ((h z).1 (by simp[hz])) with e|e
   ·subst e;exact absurd (hl.1 z hz) (hi z)
   ·exact e
  ·intro hz;rcases List.mem_cons.1 ((h z).2 (by simp[hz])) with e|e
   ·subst e;exact absurd (hm.1 z hz) (hi z)
   ·exact e
namespace Rd
def a1p(p:Int->Bool):Nat->Int->List Int
 |0,_=>[]
 |k+1,d=>if p d then d :: a1p p k (d+1) else a1p p k (d+1)
theorem a5r(p:Int->Bool):∀ (k:Nat)(d x:Int),x∈a1p p k d↔d<=x/\x<d+k/\p x=true
 |0,d,x=>by simp[a1p];omega
 |k+1,d,x=>by
  have ih:=a5r p k (d+1) x;simp only[a1p]
  by_cases c:p d=true
  ·rw[if_pos c,List.mem_cons,ih];constructor
   ·rintro (rfl|⟨h1,h2,h3⟩)
    ·exact⟨Int.le_refl _,by omega,c⟩
    ·exact⟨by omega,by omega,h3⟩
   ·rintro ⟨h1,h2,h3⟩
    by_cases e:x=d
    ·exact .inl e
    ·exact .inr ⟨by omega,by omega,h3⟩
  ·rw[if_neg c,ih];constructor
   ·rintro ⟨h1,h2,h3⟩;exact⟨by omega,by omega,h3⟩
   ·rintro ⟨h1,h2,h3⟩;have:x≠d:=fun e=>c (e ▸ h3)
    exact⟨by omega,by omega,h3⟩
theorem a3X(p:Int->Bool):∀ (k:Nat)(d:Int),(a1p p k d).Pairwise (· < ·)
 |0,d=>by simp[a1p]
 |k+1,d=>by
  simp only[a1p]
  split
  ·rw[List.pairwise_cons];exact⟨fun x hx=>by have:=(a5r p k (d+1) x).1 hx;omega,a3X p k (d+1)⟩
  ·exact a3X p k (d+1)
theorem b8Z{l m:List Int}(hl:l.Pairwise (· < ·))(hm:m.Pairwise (· < ·))(h:∀ x,x∈l↔x∈m):l=m :=
 a4i (lt:=fun a b:Int=>a<b) (fun x=>by omega) (fun x y z h k=>by omega) hl hm h
def b0f(ev:Int):Nat->Int->List Int
 |0,_=>[]
 |k+1,d=>if d<728 then d :: b0f ev k (d+ev) else []
theorem b6d{ev:Int}(he:1<=ev):∀ (k:Nat)(d x:Int),728<=d+k->(x∈b0f ev k d↔d<=x/\x<728/\(x-d) % ev=0)
 |0,d,x,h=>by simp[b0f];omega
 |k+1,d,x,h=>by
  simp only[b0f]
  by_cases c:d<728
  ·rw[if_pos c,List.mem_cons,b6d he k (d+ev) x (by omega)];have e1:(x-(d+ev)) % ev=(x-d) % ev:=by rw[show x-(d+ev)=x-d-ev from by omega,Int.sub_emod_right]
   rw[e1];constructor
   ·rintro (rfl|⟨h1,h2,h3⟩)
    ·exact⟨Int.le_refl _,c,by simp⟩
    ·exact⟨by omega,h2,h3⟩
   ·rintro ⟨h1,h2,h3⟩
    by_cases e:d+ev<=x
    ·exact .inr ⟨e,h2,h3⟩
    ·rw[Int.emod_eq_of_lt (by omega) (by omega)] at h3;exact .inl (by omega)
  ·rw[if_neg c];simp;omega
theorem b4H{ev:Int}(he:1<=ev):∀ (k:Nat)(d:Int),(b0f ev k d).Pairwise (· < ·)/\∀ x∈b0f ev k d,d<=x
 |0,d=>by simp[b0f]
 |k+1,d=>by
  simp only[b0f];obtain⟨i1,i2⟩:=b4H he k (d+ev)
  split
  ·refine⟨List.pairwise_cons.2 ⟨fun x hx=>by have:=i2 x hx;omega,i1⟩,fun x hx=>?_⟩;rcases List.mem_cons.1 hx with rfl|hx
   ·exact Int.le_refl _
   ·have:=i2 x hx;omega
  ·simp
def c1K(acc:List Int)(fr mon:Int):List Int:=a1p (fun d=>isd acc (d-mon)) (mon+7-max mon fr).toNat (max mon fr)
def a9Y(acc:List Int)(fr ev:Int):Nat->Int->List Int
 |0,_=>[]
 |k+1,mon=>if mon<728 then c1K acc fr mon++a9Y acc fr ev k (mon+ev*7) else []
theorem b1o{mon:Int}:x∈c1K acc fr mon↔mon<=x/\fr<=x/\x<mon+7/\isd acc (x-mon)=true:=by
 unfold c1K;rw[a5r];constructor
 ·rintro ⟨h1,h2,h3⟩;exact⟨by omega,by omega,by omega,h3⟩
 ·rintro ⟨h1,h2,h3,h4⟩;exact⟨by omega,by omega,h4⟩
theorem b6b{acc:List Int}{fr ev:Int}(he:1<=ev):∀ (k:Nat)(mon x:Int),0<=mon->mon % 7=0->728<=mon+k->(x∈a9Y acc fr ev k mon↔mon<=x/\fr<=x/\x<728/\isd acc (x % 7)=true/\(x / 7-mon / 7) % ev=0)
 |0,mon,x,h0,h7,h=>by simp[a9Y];omega
 |k+1,mon,x,h0,h7,h=>by
  simp only[a9Y]
  by_cases c:mon<728
  ·have hev:(ev*7) % 7=0:=by omega
   rw[if_pos c,List.mem_append,b1o,b6b he k (mon+ev*7) x (by omega) (by omega) (by omega)];have e0:(mon+ev*7) / 7=mon / 7+ev:=by omega
   have e1:(x / 7-(mon+ev*7) / 7) % ev=(x / 7-mon / 7) % ev:=by rw[e0,show x / 7-(mon / 7+ev)=x / 7-mon / 7-ev from by omega,Int.sub_emod_right]
   rw[e1];constructor
   ·rintro (⟨h1,h2,h3,h4⟩|⟨h1,h2,h3,h4,h5⟩)
    ·have e2:x-mon=x % 7:=by omega
     have e3:x / 7-mon / 7=0:=by omega
     rw[e2] at h4;rw[e3];exact⟨h1,h2,by omega,h4,by simp⟩
    ·exact⟨by omega,h2,h3,h4,h5⟩
   ·rintro ⟨h1,h2,h3,h4,h5⟩
    by_cases e:x<mon+7
    ·have e2:x-mon=x % 7:=by omega
     exact .inl ⟨h1,h2,e,by rw[e2];exact h4⟩
    ·by_cases e':mon+ev*7<=x
     ·exact .inr ⟨e',h2,h3,h4,h5⟩
     ·rw[Int.emod_eq_of_lt (by omega) (by omega)] at h5;omega
  ·rw[if_neg c];simp;omega
theorem b4F{acc:List Int}{fr ev:Int}(he:1<=ev):∀ (k:Nat)(mon:Int),(a9Y acc fr ev k mon).Pairwise (· < ·)/\∀ x∈a9Y acc fr ev k mon,mon<=x
 |0,mon=>by simp[a9Y]
 |k+1,mon=>by
  simp only[a9Y];obtain⟨i1,i2⟩:=b4F (acc:=acc) (fr:=fr) he k (mon+ev*7)
  split
  ·refine⟨List.pairwise_append.2 ⟨a3X _ _ _,i1,fun x hx y hy=>?_⟩,fun x hx=>?_⟩
   ·have:=b1o.1 hx;have:=i2 y hy;omega
   ·rcases List.mem_append.1 hx with hx|hx
    ·exact (b1o.1 hx).1
    ·have:=i2 x hx;omega
  ·simp
def reached(y m:Int):Bool:=Cal.ok y m 1 && decide (Cal.num y m 1<728)
def a4E(y m ev:Int):Int:=y+(m-1+ev) / 12
def a3J(m ev:Int):Int:=(m-1+ev) % 12+1
def a4s(y m dt:Int):List Int:=if Cal.ok y m dt then [Cal.num y m dt] else []
def b0e(dt ev:Int):Nat->Int->Int->List Int
 |0,_,_=>[]
 |k+1,y,m=>if reached y m then a4s y m dt++b0e dt ev k (a4E y m ev) (a3J m ev) else []
theorem a8c{d y' m' d':Int}(h:Cal.ok y m d=true)(h':Cal.ok y' m' d'=true)(k:12*y+m<12*y'+m'):Cal.num y m d<Cal.num y' m' d':=by
 have i:=Cal.a9p y m d h;have i':=Cal.a9p y' m' d' h';obtain⟨h1,h2,h3,h4,h5,h6⟩:=(Cal.a2K y m d).1 h;obtain⟨g1,g2,g3,g4,g5,g6⟩:=(Cal.a2K y' m' d').1 h'
 by_cases e:y=y'
 ·subst e;have:=Cal.b2i y m m' h3 (by omega) (by omega);unfold Cal.num;omega
 ·have:=Cal.a9T (y+1) y' (by omega) (by omega);omega
theorem a6I(h1:1<=y)(h2:y<=9999)(h3:1<=m)(h4:m<=12):Cal.ok y m 1=true:=by
 have:=Cal.b3I y m;exact (Cal.a2K _ _ _).2 ⟨h1,h2,h3,h4,by omega,by omega⟩
theorem a8Z(h1:2024<=y)(h2:y<=9999)(h3:1<=m)(h4:m<=12):reached y m=true↔12*y+m<=24312:=by
 have o:=a6I (m:=m) (by omega:1<=y) h2 h3 h4;unfold reached;rw[o,Bool.true_and,decide_eq_true_eq];have e1:Cal.num 2025 12 1=700:=by decide
 have e2:Cal.num 2026 1 1=731:=by decide
 constructor
 ·intro h;apply Classical.byContradiction;intro c
  by_cases e:12*y+m=24313
  ·have:y=2026:=by omega
   have:m=1:=by omega
   subst_vars;omega
  ·have:=a8c (a6I (y:=2026) (m:=1) (by omega) (by omega) (by omega) (by omega)) o (by omega);omega
 ·intro h
  by_cases e:12*y+m=24312
  ·have:y=2025:=by omega
   have:m=12:=by omega
   subst_vars;omega
  ·have:=a8c o (a6I (y:=2025) (m:=12) (by omega) (by omega) (by omega) (by omega)) (by omega);omega
theorem b1N{ev:Int}:12*a4E y m ev+a3J m ev=12*y+m+ev/\1<=a3J m ev/\a3J m ev<=12:=by
 unfold a4E a3J;omega
theorem a6c(h0:0<=x)(h1:x<728):Cal.ok (Cal.yT x) (Cal.mT x) (Cal.dT x)=true/\Cal.num (Cal.yT x) (Cal.mT x) (Cal.dT x)=x/\2024<=Cal.yT x/\12*Cal.yT x+Cal.mT x<=24312:=by
 obtain⟨o,n⟩:=Cal.c6G x (by omega) (by omega);refine⟨o,n,?_,?_⟩
 ·apply Classical.byContradiction;intro c;obtain⟨g1,g2,g3,g4,g5,g6⟩:=(Cal.a2K _ _ _).1 o;have:=a8c o (a6I (y:=2024) (m:=1) (by omega) (by omega) (by omega) (by omega)) (by omega);have e:Cal.num 2024 1 1=0:=by decide
  omega
 ·apply Classical.byContradiction;intro c;obtain⟨g1,g2,g3,g4,g5,g6⟩:=(Cal.a2K _ _ _).1 o;have e2:Cal.num 2026 1 1=731:=by decide
  have o2:=a6I (y:=2026) (m:=1) (by omega) (by omega) (by omega) (by omega)
  by_cases e:12*Cal.yT x+Cal.mT x=24313
  ·have:Cal.yT x=2026:=by omega
   have e':Cal.mT x=1:=by omega
   rw[this,e'] at n
   have e3:Cal.num 2026 1 (Cal.dT x)=731+Cal.dT x-1:=by
    have:Cal.num 2026 1 (Cal.dT x)=Cal.num 2026 1 1+Cal.dT x-1:=by unfold Cal.num;omega
    omega
   omega
  ·have:=a8c o2 o (by omega);omega
theorem b6c{dt ev:Int}(he:1<=ev)(he2:ev<=99):∀ (k:Nat)(y m x:Int),2024<=y->y<=2034->1<=m->m<=12->24312<12*y+m+k->0<=x->x<728 ->
  (x∈b0e dt ev k y m↔Cal.dT x=dt/\12*y+m<=12*Cal.yT x+Cal.mT x/\(12*Cal.yT x+Cal.mT x-12*y-m) % ev=0)
 |0,y,m,x,hy,hy2,hm,hm2,hk,h0,h1=>by
  have:=(a6c h0 h1).2.2.2;simp[b0e];omega
 |k+1,y,m,x,hy,hy2,hm,hm2,hk,h0,h1=>by
  obtain⟨o,n,y0,mx⟩:=a6c h0 h1;obtain⟨g1,g2,g3,g4,g5,g6⟩:=(Cal.a2K _ _ _).1 o;simp only[b0e];have hr:=a8Z (y:=y) (m:=m) hy (by omega) hm hm2
  by_cases c:12*y+m<=24312
  ·rw[if_pos (hr.2 c),List.mem_append];obtain⟨l1,l2,l3⟩:=b1N (y:=y) (m:=m) (ev:=ev);rw[b6c he he2 k (a4E y m ev) (a3J m ev) x (by omega) (by omega) l2 l3 (by omega) h0 h1]
   have e1:(12*Cal.yT x+Cal.mT x-12*a4E y m ev-a3J m ev) % ev=(12*Cal.yT x+Cal.mT x-12*y-m) % ev:=by
    rw[show 12*Cal.yT x+Cal.mT x-12*a4E y m ev-a3J m ev=12*Cal.yT x+Cal.mT x-12*y-m-ev from by omega,Int.sub_emod_right]
   rw[e1,l1]
   have hin:x∈a4s y m dt↔Cal.dT x=dt/\12*y+m=12*Cal.yT x+Cal.mT x:=by
    unfold a4s;constructor
    ·intro h
     by_cases ok:Cal.ok y m dt=true
     ·rw[if_pos ok] at h;have:x=Cal.num y m dt:=by simpa using h
      obtain⟨a1,a2,a3⟩:=Cal.c4g y m dt x ok this.symm;exact⟨a3.symm,by omega⟩
     ·rw[if_neg ok] at h;simp at h
    ·rintro ⟨a1,a2⟩;have e2:y=Cal.yT x:=by omega
     have e3:m=Cal.mT x:=by omega
     subst a1;rw[e2,e3,if_pos o,n];simp
   rw[hin];constructor
   ·rintro (⟨a1,a2⟩|⟨a1,a2,a3⟩)
    ·refine⟨a1,by omega,?_⟩;rw[show 12*Cal.yT x+Cal.mT x-12*y-m=0 from by omega];simp
    ·exact⟨a1,by omega,a3⟩
   ·rintro ⟨a1,a2,a3⟩
    by_cases e:12*y+m+ev<=12*Cal.yT x+Cal.mT x
    ·exact .inr ⟨a1,e,a3⟩
    ·rw[Int.emod_eq_of_lt (by omega) (by omega)] at a3;exact .inl ⟨a1,by omega⟩
  ·have hn:¬ reached y m=true:=fun h=>c (hr.1 h)
   rw[if_neg hn];simp;omega
theorem b4G{dt ev:Int}(he:1<=ev):∀ (k:Nat)(y m:Int),1<=m->m<=12->(b0e dt ev k y m).Pairwise (· < ·)/\∀ x∈b0e dt ev k y m,∃ y' m',Cal.ok y' m' dt=true/\x=Cal.num y' m' dt/\12*y+m<=12*y'+m'
 |0,y,m,_,_=>by simp[b0e]
 |k+1,y,m,h1,h2=>by
  simp only[b0e];obtain⟨l1,l2,l3⟩:=b1N (y:=y) (m:=m) (ev:=ev);obtain⟨i1,i2⟩:=b4G (dt:=dt) he k (a4E y m ev) (a3J m ev) l2 l3
  split
  ·unfold a4s
   by_cases ok:Cal.ok y m dt=true
   ·rw[if_pos ok];refine⟨List.pairwise_append.2 ⟨by simp,i1,fun x hx z hz=>?_⟩,fun x hx=>?_⟩
    ·have:x=Cal.num y m dt:=by simpa using hx
     obtain⟨y',m',o,rfl,k⟩:=i2 z hz;rw[this];exact a8c ok o (by omega)
    ·rcases List.mem_append.1 hx with hx|hx
     ·have:x=Cal.num y m dt:=by simpa using hx
      exact⟨y,m,ok,this,Int.le_refl _⟩
     ·obtain⟨y',m',o,e,k⟩:=i2 x hx;exact⟨y',m',o,e,by omega⟩
   ·rw[if_neg ok];refine⟨by simpa using i1,fun x hx=>?_⟩;obtain⟨y',m',o,e,k⟩:=i2 x (by simpa using hx);exact⟨y',m',o,e,by omega⟩
  ·simp
structure a0Y where
 pc:Int
 ev:Int
 acc:List Int
 fr:Int
 mn:Int
 mi:Int
 ti:Int
 un:Int
structure a6s(r:a0Y):Prop where
 pc1:1<=r.pc
 pc3:r.pc<=3
 e1:1<=r.ev
 e2:r.ev<=99
 f0:0<=r.fr
 f1:r.fr<728
 m0:0<=r.mn
 m1:r.mn<1440
 i1:1<=r.mi
 i2:r.mi<=1048320
 t0:0<=r.ti
 t1:r.ti<=99
 u0:0<=r.un
 u1:r.un<728
def has(r:a0Y)(d:Int):Bool :=
 if r.pc=1 then decide ((d-r.fr) % r.ev=0)
 else if r.pc=2 then isd r.acc (d % 7) && decide ((d / 7-r.fr / 7) % r.ev=0)
 else decide (Cal.dT d=Cal.dT r.fr) && decide ((12*Cal.yT d+Cal.mT d-12*Cal.yT r.fr-Cal.mT r.fr) % r.ev=0)
def all(r:a0Y):List Int:=a1p (has r) (728-r.fr).toNat r.fr
theorem b5H{r:a0Y}(h:a6s r)(x:Int):x∈all r↔r.fr<=x/\x<728/\has r x=true:=by
 have:=h.f1;unfold all;rw[a5r];constructor
 ·rintro ⟨h1,h2,h3⟩;exact⟨h1,by omega,h3⟩
 ·rintro ⟨h1,h2,h3⟩;exact⟨h1,by omega,h3⟩
def seq(r:a0Y):List Int :=
 if r.pc=2 then a9Y r.acc r.fr r.ev 800 (r.fr-r.fr % 7)
 else if r.pc=3 then b0e (Cal.dT r.fr) r.ev 100 (Cal.yT r.fr) (Cal.mT r.fr)
 else b0f r.ev 800 r.fr
theorem c3S{r:a0Y}(h:a6s r):(seq r).Pairwise (· < ·):=by
 unfold seq
 split
 ·exact (b4F h.e1 _ _).1
 ·split
  ·have o:=(a6c h.f0 h.f1).1;obtain⟨g1,g2,g3,g4,g5,g6⟩:=(Cal.a2K _ _ _).1 o;exact (b4G h.e1 _ _ _ g3 g4).1
  ·exact (b4H h.e1 _ _).1
theorem b9A{r:a0Y}(h:a6s r)(h0:0<=x)(h1:x<728):x∈seq r↔r.fr<=x/\has r x=true:=by
 have f0:=h.f0;have f1:=h.f1;have p1:=h.pc1;have p3:=h.pc3;unfold seq has
 by_cases c2:r.pc=2
 ·rw[if_pos c2,if_neg (by omega),if_pos c2,b6b h.e1 800 _ x (by omega) (by omega) (by omega)];have e:(r.fr-r.fr % 7) / 7=r.fr / 7:=by omega
  rw[e,Bool.and_eq_true,decide_eq_true_eq];constructor
  ·rintro ⟨k1,k2,k3,k4,k5⟩;exact⟨k2,k4,k5⟩
  ·rintro ⟨k2,k4,k5⟩;exact⟨by omega,k2,h1,k4,k5⟩
 ·rw[if_neg c2]
  by_cases c3:r.pc=3
  ·rw[if_pos c3,if_neg (by omega),if_neg c2];obtain⟨o,n,y0,mx⟩:=a6c h.f0 h.f1;obtain⟨g1,g2,g3,g4,g5,g6⟩:=(Cal.a2K _ _ _).1 o;rw[b6c h.e1 h.e2 100 _ _ x y0 (by omega) g3 g4 (by omega) h0 h1,Bool.and_eq_true,decide_eq_true_eq,decide_eq_true_eq];obtain⟨ox,nx,yx,mxx⟩:=a6c h0 h1;constructor
   ·rintro ⟨k1,k2,k3⟩;refine⟨?_,k1,k3⟩
    by_cases e:12*Cal.yT r.fr+Cal.mT r.fr=12*Cal.yT x+Cal.mT x
    ·obtain⟨j1,j2,j3,j4,j5,j6⟩:=(Cal.a2K _ _ _).1 ox;have e1:Cal.yT r.fr=Cal.yT x:=by omega
     have e2:Cal.mT r.fr=Cal.mT x:=by omega
     rw[e1,e2,<- k1] at n;omega
    ·have:=a8c o ox (by omega);omega
   ·rintro ⟨k1,k2,k3⟩;refine⟨k2,?_,k3⟩;apply Classical.byContradiction;intro c;have:=a8c ox o (by omega);omega
  ·rw[if_neg c3,if_pos (by omega),b6d h.e1 800 _ x (by omega),decide_eq_true_eq];constructor
   ·rintro ⟨k1,k2,k3⟩;exact⟨k1,k3⟩
   ·rintro ⟨k1,k3⟩;exact⟨k1,h1,k3⟩
theorem b1t{l:List Int}(h:l.Pairwise (· < ·))(b x:Int):x∈l.takeWhile (fun d=>decide (d<=b))↔x∈l/\x<=b:=by
 induction l with
 |nil=>simp
 |cons d l ih =>
  rw[List.pairwise_cons] at h;rw[List.takeWhile_cons]
  by_cases c:d<=b
  ·simp only[c,decide_true,if_true,List.mem_cons,ih h.2];constructor
   ·rintro (rfl|⟨k1,k2⟩)
    ·exact⟨.inl rfl,c⟩
    ·exact⟨.inr k1,k2⟩
   ·rintro ⟨rfl|k1,k2⟩
    ·exact .inl rfl
    ·exact .inr ⟨k1,k2⟩
  ·simp only[c,decide_false,Bool.false_eq_true,if_false,List.not_mem_nil,false_iff,List.mem_cons];rintro ⟨rfl|k1,k2⟩
   ·exact c k2
   ·have:=h.1 x k1;omega
theorem c3T{r:a0Y}(h:a6s r){b:Int}(hb:b<728):(seq r).takeWhile (fun d=>decide (d<=b))=(all r).filter (fun d=>decide (d<=b)):=by
 refine b8Z ?_ ?_ (fun x=>?_)
 ·exact List.Pairwise.sublist (List.takeWhile_sublist _) (c3S h)
 ·exact List.Pairwise.filter _ (a3X _ _ _)
 ·rw[b1t (c3S h),List.mem_filter,b5H h,decide_eq_true_eq];have f0:=h.f0
  have low:x∈seq r->0<=x:=by
   intro hx;unfold seq at hx
   split at hx
   ·have:=(b4F h.e1 _ _).2 x hx;omega
   ·split at hx
    ·have o:=(a6c h.f0 h.f1);obtain⟨g1,g2,g3,g4,g5,g6⟩:=(Cal.a2K _ _ _).1 o.1;obtain⟨y',m',o',rfl,k⟩:=(b4G h.e1 _ _ _ g3 g4).2 x hx
     by_cases e:12*Cal.yT r.fr+Cal.mT r.fr=12*y'+m'
     ·obtain⟨j1,j2,j3,j4,j5,j6⟩:=(Cal.a2K _ _ _).1 o';have e1:Cal.yT r.fr=y':=by omega
      have e2:Cal.mT r.fr=m':=by omega
      rw[<- e1,<- e2,o.2.1];omega
     ·have:=a8c o.1 o' (by omega);have:=o.2.1;omega
    ·have:=(b4H h.e1 _ _).2 x hx;omega
  constructor
  ·rintro ⟨k1,k2⟩;have k0:=low k1;obtain⟨k3,k4⟩:=(b9A h k0 (by omega)).1 k1;exact⟨⟨k3,by omega,k4⟩,k2⟩
  ·rintro ⟨⟨k1,k2,k3⟩,k4⟩;exact⟨(b9A h (by omega) k2).2 ⟨k1,k3⟩,k4⟩
theorem c4L{r:a0Y}(h:a6s r):(seq r).takeWhile (fun d=>decide (d<=727))=all r:=by
 rw[c3T h (by omega)];exact List.filter_eq_self.2 (fun x hx=>by have:=(b5H h x).1 hx;simp;omega)
def a0t(r:a0Y):List Int:=if 0<r.ti then ((seq r).takeWhile (fun d=>decide (d<=727))).take r.ti.toNat else ((seq r).takeWhile (fun d=>decide (d<=r.un))).take 41
def b4L(r:a0Y)(l:List Int)(d:Int):List Int:=if has r d/\((r.ti=0/\d<=r.un)\/(0<r.ti/\(l.length:Int)<r.ti)) then l++[d] else l
def a4Y(r:a0Y):Nat->Int->List Int->List Int
 |0,_,l=>l
 |k+1,d,l=>a4Y r k (d+1) (b4L r l d)
theorem a7Y{r:a0Y}(h:r.ti=0):∀ (k:Nat)(d:Int)(l:List Int),a4Y r k d l=l++(a1p (has r) k d).filter (fun d=>decide (d<=r.un))
 |0,d,l=>by simp[a4Y,a1p]
 |k+1,d,l=>by
  simp only[a4Y,a1p];rw[a7Y h k (d+1)];unfold b4L
  by_cases c:has r d=true
  ·rw[if_pos c,List.filter_cons]
   by_cases c2:d<=r.un
   ·rw[if_pos ⟨c,.inl ⟨h,c2⟩⟩,if_pos (by simp[c2])];simp
   ·rw[if_neg (by omega),if_neg (by simp[c2])]
  ·rw[if_neg c,if_neg (fun e=>c e.1)]
theorem a3e{r:a0Y}(h:0<r.ti):∀ (k:Nat)(d:Int)(l:List Int),(l.length:Int)<=r.ti->a4Y r k d l=l++(a1p (has r) k d).take (r.ti.toNat-l.length)
 |0,d,l,_=>by simp[a4Y,a1p]
 |k+1,d,l,hl=>by
  simp only[a4Y,a1p];unfold b4L
  by_cases c:has r d=true
  ·rw[if_pos c]
   by_cases c2:(l.length:Int)<r.ti
   ·rw[if_pos ⟨c,.inr ⟨h,c2⟩⟩,a3e h k (d+1) _ (by simp;omega)];have e:r.ti.toNat-l.length=(r.ti.toNat-(l++[d]).length)+1:=by simp;omega
    rw[e,List.take_succ_cons];simp
   ·rw[if_neg (by omega),a3e h k (d+1) _ hl];have e:r.ti.toNat-l.length=0:=by omega
    rw[e];simp
  ·rw[if_neg c,if_neg (fun e=>c e.1),a3e h k (d+1) _ hl]
def a0E(r:a0Y):List Int:=a4Y r (728-r.fr).toNat r.fr []
theorem a7N{r:a0Y}(h:a6s r):a0E r=if 0<r.ti then (all r).take r.ti.toNat else (all r).filter (fun d=>decide (d<=r.un)):=by
 have t0:=h.t0;unfold a0E
 split
 ·rw[a3e (by assumption) _ _ _ (by simp;omega)];simp[all]
 ·rw[a7Y (by omega)];simp[all]
theorem b3M{r:a0Y}(h:a6s r):a0t r=if 0<r.ti then a0E r else (a0E r).take 41:=by
 rw[a7N h];unfold a0t
 split
 ·rw[c4L h]
 ·rw[c3T h h.u1]
def a8m(r:a0Y)(d:Int):Bool:=decide (1048320<d*1440+r.mn+r.mi)
def a6W(r:a0Y):Int :=
 if 40<(a0E r).length\/40<r.ti then 11 else if a0E r=[]\/((a0E r).length:Int)<r.ti then 6 else if (a0E r).any (a8m r) then 6 else 0
def a0L(r:a0Y):Int :=
 if 40<r.ti then 11 else if 40<(a0t r).length then 11 else if a0t r=[]\/((a0t r).length:Int)<r.ti then 6 else if a8m r ((a0t r).getLastD 0) then 6 else 0
theorem b0X{r:a0Y}(h:a6s r):(a0E r).Pairwise (· < ·):=by
 rw[a7N h]
 split
 ·exact List.Pairwise.sublist (List.take_sublist _ _) (a3X _ _ _)
 ·exact List.Pairwise.filter _ (a3X _ _ _)
theorem a4x{r:a0Y}(h:a6s r)(hx:x∈a0E r):r.fr<=x/\x<728:=by
 rw[a7N h] at hx
 have:x∈all r:=by
  split at hx
  ·exact List.mem_of_mem_take hx
  ·exact (List.mem_filter.1 hx).1
 have:=(b5H h x).1 this;exact⟨this.1,this.2.1⟩
theorem a5c{r:a0Y}:∀ {l:List Int},l.Pairwise (· < ·)->l≠[]->l.any (a8m r)=a8m r (l.getLastD 0)
 |[],_,h=>absurd rfl h
 |[d],_,_=>by simp
 |d :: e :: l,h,_=>by
  rw[List.pairwise_cons] at h;have ih:=a5c (r:=r) (l:=e :: l) h.2 (by simp);rw[List.any_cons,ih];have e1:(d :: e :: l).getLastD 0=(e :: l).getLastD 0:=by simp[List.getLastD]
  rw[e1]
  cases hb:a8m r d
  ·simp
  ·have hm:(e :: l).getLastD 0∈e :: l:=by
    have:(e :: l).getLastD 0=(e :: l).getLast (by simp):=by simp[List.getLastD]
    rw[this];exact List.getLast_mem _
   have:=h.1 _ hm;simp only[a8m,decide_eq_true_eq] at hb;simp only[a8m,Bool.true_or];exact (decide_eq_true (by omega)).symm
theorem a5K{r:a0Y}(h:a6s r):a0L r=a6W r/\(a6W r=0->a0t r=a0E r/\a0E r≠[]/\(a0E r).length<=40/\∀ d∈a0E r,d*1440+r.mn+r.mi<=1048320):=by
 have ds:=b3M h;have up:=b0X h;have t0:=h.t0
 have fin:∀ {l:List Int},l≠[]->¬ l.any (a8m r)=true->∀ d∈l,d*1440+r.mn+r.mi<=1048320:=by
  intro l _ hn d hd;apply Classical.byContradiction;intro c;exact hn (List.any_eq_true.2 ⟨d,hd,by simp only[a8m,decide_eq_true_eq];omega⟩)
 unfold a0L a6W
 by_cases c:0<r.ti
 ·rw[if_pos c] at ds;rw[ds]
  by_cases c1:40<r.ti
  ·rw[if_pos c1,if_pos (.inr c1)];exact⟨rfl,fun e=>by omega⟩
  ·rw[if_neg c1]
   by_cases c2:40<(a0E r).length
   ·rw[if_pos c2,if_pos (.inl c2)];exact⟨rfl,fun e=>by omega⟩
   ·have cm:¬ (40<(a0E r).length\/40<r.ti):=by omega
    rw[if_neg c2,if_neg cm]
    by_cases c3:a0E r=[]\/((a0E r).length:Int)<r.ti
    ·rw[if_pos c3,if_pos c3];exact⟨rfl,fun e=>by omega⟩
    ·have hne:a0E r≠[]:=fun e=>c3 (.inl e)
     rw[if_neg c3,if_neg c3,a5c up hne];refine⟨rfl,fun e=>⟨rfl,hne,by omega,fin hne ?_⟩⟩;rw[a5c up hne];intro hl;rw[if_pos hl] at e;omega
 ·rw[if_neg c] at ds;have ct:¬ 40<r.ti:=by omega
  rw[ds,if_neg ct]
  by_cases c2:40<(a0E r).length
  ·have:40<((a0E r).take 41).length:=by rw[List.length_take];omega
   rw[if_pos this,if_pos (.inl c2)];exact⟨rfl,fun e=>by omega⟩
  ·have e41:(a0E r).take 41=a0E r:=List.take_of_length_le (by omega);have cm:¬ (40<(a0E r).length\/40<r.ti):=by omega
   rw[e41,if_neg c2,if_neg cm]
   by_cases c3:a0E r=[]\/((a0E r).length:Int)<r.ti
   ·rw[if_pos c3,if_pos c3];exact⟨rfl,fun e=>by omega⟩
   ·have hne:a0E r≠[]:=fun e=>c3 (.inl e)
    rw[if_neg c3,if_neg c3,a5c up hne];refine⟨rfl,fun e=>⟨rfl,hne,by omega,fin hne ?_⟩⟩;rw[a5c up hne];intro hl;rw[if_pos hl] at e;omega
def a2M(r:a0Y)(l:List Int):List (Int × Int):=l.map fun d=>(d*1440+r.mn,d*1440+r.mn+r.mi)
end Rd
open Go.RowKit
namespace Desk
def a2r(name:ByteArray)(es:List Ent)(a b:Int)(m x:Int):Int:=if a<x/\x<b/\m<a0o name x es then a0o name x es else m
def a1Q(name:ByteArray)(es:List Ent)(a b:Int):Int:=(a2L name es).foldl (a2r name es a b) (a0o name a es)
end Desk
theorem f9U(d:Nat)(a:Option Addr)(cap E:Nat)(es:List Desk.Ent)(name:ByteArray)(fr til:Int)(w:World)(h:RDE w d a cap E es)(hl:es.length<=1000)(hs:∀ e∈es,Desk.Small e):
  Calls Tryz.prog 236 #[.pointer (some ⟨d,0,none⟩),.string name,.int .i64 fr,.int .i64 til] w fun e w'=>e=.returned (.int .i64 (Desk.a1Q name es fr til))/\Below w.heap.size w w':=by
 have ST:=a0b (fun w' (k:Below w.heap.size w w')=>e0b d a cap E es name w' (h.later k) hl hs);have TK:=a0b (fun t w' (k:Below w.heap.size w w')=>e3v d a cap E es name t w' (h.later k) hl hs);have sz:=d4X name es hs;have hpk:Desk.a1Q name es fr til=(Desk.a2L name es).foldl (Desk.a2r name es fr til) (Desk.a0o name fr es):=rfl;rw[hpk];generalize Desk.a2L name es=l at *;have eln:l.length<=100000:=by omega
 clear h hs hpk sz
 go_enter Tryz.func236,Tryz.ntmps236
 go_wp2_with fail
 refine (TK.out _ _ (zr _ _)).mono ?_;rintro e w1 ⟨rfl,hb1⟩;have HB1:=a0b hb1;clear hb1
 go_wp2_with fail
 refine (ST.out _ HB1.out).mono ?_;rintro e w2 ⟨v2,rfl,ho2,hb2⟩;obtain⟨a2,c2,g2,rfl,hn2,ha2,hr2⟩:=e1E ho2;have R2:=a0b (zA ha2 (zA hr2 (a0j HB1.out hb2 (zq _))));clear ST ho2 hb2 ha2 hr2 HB1 hn2
 go_wp2_with fail
 go_loopw [9,11,12] (fun m i _ wx=>∃ j:Nat,j<=l.length/\i=.int .i64 j/\m=.int .i64 ((l.take j).foldl (Desk.a2r name es fr til) (Desk.a0o name fr es))/\Below w2.heap.size w2 wx) (fun _ i _ _=>l.length-(intOf i).toNat)
 case atStart=>exact⟨0,Nat.zero_le _,rfl,rfl,Below.refl _ _⟩
 case round =>
  obtain⟨j,hj,rfl,rfl,hb⟩:=hrel;have hbw:=a0j R2.out.2.2 hb (zq _);have HBW:=a0b hbw;have HB:=a0b hb;clear hbw
  by_cases hjl:j<l.length
  ·obtain rfl:=R2.out.1 (by intro e;simp[e] at hjl);have c0:=a0a hb (R2.out.2.1 j hjl);have hi2:(j:Int)<(l.length:Int):=by omega
   have hst:(l.take (j+1)).foldl (Desk.a2r name es fr til) (Desk.a0o name fr es)=Desk.a2r name es fr til ((l.take j).foldl (Desk.a2r name es fr til) (Desk.a0o name fr es)) l[j]:=by
    rw[List.take_succ_eq_append_getElem hjl,List.foldl_append];rfl
   have HST:=a0b hst;have TK1:=a0b (TK.out l[j]);generalize (l.take j).foldl (Desk.a2r name es fr til) (Desk.a0o name fr es)=m at *;have HPS:Hid (Desk.a2r name es fr til m l[j]=if fr<l[j]/\l[j]<til/\m<Desk.a0o name l[j] es then Desk.a0o name l[j] es else m):=rfl;generalize Desk.a0o name l[j] es=tk at *;clear hst hb
   by_cases h1:fr<l[j]
   ·by_cases h2:l[j]<til
    ·by_cases h3:m<tk
     ·have HE:Hid ((l.take (j+1)).foldl (Desk.a2r name es fr til) (Desk.a0o name fr es)=tk):=by show _=tk;rw[HST.out,HPS.out,if_pos ⟨h1,h2,h3⟩]
      go_wp2_with fail
      refine (TK1.out _ HBW.out).mono ?_;rintro e w4 ⟨rfl,hb4⟩;have HB4:=a0b (a0j HB.out hb4 (zq _));clear hb4 TK1
      go_wp2_with fail
      go_roundw
      case rel=>exact⟨j+1,by omega,by go_num,by rw[HE.out],HB4.out⟩
      case measure=>simp[intOf];omega
     ·have HE:Hid ((l.take (j+1)).foldl (Desk.a2r name es fr til) (Desk.a0o name fr es)=m):=by show _=m;rw[HST.out,HPS.out,if_neg (fun x=>h3 x.2.2)]
      go_wp2_with fail
      refine (TK1.out _ HBW.out).mono ?_;rintro e w4 ⟨rfl,hb4⟩;have HB4:=a0b (a0j HB.out hb4 (zq _));clear hb4 TK1
      go_wp2_with fail
      go_roundw
      case rel=>exact⟨j+1,by omega,by go_num,by rw[HE.out],HB4.out⟩
      case measure=>simp[intOf];omega
    ·have HE:Hid ((l.take (j+1)).foldl (Desk.a2r name es fr til) (Desk.a0o name fr es)=m):=by show _=m;rw[HST.out,HPS.out,if_neg (fun x=>h2 x.2.1)]
     go_wp2_with fail
     go_roundw
     case rel=>exact⟨j+1,by omega,by go_num,by rw[HE.out],HB.out⟩
     case measure=>simp[intOf];omega
   ·have HE:Hid ((l.take (j+1)).foldl (Desk.a2r name es fr til) (Desk.a0o name fr es)=m):=by show _=m;rw[HST.out,HPS.out,if_neg (fun x=>h1 x.1)]
    go_wp2_with fail
    go_roundw
    case rel=>exact⟨j+1,by omega,by go_num,by rw[HE.out],HB.out⟩
    case measure=>simp[intOf];omega
  ·have e:l.take j=l:=List.take_of_length_le (by omega);have hi2:¬ (j:Int)<(l.length:Int):=by omega
   clear hb
   go_wp2_with fail
   go_ret;exact⟨a1L (by first|rfl|rw[e]),HBW.out⟩
end Go.Proofs.YtfigmlfdnickmaaGreatDoor
