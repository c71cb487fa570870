import Derived.Test.YtfigmlfdnickmaaGreatDoorL05
import Derived.Test.YtfigmlfdnickmaaGreatDoorProg
import Derived.Maps.OwnSet
import Derived.Maps.OwnOps
import Derived.Maps.Views
import Derived.Lib.IndexMore
import Derived.Lib.IndexLaws
import Derived.Lib.FieldsP
import Derived.Lib.Split
import Derived.Lib.SplitLaws
set_option maxRecDepth 100000
set_option maxHeartbeats 8000000
variable{name s:ByteArray}{a fr level long tq x y:Int}{ts:List (ByteArray × Int)}{L:List (Int × Int)}{es:List Go.Proofs.YtfigmlfdnickmaaGreatDoor.Desk.Ent}{l:List UInt8}{b n sz:Nat}{r:Option Int}{key:Go.Value}{w w':Go.World}
namespace Go.Proofs.YtfigmlfdnickmaaGreatDoor
open Go Go.Maps
def c6O(o:Option Nat):Value:=.pointer (o.map fun b=>⟨b,0,none⟩)
def b1A(o:Option Nat):DataW Unit:=.lit (.int .i64 (match o with|none=>-1|some b=>(b:Int)))
def c2C:Value->Option (DataW Unit × List MemPlace)
 |.pointer none=>some (b1A none,[])
 |.pointer (some ⟨b,0,none⟩)=>some (b1A (some b),[])
 |_=>none
theorem c4S(o:Option Nat):c2C (c6O o)=some (b1A o,[]):=by cases o <;> rfl
theorem b6i{a b:Option Nat}(h:b1A a=b1A b):a=b:=by
 unfold b1A at h
 cases a <;> cases b <;> simp at h ⊢ <;> omega
theorem c2B{v:Value}{o:Option Nat}{ps:List MemPlace}(h:c2C v=some (b1A o,ps)):v=c6O o:=by
 unfold c2C at h
 split at h
 ·have e:b1A none=b1A o:=congrArg Prod.fst (Option.some.inj h);have:=b6i e;subst this;rfl
 ·rename_i b
  have e:b1A (some b)=b1A o:=congrArg Prod.fst (Option.some.inj h);have:=b6i e;subst this;rfl
 ·cases h
noncomputable def upd(f:Lit->Option Nat)(kl:Lit)(o:Option Nat)(x:Lit):Option Nat:=@ite _ (x=kl) (Classical.propDecidable _) o (f x)
theorem a4f(f:Lit->Option Nat)(kl:Lit)(o:Option Nat):upd f kl o kl=o:=if_pos rfl
theorem a3n(f:Lit->Option Nat){kl x:Lit}(o:Option Nat)(h:x≠kl):upd f kl o x=f x:=if_neg h
def a4N(P:Program)(k:TypeId)(w:World)(b n:Nat)(f:Lit->Option Nat)(sz:Nat):Prop :=
 ∃ D,w.ownsMap P k c2C b n D/\Maps.size D=sz/\(∀ kl,D.atKey kl (b1A none)=b1A (f kl))/\∀ kl,Maps.has D kl=(f kl).isSome
theorem a4N.block{P:Program}{k:TypeId}{f:Lit->Option Nat}(h:a4N P k w b n f sz)(hb:w'.heap[b]?=w.heap[b]?):a4N P k w' b n f sz:=by
 obtain⟨D,⟨es,clock,h1,h2⟩,h3⟩:=h;exact⟨D,⟨es,clock,hb.trans h1,h2⟩,h3⟩
theorem a4N.tight{P:Program}{k:TypeId}{f:Lit->Option Nat}(h:a4N P k w b n f sz):a4N P k w b sz f sz:=by
 obtain⟨D,⟨es,clock,h1,h2,h3,h4⟩,h5,h6⟩:=h;refine⟨D,⟨es,clock,h1,h2,?_,h4⟩,h5,h6⟩;rw[<- h5,h4,Maps.size_eq,length_sorted];simp
theorem a4N.made(P:Program)(k:TypeId)(w:World):a4N P k (w.alloc (.map #[] 0)) w.heap.size 0 (fun _=>none) 0 :=
 ⟨.map [],World.ownsMap_made w P k c2C,rfl,fun _=>rfl,fun _=>rfl⟩
theorem a4N.look{P:Program}{k e t:TypeId}{f:Lit->Option Nat}(h:a4N P k w b n f sz)(K:Keyed P k)(ht:P.underlying t=some (.map k e))(hz:(zeroValue e).run P w=.ok (.pointer none) w){kl:Lit}(hkey:keyOf P k key=some kl):
  (Instr.lookup t (.map (some b)) key false).run P w=.ok (c6O (f kl)) w:=by
 obtain⟨D,h1,_,h3,_⟩:=h;obtain⟨v,ps,hrun,hv⟩:=h1.lookup K ht hz (zd:=b1A none) (zp:=[]) rfl hkey;rw[h3] at hv;rw[hrun,c2B hv]
theorem a4N.len{P:Program}{k e t:TypeId}{f:Lit->Option Nat}(h:a4N P k w b n f sz)(ht:P.underlying t=some (.map k e))(ty:TypeId):(Builtin.len_ #[t] ty #[.map (some b)]).run P w=.ok (.int .i64 sz) w:=by
 obtain⟨D,h1,h2,_⟩:=h;rw[h1.len ht ty,h2]
theorem a4N.put{P:Program}{k:TypeId}{f:Lit->Option Nat}{D:DataW Unit}{kl:Lit}{p:Nat}(K:Keyed P k)(w:World)(hD:w.ownsMap P k c2C b n D)(h:w'.ownsMap P k c2C b (n+1) (D.put kl (b1A (some p))))(hk:WideAt.IsKeyLit kl)(h3:∀ kl,D.atKey kl (b1A none)=b1A (f kl))(h4:∀ kl,Maps.has D kl=(f kl).isSome):
  a4N P k w' b (n+1) (upd f kl (some p)) (if (f kl).isSome then Maps.size D else Maps.size D+1):=by
 refine⟨_,h,?_,fun x=>?_,fun x=>?_⟩
 ·rw[Maps.size_put (hD.tidy K),h4]
 ·by_cases c:x=kl
  ·rw[c,a4f,Maps.atKey_put_same hD.isMap hk]
  ·rw[a3n f _ c,Maps.atKey_put_other c,h3]
 ·by_cases c:x=kl
  ·rw[c,a4f,Maps.has_put_same hD.isMap hk];rfl
  ·rw[a3n f _ c,Maps.has_put_other c,h4]
theorem a4N.del{P:Program}{k:TypeId}{f:Lit->Option Nat}{D:DataW Unit}{kl:Lit}(K:Keyed P k)(w:World)(hD:w.ownsMap P k c2C b n D)(h:w'.ownsMap P k c2C b n (D.del kl))(h3:∀ kl,D.atKey kl (b1A none)=b1A (f kl))(h4:∀ kl,Maps.has D kl=(f kl).isSome):
  a4N P k w' b n (upd f kl none) (Maps.size D-if (f kl).isSome then 1 else 0):=by
 refine⟨_,h,?_,fun x=>?_,fun x=>?_⟩
 ·have:=Maps.size_del (k:=kl) (hD.tidy K);rw[h4] at this;omega
 ·by_cases c:x=kl
  ·rw[c,a4f,Maps.atKey_del_same]
  ·rw[a3n f _ c,Maps.atKey_del_other c,h3]
 ·by_cases c:x=kl
  ·rw[c,a4f,Maps.has_del_same];rfl
  ·rw[a3n f _ c,Maps.has_del_other c,h4]
theorem a4N.dropRun{P:Program}{k e t:TypeId}{f:Lit->Option Nat}(h:a4N P k w b n f sz)(K:Keyed P k)(ht:P.underlying t=some (.map k e)){kl:Lit}(hkey:keyOf P k key=some kl)(ty:TypeId):
  ∃ w',(Builtin.delete_ #[t,k] ty #[.map (some b),key]).run P w=.ok (.tuple #[]) w'/\a4N P k w' b n (upd f kl none) (sz-if (f kl).isSome then 1 else 0)/\w.grownBy w' (some b):=by
 obtain⟨D,h1,h2,h3,h4⟩:=h;obtain⟨w',hrun,r1,r2⟩:=h1.drop K ht hkey ty;refine⟨w',hrun,?_,r2.grown⟩;rw[<- h2];exact a4N.del K w h1 r1 h3 h4
theorem a4N.storeRun{P:Program}{k e t:TypeId}{f:Lit->Option Nat}(h:a4N P k w b n f sz)(K:Keyed P k)(ht:P.underlying t=some (.map k e))(hn:n<maxLen){kl:Lit}(hkey:keyOf P k key=some kl)(hlit:WideAt.IsKeyLit kl)(p:Nat):
  ∃ w',(Instr.mapUpdate t (.map (some b)) key (c6O (some p))).run P w=.ok () w'/\a4N P k w' b (n+1) (upd f kl (some p)) (if (f kl).isSome then sz else sz+1)/\w.grownBy w' (some b):=by
 obtain⟨D,h1,h2,h3,h4⟩:=h;obtain⟨w',hrun,r1,r2⟩:=h1.update K ht hn hkey (c4S (some p));refine⟨w',hrun,?_,r2⟩;rw[<- h2];exact a4N.put K w h1 r1 hlit h3 h4
section
variable {P:Program}(w:World) {ops:Array Oper}{rest:List Oper}{o:Oper}{a:Act}{Q:Exit->Act->World->Prop}
end
end Go.Proofs.YtfigmlfdnickmaaGreatDoor
namespace Go.Proofs.YtfigmlfdnickmaaGreatDoor.Cal
def ah(y:Int):Int:=(y-1)*365+(y-1) / 4-(y-1) / 100+(y-1) / 400
def c2U(y:Int):Bool:=y % 4==0 && (y % 100 != 0 || y % 400==0)
def lp(y:Int):Int:=if c2U y then 1 else 0
def tab(m:Int):Int:=if m=2 then 28 else if m=4\/m=6\/m=9\/m=11 then 30 else 31
def dim(y m:Int):Int:=if m=2 then 28+lp y else tab m
def cum(y m:Int):Int :=
 if m<=1 then 0 else if m=2 then 31 else lp y+(if m=3 then 59 else if m=4 then 90 else if m=5 then 120 else if m=6 then 151 else if m=7 then 181 else if m=8 then 212 else if m=9 then 243 else if m=10 then 273 else if m=11 then 304 else if m=12 then 334 else 365)
def first:Int:=-738885
def last:Int:=2913173
def num(y m d:Int):Int:=first+ah y+cum y m+d-1
def ok(y m d:Int):Bool:=decide (1<=y/\y<=9999/\1<=m/\m<=12/\1<=d/\d<=dim y m)
theorem c4Z(y:Int):0<=lp y/\lp y<=1:=by unfold lp;split <;> omega
theorem c6W(y:Int):lp y=1/\y % 4=0/\(y % 100≠0\/y % 400=0)\/lp y=0/\¬ (y % 4=0/\(y % 100≠0\/y % 400=0)):=by
 unfold lp
 cases h:c2U y
 ·right;refine⟨by simp,?_⟩;simp only[c2U,Bool.and_eq_false_iff,Bool.or_eq_false_iff,beq_eq_false_iff_ne,bne_eq_false_iff_eq] at h;omega
 ·left;refine⟨by simp,?_⟩;simp only[c2U,Bool.and_eq_true,Bool.or_eq_true,beq_iff_eq,bne_iff_ne] at h;exact h
theorem b5I(y:Int)(_h:1<=y):ah (y+1)=ah y+365+lp y:=by
 rcases c6W y with ⟨e,h1⟩|⟨e,h1⟩ <;> rw[e] <;> unfold ah <;> omega
theorem a9T(a b:Int)(_h0:1<=a)(_h:a<=b):ah a<=ah b:=by unfold ah;omega
theorem g3J:ah 1=0:=by decide
theorem b7t:ah 10000=3652059:=by decide
theorem b7s(g:Int)(_h:0<=g):ah (g*400 / 146097+1)<=g:=by unfold ah;omega
theorem c5D(y:Int)(_h1:1<=y)(_h2:y<=10000):0<=ah y/\ah y<=3652059:=by unfold ah;omega
theorem c5Q(m:Int):28<=tab m/\tab m<=31:=by unfold tab;(repeat' split) <;> omega
theorem b3I(y m:Int):28<=dim y m/\dim y m<=31:=by
 have:=c4Z y;have:=c5Q m;unfold dim;split <;> omega
theorem c3Z(m:Int)(h1:1<=m)(h2:m<=12):m=1\/m=2\/m=3\/m=4\/m=5\/m=6\/m=7\/m=8\/m=9\/m=10\/m=11\/m=12:=by omega
theorem a9K(y:Int):cum y 1=0:=by simp[cum]
theorem a5M(y m:Int)(h1:1<=m)(h2:m<=12):cum y (m+1)=cum y m+dim y m:=by
 rcases c3Z m h1 h2 with h|h|h|h|h|h|h|h|h|h|h|h <;> subst h <;> simp[cum,dim,tab] <;> omega
theorem b5q(y:Int):cum y 13=365+lp y:=by simp[cum];omega
theorem c1p(y a:Int)(k:Nat)(h1:1<=a)(h2:a+k<=13):cum y a<=cum y (a+k):=by
 induction k with
 |zero=>simp
 |succ k ih =>
  have c:=a5M y (a+k) (by omega) (by omega);have d:=b3I y (a+k);have i:=ih (by omega);rw[show a+((k+1:Nat):Int)=a+k+1 from by omega,c];omega
theorem b7m(y m:Int)(h1:1<=m)(h2:m<=13):0<=cum y m/\cum y m<=365+lp y:=by
 have a:=c1p y 1 (m-1).toNat (by omega) (by omega);have b:=c1p y m (13-m).toNat h1 (by omega);rw[show (1:Int)+((m-1).toNat:Int)=m from by omega,a9K] at a;rw[show m+((13-m).toNat:Int)=13 from by omega,b5q] at b;exact⟨a,b⟩
theorem b2i(y a b:Int)(h1:1<=a)(h:a<b)(h2:b<=13):cum y a+dim y a<=cum y b:=by
 rw[<- a5M y a h1 (by omega)];have c:=c1p y (a+1) (b-(a+1)).toNat (by omega) (by omega)
 rwa [show (a+1)+((b-(a+1)).toNat:Int)=b from by omega] at c
theorem a2K(y m d:Int):ok y m d=true↔1<=y/\y<=9999/\1<=m/\m<=12/\1<=d/\d<=dim y m:=by simp[ok]
theorem a9p(y m d:Int)(h:ok y m d=true):ah y<=num y m d-first/\num y m d-first<ah (y+1):=by
 obtain⟨h1,h2,h3,h4,h5,h6⟩:=(a2K y m d).1 h;have a:=b5I y h1;have b:=b7m y m h3 (by omega);have c:=a5M y m h3 h4;have e:=b7m y (m+1) (by omega) (by omega);unfold num;omega
theorem c1Q(a b n:Int)(ha:1<=a)(hb:1<=b)(h1:ah a<=n)(h2:n<ah (a+1))(h3:ah b<=n)(h4:n<ah (b+1)):a=b:=by
 by_cases h:a<b
 ·have:=a9T (a+1) b (by omega) (by omega);omega
 ·by_cases h':b<a
  ·have:=a9T (b+1) a (by omega) (by omega);omega
  ·omega
theorem c0n(y a b n:Int)(ha:1<=a)(ha':a<=12)(hb:1<=b)(hb':b<=12)(h1:cum y a<=n)(h2:n<cum y a+dim y a)(h3:cum y b<=n)(h4:n<cum y b+dim y b):a=b:=by
 by_cases h:a<b
 ·have:=b2i y a b ha h (by omega);omega
 ·by_cases h':b<a
  ·have:=b2i y b a hb h' (by omega);omega
  ·omega
theorem one(y m d y' m' d':Int)(h:ok y m d=true)(h':ok y' m' d'=true)(e:num y m d=num y' m' d'):y=y'/\m=m'/\d=d':=by
 have i:=a9p y m d h;have i':=a9p y' m' d' h';obtain⟨h1,h2,h3,h4,h5,h6⟩:=(a2K y m d).1 h;obtain⟨g1,g2,g3,g4,g5,g6⟩:=(a2K y' m' d').1 h';have hy:y=y':=c1Q y y' (num y m d-first) h1 g1 i.1 i.2 (by rw[e];exact i'.1) (by rw[e];exact i'.2);subst hy;unfold num at e;have hm:m=m':=c0n y m m' (cum y m+d-1) h3 h4 g3 g4 (by omega) (by omega) (by omega) (by omega);subst hm;exact⟨rfl,rfl,by omega⟩
theorem c3X(y m d:Int)(h:ok y m d=true):first<=num y m d/\num y m d<=last:=by
 obtain⟨h1,h2,h3,h4,h5,h6⟩:=(a2K y m d).1 h;have i:=a9p y m d h;have a:=a9T (y+1) 10000 (by omega) (by omega);have b:=c5D y h1 (by omega);have c:=b7t;unfold first at i;unfold first last;omega
end Go.Proofs.YtfigmlfdnickmaaGreatDoor.Cal
namespace Go.Proofs.YtfigmlfdnickmaaGreatDoor.Cal
def yF(g:Int):Int:=if ah (g*400 / 146097+2)<=g then g*400 / 146097+2 else g*400 / 146097+1
def mF(y r:Int):Int:=if r<cum y 2 then 1 else if r<cum y 3 then 2 else if r<cum y 4 then 3 else if r<cum y 5 then 4 else if r<cum y 6 then 5 else if r<cum y 7 then 6 else if r<cum y 8 then 7 else if r<cum y 9 then 8 else if r<cum y 10 then 9 else if r<cum y 11 then 10 else if r<cum y 12 then 11 else 12
theorem c5C(g:Int)(_h:0<=g):g<ah (g*400 / 146097+3):=by unfold ah;omega
theorem c6R(g:Int)(h:0<=g):1<=yF g/\ah (yF g)<=g/\g<ah (yF g+1):=by
 have a:=b7s g h;have b:=c5C g h;unfold yF
 split
 ·refine⟨by omega,by assumption,?_⟩;rw[show g*400 / 146097+2+1=g*400 / 146097+3 from by omega];exact b
 ·refine⟨by omega,a,?_⟩;rw[show g*400 / 146097+1+1=g*400 / 146097+2 from by omega];omega
theorem c6V(y r:Int)(h0:0<=r)(h1:r<cum y 13):1<=mF y r/\mF y r<=12/\cum y (mF y r)<=r/\r<cum y (mF y r+1):=by
 have c1:=a9K y;unfold mF
 by_cases e2:r<cum y 2
 ·rw[if_pos e2];exact⟨by omega,by omega,by omega,e2⟩
 rw[if_neg e2]
 by_cases e3:r<cum y 3
 ·rw[if_pos e3];exact⟨by omega,by omega,by omega,e3⟩
 rw[if_neg e3]
 by_cases e4:r<cum y 4
 ·rw[if_pos e4];exact⟨by omega,by omega,by omega,e4⟩
 rw[if_neg e4]
 by_cases e5:r<cum y 5
 ·rw[if_pos e5];exact⟨by omega,by omega,by omega,e5⟩
 rw[if_neg e5]
 by_cases e6:r<cum y 6
 ·rw[if_pos e6];exact⟨by omega,by omega,by omega,e6⟩
 rw[if_neg e6]
 by_cases e7:r<cum y 7
 ·rw[if_pos e7];exact⟨by omega,by omega,by omega,e7⟩
 rw[if_neg e7]
 by_cases e8:r<cum y 8
 ·rw[if_pos e8];exact⟨by omega,by omega,by omega,e8⟩
 rw[if_neg e8]
 by_cases e9:r<cum y 9
 ·rw[if_pos e9];exact⟨by omega,by omega,by omega,e9⟩
 rw[if_neg e9]
 by_cases e10:r<cum y 10
 ·rw[if_pos e10];exact⟨by omega,by omega,by omega,e10⟩
 rw[if_neg e10]
 by_cases e11:r<cum y 11
 ·rw[if_pos e11];exact⟨by omega,by omega,by omega,e11⟩
 rw[if_neg e11]
 by_cases e12:r<cum y 12
 ·rw[if_pos e12];exact⟨by omega,by omega,by omega,e12⟩
 rw[if_neg e12];exact⟨by omega,by omega,by omega,h1⟩
def yT(n:Int):Int:=yF (n+738885)
def mT(n:Int):Int:=mF (yT n) (n+738885-ah (yT n))
def dT(n:Int):Int:=n+738885-ah (yT n)-cum (yT n) (mT n)+1
theorem c6G(n:Int)(h1:-738885<=n)(h2:n<=2913173):ok (yT n) (mT n) (dT n)=true/\num (yT n) (mT n) (dT n)=n:=by
 have ⟨a1,a2,a3⟩:=c6R (n+738885) (by omega);have s:=b5I (yF (n+738885)) a1
 have hy:yF (n+738885)<=9999:=by
  by_cases h:yF (n+738885)<=9999
  ·exact h
  ·have:=a9T 10000 (yF (n+738885)) (by omega) (by omega);have:=b7t;omega
 have ce:=b5q (yF (n+738885));have ⟨b1,b2,b3,b4⟩:=c6V (yF (n+738885)) (n+738885-ah (yF (n+738885))) (by omega) (by omega);have cs:=a5M (yF (n+738885)) (mF (yF (n+738885)) (n+738885-ah (yF (n+738885)))) b1 b2;refine⟨(a2K _ _ _).2 ?_,?_⟩
 ·unfold dT mT yT;refine⟨a1,hy,b1,b2,by omega,by omega⟩
 ·unfold num dT mT yT first;omega
theorem c4g(y m d n:Int)(h:ok y m d=true)(e:num y m d=n):y=yT n/\m=mT n/\d=dT n:=by
 have b:=c3X y m d h;rw[e] at b;unfold first last at b;have ⟨h1,h2⟩:=c6G n b.1 b.2;exact one y m d _ _ _ h h1 (by rw[e,h2])
end Go.Proofs.YtfigmlfdnickmaaGreatDoor.Cal
namespace Go.Proofs.YtfigmlfdnickmaaGreatDoor.Txt
def dig(c:UInt8):Bool:=decide (48<=(c.toNat:Int)/\(c.toNat:Int)<=57)
def a6j(l:List UInt8):Bool:=l.all dig
def b4R(l:List UInt8):Int:=l.foldl (fun n c=>n*10+((c.toNat:Int)-48)) 0
def low(c:UInt8):Bool:=decide (97<=(c.toNat:Int)/\(c.toNat:Int)<=122)
def c1M(l:List UInt8):Bool:=l.all low
def isNum(l:List UInt8):Bool:=decide (1<=l.length/\l.length<=7) && a6j l
def a1j(l:List UInt8):Bool:=decide (1<=l.length/\l.length<=8) && c1M l
theorem a6k(c:UInt8):dig c=true↔48<=(c.toNat:Int)/\(c.toNat:Int)<=57:=by simp[dig]
theorem c0s(c:UInt8):low c=true↔97<=(c.toNat:Int)/\(c.toNat:Int)<=122:=by simp[low]
theorem a6X(l:List UInt8)(c:UInt8):a6j (l++[c])=(a6j l && dig c):=by simp[a6j]
theorem b3c(l:List UInt8)(c:UInt8):c1M (l++[c])=(c1M l && low c):=by simp[c1M]
theorem b2Y(l:List UInt8)(c:UInt8):b4R (l++[c])=b4R l*10+((c.toNat:Int)-48):=by simp[b4R]
theorem a8N(s:ByteArray)(k:Nat)(h:k<s.size):s.data.toList.take (k+1)=s.data.toList.take k++[s[k]]:=by
 rw[List.take_succ_eq_append_getElem (by simpa using h)];rfl
theorem a5t(s:ByteArray)(k:Nat)(h:s.size<=k):s.data.toList.take k=s.data.toList:=List.take_of_length_le (by simpa using h)
theorem a1d(s:ByteArray):s.data.toList.length=s.size:=by simp
theorem a8h(l:List UInt8)(k:Nat)(h:a6j (l.take k)=false):a6j l=false:=by
 unfold a6j at *;rw[List.all_eq_false] at *;obtain⟨x,hx,h⟩:=h;exact⟨x,List.mem_of_mem_take hx,h⟩
theorem b3d(l:List UInt8)(k:Nat)(h:c1M (l.take k)=false):c1M l=false:=by
 unfold c1M at *;rw[List.all_eq_false] at *;obtain⟨x,hx,h⟩:=h;exact⟨x,List.mem_of_mem_take hx,h⟩
theorem c5i(l:List UInt8):∀ (k:Nat)(n:Int),0<=n->n<10 ^ k->a6j l=true->0<=l.foldl (fun n c=>n*10+((c.toNat:Int)-48)) n/\l.foldl (fun n c=>n*10+((c.toNat:Int)-48)) n<10 ^ (k+l.length):=by
 induction l with
 |nil=>intro k n h0 h1 _;exact⟨h0,h1⟩
 |cons c l ih =>
  intro k n h0 h1 hd;simp only[a6j,List.all_cons,Bool.and_eq_true] at hd;have hc:=(a6k c).1 hd.1;have:=ih (k+1) (n*10+((c.toNat:Int)-48)) (by omega) (by rw[Int.pow_succ];omega) hd.2;simp only[List.foldl_cons,List.length_cons];rw[show k+(l.length+1)=k+1+l.length from by omega];exact this
theorem c0i(l:List UInt8)(h:a6j l=true)(hl:l.length<=7):0<=b4R l/\b4R l<=9999999:=by
 have b:=c5i l 0 0 (by omega) (by decide) h;have q:∀ k:Nat,k<8->(10:Int) ^ k<=10000000:=by decide
 have p:=q (0+l.length) (by omega);unfold b4R;omega
theorem b0J(h1:1<=l.length)(h2:l.length<=7)(h3:a6j l=true):isNum l=true:=by
 simp[isNum,h1,h2,h3]
theorem b3o(h:¬ (1<=l.length/\l.length<=7)):isNum l=false:=by
 unfold isNum;rw[decide_eq_false h];rfl
theorem b3q(h:a6j l=false):isNum l=false:=by simp[isNum,h]
theorem b3p(l:List UInt8):isNum l=true↔(1<=l.length/\l.length<=7)/\a6j l=true:=by simp[isNum]
theorem b5b(h1:1<=l.length)(h2:l.length<=8)(h3:c1M l=true):a1j l=true:=by
 simp[a1j,h1,h2,h3]
theorem b0K(h:¬ (1<=l.length/\l.length<=8)):a1j l=false:=by
 unfold a1j;rw[decide_eq_false h];rfl
theorem b8r(h:c1M l=false):a1j l=false:=by simp[a1j,h]
def a2f(l:List UInt8):Int:=if isNum l then b4R l else 0
theorem a2B(l:List UInt8):0<=a2f l/\a2f l<=9999999:=by
 unfold a2f
 split
 ·rename_i h
  have:=(b3p l).1 h;exact c0i l this.2 this.1.2
 ·omega
end Go.Proofs.YtfigmlfdnickmaaGreatDoor.Txt
namespace Go.Proofs.YtfigmlfdnickmaaGreatDoor.Txt
def a0V(s:ByteArray)(i:Nat):Int:=((s.data.toList.getD i 0).toNat:Int)
theorem a2W(s:ByteArray)(i:Nat)(h:i<s.size):a0V s i=(s[i].toNat:Int):=by
 unfold a0V;rw[List.getD_eq_getElem?_getD,List.getElem?_eq_getElem (by simpa using h)];rfl
def part(s:ByteArray)(a b:Nat):List UInt8:=(s.extract a b).data.toList
def a3a(s:ByteArray):Bool:=decide (s.size=5/\a0V s 2=58/\isNum (part s 0 2)=true/\isNum (part s 3 5)=true/\a2f (part s 0 2)<=23/\a2f (part s 3 5)<=59)
def a6J(s:ByteArray):Int:=if a3a s then a2f (part s 0 2)*60+a2f (part s 3 5) else 0
def a5j(s:ByteArray):Bool:=decide (s.size=10/\a0V s 4=45/\a0V s 7=45/\isNum (part s 0 4)=true/\isNum (part s 5 7)=true/\isNum (part s 8 10)=true/\Cal.ok (a2f (part s 0 4)) (a2f (part s 5 7)) (a2f (part s 8 10))=true)
def a2o(s:ByteArray):Int:=if a5j s then Cal.num (a2f (part s 0 4)) (a2f (part s 5 7)) (a2f (part s 8 10)) else 0
def a2y(s:ByteArray):Bool:=decide (a5j s=true/\0<=a2o s/\a2o s<728)
theorem a5D(h:¬ (s.size=5/\a0V s 2=58/\isNum (part s 0 2)=true/\isNum (part s 3 5)=true/\a2f (part s 0 2)<=23/\a2f (part s 3 5)<=59)):a3a s=false:=decide_eq_false h
theorem a6l(h:¬ (s.size=10/\a0V s 4=45/\a0V s 7=45/\isNum (part s 0 4)=true/\isNum (part s 5 7)=true/\isNum (part s 8 10)=true/\Cal.ok (a2f (part s 0 4)) (a2f (part s 5 7)) (a2f (part s 8 10))=true)):a5j s=false:=decide_eq_false h
theorem b6G(hs:s.size=5)(hb:a0V s 2=58):a3a s=(isNum (part s 0 2) && isNum (part s 3 5) && decide (a2f (part s 0 2)<=23) && decide (a2f (part s 3 5)<=59)):=by
 rw[Bool.eq_iff_iff];simp[a3a,hs,hb,and_assoc]
theorem c1h(hs:s.size=10)(hb:a0V s 4=45)(hc:a0V s 7=45):a5j s=(isNum (part s 0 4) && isNum (part s 5 7) && isNum (part s 8 10) && Cal.ok (a2f (part s 0 4)) (a2f (part s 5 7)) (a2f (part s 8 10))):=by
 rw[Bool.eq_iff_iff];simp[a5j,hs,hb,hc,and_assoc]
theorem c4W(s:ByteArray):0<=a6J s/\a6J s<=1439:=by
 unfold a6J
 split
 ·rename_i h
  have h:=of_decide_eq_true h;have:=a2B (part s 0 2);have:=a2B (part s 3 5);omega
 ·omega
theorem c3w(s:ByteArray):-738885<=a2o s/\a2o s<=2913173:=by
 unfold a2o
 split
 ·rename_i h
  have h:=of_decide_eq_true h;have b:=Cal.c3X _ _ _ h.2.2.2.2.2.2;unfold Cal.first Cal.last at b;exact b
 ·omega
end Go.Proofs.YtfigmlfdnickmaaGreatDoor.Txt
namespace Go.Proofs.YtfigmlfdnickmaaGreatDoor.Txt
open Go
def dmB(s:ByteArray):Bool:=decide (s.size=16/\a0V s 10=47/\a5j (s.extract 0 10)=true/\a3a (s.extract 11 16)=true)
def dmV(s:ByteArray):Int:=if dmB s then a2o (s.extract 0 10)*1440+a6J (s.extract 11 16) else 0
def b1a(s:ByteArray):ByteArray:={ data:=(Lib.cut s.data.toList [47]).fst.toArray }
def b0Z(s:ByteArray):ByteArray:={ data:=(Lib.cut s.data.toList [47]).snd.fst.toArray }
def c1N(s:ByteArray):Bool:=(Lib.cut s.data.toList [47]).snd.snd
theorem a3g(s:ByteArray)(a b:Nat):(s.extract a b).data.toList=(s.data.toList.take b).drop a:=by
 rw[ByteArray.data_extract,Array.toList_extract];simp[List.drop_take]
theorem a7x{t:ByteArray}(h:s.data.toList=t.data.toList):s=t:=by
 cases s;cases t;simp only at h;congr;exact Array.toList_inj.1 h
theorem c6F(c:UInt8)(h:dig c=true):c≠47:=by
 intro e;subst e;revert h;decide
theorem b2h(h:a6j l=true){c:UInt8}(hc:c∈l):c≠47:=c6F c (by
 unfold a6j at h;rw[List.all_eq_true] at h;exact h c hc)
theorem a7C(h:isNum l=true):a6j l=true:=((b3p l).1 h).2
theorem b3N(t:ByteArray)(h:a5j t=true):∀ j,j<10->t.data.toList[j]?≠some 47:=by
 have h:=of_decide_eq_true h;obtain⟨hs,b4,b7,n1,n2,n3,_⟩:=h;have d1:=a7C n1;have d2:=a7C n2;have d3:=a7C n3;unfold part at d1 d2 d3;rw[a3g] at d1 d2 d3;have hl:t.data.toList.length=10:=by rw[a1d];exact hs
 intro j hj he;have hjl:j<t.data.toList.length:=by omega
 have e:t.data.toList[j]=47:=by
  rw[List.getElem?_eq_getElem hjl] at he;exact Option.some.inj he
 have m1:j<4->False:=fun h4=>b2h d1 (c:=t.data.toList[j]) (by
  rw[List.mem_iff_getElem?];exact⟨j,by rw[List.getElem?_drop,List.getElem?_take];simp[h4]⟩) e
 have m2:5<=j->j<7->False:=fun h5 h7=>b2h d2 (c:=t.data.toList[j]) (by
  rw[List.mem_iff_getElem?];exact⟨j-5,by rw[List.getElem?_drop,List.getElem?_take];simp[show 5+(j-5)=j from by omega,h7]⟩) e
 have m3:8<=j->False:=fun h8=>b2h d3 (c:=t.data.toList[j]) (by
  rw[List.mem_iff_getElem?];exact⟨j-8,by rw[List.getElem?_drop,List.getElem?_take];simp[show 8+(j-8)=j from by omega,hj]⟩) e
 have g:∀ k:Nat,j=k->a0V t k=47:=fun k hk=>by
  subst hk;unfold a0V;rw[List.getD_eq_getElem?_getD,List.getElem?_eq_getElem hjl,e];rfl
 by_cases c4:j=4
 ·have:=g 4 c4;omega
 ·by_cases c7:j=7
  ·have:=g 7 c7;omega
  ·by_cases c1:j<4
   ·exact m1 c1
   ·by_cases c2:j<7
    ·exact m2 (by omega) c2
    ·exact m3 (by omega)
theorem b4P(l:List UInt8)(i:Nat):Lib.occAt l [47] i=true↔l[i]?=some 47:=by
 unfold Lib.occAt;rw[<- List.head?_drop]
 cases l.drop i with
 |nil=>simp[List.isPrefixOf]
 |cons b r=>simp[List.isPrefixOf];exact eq_comm
theorem c1m(hs:s.size=16)(hb:a0V s 10=47)(hd:a5j (s.extract 0 10)=true):b1a s=s.extract 0 10/\b0Z s=s.extract 11 16/\c1N s=true:=by
 have hl:s.data.toList.length=16:=by rw[a1d];exact hs
 have h10:s.data.toList[10]?=some 47:=by
  unfold a0V at hb;rw[List.getD_eq_getElem?_getD,List.getElem?_eq_getElem (by omega)] at hb;rw[List.getElem?_eq_getElem (by omega)];have:(s.data.toList[10]'(by omega)).toNat=47:=by simpa using (by exact_mod_cast hb:_)
  rw[show s.data.toList[10]'(by omega)=47 from UInt8.toNat_inj.1 (by simpa using this)]
 have hi:Lib.index s.data.toList [47]=10:=Lib.index_first (i:=10) (by omega) ((b4P _ _).2 h10) (fun j hj=>by
  cases ho:Lib.occAt s.data.toList [47] j with
  |false=>rfl
  |true =>
   have:=b3N _ hd j hj;rw[a3g,List.drop_zero,List.getElem?_take,if_pos hj] at this
   exact absurd ((b4P _ _).1 ho) this)
 have hc:Lib.cut s.data.toList [47]=(s.data.toList.take 10,s.data.toList.drop 11,true):=by
  unfold Lib.cut;rw[hi];rfl
 refine⟨a7x ?_,a7x ?_,?_⟩
 ·simp only[b1a,hc,a3g];simp
 ·simp only[b0Z,hc,a3g];rw[List.take_of_length_le (by omega)]
 ·simp[c1N,hc]
theorem c6H(s:ByteArray):(c1N s && a5j (b1a s) && a3a (b0Z s))=dmB s/\(dmB s=true->a2o (b1a s)*1440+a6J (b0Z s)=dmV s):=by
 have key:(c1N s && a5j (b1a s) && a3a (b0Z s))=dmB s:=by
  rw[Bool.eq_iff_iff];constructor
  ·intro h;simp only[Bool.and_eq_true] at h;obtain⟨⟨hf,hd⟩,hm⟩:=h;have s1:(b1a s).size=10:=(of_decide_eq_true hd).1;have s2:(b0Z s).size=5:=(of_decide_eq_true hm).1
   have hi:0<=Lib.index s.data.toList [47]:=by
    by_cases hi:0<=Lib.index s.data.toList [47]
    ·exact hi
    ·simp[c1N,Lib.cut,hi] at hf
   obtain⟨i,hi'⟩:=Int.eq_ofNat_of_zero_le hi;have hr:=Lib.index_room s.data.toList [47] hi
   have hc:Lib.cut s.data.toList [47]=(s.data.toList.take i,s.data.toList.drop (i+1),true):=by
    unfold Lib.cut;rw[if_pos hi,hi'];simp
   have hocc:s.data.toList[i]?=some 47:=by
    rcases Lib.index_spec s.data.toList [47] with ⟨h,_⟩|⟨j,hj,_,ho,_⟩
    ·omega
    ·rw[hi'] at hj;have:i=j:=by omega
     subst this;exact (b4P _ _).1 ho
   rw[hi'] at hr;simp only[List.length_singleton,a1d] at hr
   have e1:min i s.size=10:=by
    rw[<- a1d] at s1;simp only[b1a,hc] at s1;simpa using s1
   have e2:s.size-(i+1)=5:=by
    rw[<- a1d] at s2;simp only[b0Z,hc] at s2;simpa using s2
   have i10:i=10:=by omega
   have hs:s.size=16:=by omega
   subst i10;have a1:b1a s=s.extract 0 10:=a7x (by simp only[b1a,hc,a3g];simp);have a2:b0Z s=s.extract 11 16:=a7x (by simp only[b0Z,hc,a3g];rw[List.take_of_length_le (by rw[a1d];omega)]);rw[a1] at hd;rw[a2] at hm
   have hb:a0V s 10=47:=by
    unfold a0V;rw[List.getD_eq_getElem?_getD,hocc];rfl
   exact decide_eq_true ⟨hs,hb,hd,hm⟩
  ·intro h;obtain⟨hs,hb,hd,hm⟩:=of_decide_eq_true h;obtain⟨a1,a2,a3⟩:=c1m hs hb hd;rw[a1,a2,a3,hd,hm];rfl
 refine⟨key,fun h=>?_⟩;obtain⟨hs,hb,hd,_⟩:=of_decide_eq_true h;obtain⟨a1,a2,_⟩:=c1m hs hb hd;rw[a1,a2];simp[dmV,h]
end Go.Proofs.YtfigmlfdnickmaaGreatDoor.Txt
namespace Go.Proofs.YtfigmlfdnickmaaGreatDoor.Txt
open Go
def a3H(b:Bool)(pos:Nat)(x:List (Nat × Nat) × Option Nat):List (Nat × Nat) × Option Nat :=
 if b then (match x.2 with|some a=>(x.1++[(a,pos)],none)|none=>(x.1,none)) else (x.1,some (x.2.getD pos))
def spK(s:ByteArray):Nat->List (Nat × Nat) × Option Nat
 |0=>([],none)
 |k+1=>a3H (decide (a0V s k=32)) k (spK s k)
def a1v(s:ByteArray):List ByteArray:=(Lib.closeSpans s (spK s s.size)).map fun x=>s.extract x.1 x.2
theorem b0R(s:ByteArray)(i:Nat)(h:i<s.size):(s.get! i).toNat=(a0V s i).toNat:=by
 unfold a0V;rw[List.getD_eq_getElem?_getD,List.getElem?_eq_getElem (by simpa using h)];simp only[Option.getD_some,Int.toNat_natCast]
 congr 1
 cases s with
 |mk a=>simp only[ByteArray.get!];rw[getElem!_pos a i h];simp
theorem b3J(s:ByteArray)(i:Nat)(h:i<s.size):
  ((s.get! i).toNat<128/\Utf8.decode s i=((s.get! i).toNat,1)) \/
  (128<=(Utf8.decode s i).1/\1<=(Utf8.decode s i).2/\∀ j,j<(Utf8.decode s i).2->128<=(s.get! (i+j)).toNat/\i+j<s.size):=by
 unfold Utf8.decode;simp only[Nat.add_zero]
 by_cases h0:(s.get! i).toNat<128
 ·left;exact⟨h0,by rw[if_pos (by omega)]⟩
 ·right;rw[if_neg (by omega)]
  have one:∀ j,j<1->128<=(s.get! (i+j)).toNat/\i+j<s.size:=fun j hj=>by
   obtain rfl:j=0:=by omega
   exact⟨by simpa using h0,by omega⟩
  split
  ·rename_i hc
   simp only[Bool.and_eq_true,decide_eq_true_eq,beq_iff_eq] at hc
   split
   ·refine⟨by simp only;omega,by simp,fun j hj=>?_⟩;simp only at hj;rcases (show j=0\/j=1 by omega) with rfl|rfl
    ·exact one 0 (by omega)
    ·exact⟨by omega,by omega⟩
   ·exact⟨by simp[Utf8.runeError],by simp,one⟩
  ·split
   ·rename_i hc
    simp only[Bool.and_eq_true,decide_eq_true_eq,beq_iff_eq] at hc
    split
    ·rename_i hv
     simp only[Bool.and_eq_true,decide_eq_true_eq] at hv;refine⟨by simp only;omega,by simp,fun j hj=>?_⟩;simp only at hj;rcases (show j=0\/j=1\/j=2 by omega) with rfl|rfl|rfl
     ·exact one 0 (by omega)
     ·exact⟨by omega,by omega⟩
     ·exact⟨by omega,by omega⟩
    ·exact⟨by simp[Utf8.runeError],by simp,one⟩
   ·split
    ·rename_i hc
     simp only[Bool.and_eq_true,decide_eq_true_eq,beq_iff_eq] at hc
     split
     ·rename_i hv
      simp only[Bool.and_eq_true,decide_eq_true_eq] at hv;refine⟨by simp only;omega,by simp,fun j hj=>?_⟩;simp only at hj;rcases (show j=0\/j=1\/j=2\/j=3 by omega) with rfl|rfl|rfl|rfl
      ·exact one 0 (by omega)
      ·exact⟨by omega,by omega⟩
      ·exact⟨by omega,by omega⟩
      ·exact⟨by omega,by omega⟩
     ·exact⟨by simp[Utf8.runeError],by simp,one⟩
    ·exact⟨by simp[Utf8.runeError],by simp,one⟩
theorem c4C(s:ByteArray)(pos:Nat):∀ n:Nat,(∀ j,j<n+1->a0V s (pos+j)≠32)->spK s (pos+(n+1))=((spK s pos).1,some ((spK s pos).2.getD pos)):=by
 intro n
 induction n with
 |zero =>
  intro h;have:=h 0 (by omega);simp only[Nat.add_zero] at this;show a3H _ pos (spK s pos)=_;rw[decide_eq_false this];rfl
 |succ n ih =>
  intro h;have i:=ih (fun j hj=>h j (by omega));have:=h (n+1) (by omega);show a3H (decide (a0V s (pos+(n+1))=32)) (pos+(n+1)) (spK s (pos+(n+1)))=_;rw[decide_eq_false this,i];rfl
theorem c2l(s:ByteArray):∀ (f pos:Nat),pos<=s.size->s.size-pos<=f->Lib.spansFromP (fun r=>r==32) s f pos (spK s pos).2 (spK s pos).1=spK s s.size:=by
 intro f
 induction f with
 |zero =>
  intro pos h1 h2;obtain rfl:pos=s.size:=by omega
  rfl
 |succ f ih =>
  intro pos h1 h2
  by_cases hlt:pos<s.size
  ·unfold Lib.spansFromP;rw[if_pos hlt];rcases b3J s pos hlt with ⟨hb,hd⟩|⟨hr,hw,hj⟩
   ·rw[hd];simp only;have gb:=b0R s pos hlt;have nb:0<=a0V s pos:=by unfold a0V;omega
    have i:=ih (pos+1) (by omega) (by omega);have st:spK s (pos+1)=a3H (decide (a0V s pos=32)) pos (spK s pos):=rfl
    by_cases h32:a0V s pos=32
    ·have e:((s.get! pos).toNat==32)=true:=by rw[beq_iff_eq];omega
     rw[e,if_pos rfl];rw[decide_eq_true h32] at st
     cases hs:(spK s pos).2 with
     |none=>simp only;rw[st] at i;simp only[a3H,hs,if_true] at i;exact i
     |some a=>simp only;rw[st] at i;simp only[a3H,hs,if_true] at i;exact i
    ·have e:((s.get! pos).toNat==32)=false:=by rw[beq_eq_false_iff_ne];omega
     rw[e,if_neg (by decide)];rw[decide_eq_false h32] at st
     cases hs:(spK s pos).2 with
     |none=>simp only;rw[st] at i;simp only[a3H,hs,Bool.false_eq_true,if_false,Option.getD_none] at i;exact i
     |some a=>simp only;rw[st] at i;simp only[a3H,hs,Bool.false_eq_true,if_false,Option.getD_some] at i;exact i
   ·have e:((Utf8.decode s pos).1==32)=false:=by rw[beq_eq_false_iff_ne];omega
    rw[e,if_neg (by decide)];obtain⟨n,hn⟩:∃ n,(Utf8.decode s pos).2=n+1:=⟨(Utf8.decode s pos).2-1,by omega⟩;have lastj:=hj ((Utf8.decode s pos).2-1) (by omega)
    have st:=c4C s pos n (fun j hjn=>by
     have q:=hj j (by omega);have gb:=b0R s (pos+j) q.2;have nb:0<=a0V s (pos+j):=by unfold a0V;omega
     omega)
    have i:=ih (pos+(n+1)) (by omega) (by omega);rw[st] at i;rw[hn]
    cases hs:(spK s pos).2 with
    |none=>simp only;simp only[hs,Option.getD_none] at i;exact i
    |some a=>simp only;simp only[hs,Option.getD_some] at i;exact i
  ·obtain rfl:pos=s.size:=by omega
   unfold Lib.spansFromP;rw[if_neg hlt]
theorem b3C(s:ByteArray):Lib.goFieldsP (fun r=>r==32) s=a1v s:=by
 unfold Lib.goFieldsP Lib.spansOfP a1v;have:=c2l s s.size 0 (zN _) (by omega);rw[show (spK s 0).2=none from rfl,show (spK s 0).1=[] from rfl] at this;rw[this]
end Go.Proofs.YtfigmlfdnickmaaGreatDoor.Txt
namespace Go.Proofs.YtfigmlfdnickmaaGreatDoor.Txt
open Go
def a8z(s:ByteArray)(k:Nat):ByteArray:=match (spK s k).2 with|none=>⟨#[]⟩|some a=>s.extract a k
def b7w(s:ByteArray)(k:Nat):List ByteArray:=(spK s k).1.map fun x=>s.extract x.1 x.2
theorem b5U(s:ByteArray):∀ (k a:Nat),(spK s k).2=some a->a<k
 |0,a,h=>by simp[spK] at h
 |k+1,a,h=>by
  simp only[spK,a3H] at h
  split at h
  ·split at h <;> simp at h
  ·simp only[Option.some.injEq] at h
   cases hs:(spK s k).2 with
   |none=>rw[hs] at h;simp at h;omega
   |some b=>rw[hs] at h;simp at h;have:=b5U s k b hs;omega
theorem a1X(a b:ByteArray):(a++b).data.toList=a.data.toList++b.data.toList:=by
 rw[ByteArray.data_append,Array.toList_append]
theorem c5l(s:ByteArray)(a k:Nat)(h:a<=k):s.extract a k++s.extract k (k+1)=s.extract a (k+1):=by
 apply a7x;rw[a1X,a3g,a3g,a3g]
 have h1:(s.data.toList.take k).drop a=((s.data.toList.take (k+1)).drop a).take (k-a):=by
  rw[List.drop_take,List.drop_take,List.take_take,show min (k-a) (k+1-a)=k-a from by omega]
 have h2:(s.data.toList.take (k+1)).drop k=((s.data.toList.take (k+1)).drop a).drop (k-a):=by
  rw[List.drop_drop,show a+(k-a)=k from by omega]
 rw[h1,h2,List.take_append_drop]
theorem b7k(s:ByteArray)(k:Nat):(a8z s k).size<=k:=by
 unfold a8z
 split
 ·exact zN _
 ·have:∀ a b,(s.extract a b).size=min b s.size-a:=fun a b=>ByteArray.size_extract ..
  rw[this];omega
theorem c0V(b:ByteArray):(⟨#[]⟩:ByteArray)++b=b:=by
 apply a7x;rw[a1X];rfl
theorem b7l(s:ByteArray)(k:Nat)(h:a0V s k≠32):a8z s k++s.extract k (k+1)=a8z s (k+1)/\b7w s (k+1)=b7w s k:=by
 have e:spK s (k+1)=((spK s k).1,some ((spK s k).2.getD k)):=by simp only[spK,a3H,decide_eq_false h];rfl
 refine⟨?_,by unfold b7w;rw[e]⟩;unfold a8z;rw[e]
 cases hs:(spK s k).2 with
 |none=>simp only[Option.getD_none];exact c0V _
 |some a=>simp only[Option.getD_some];exact c5l s a k (Nat.le_of_lt (b5U s k a hs))
theorem b3O(s:ByteArray)(k:Nat)(hk:k<=s.size)(h:a0V s k=32):a8z s (k+1)=⟨#[]⟩/\b7w s (k+1)=b7w s k++(if (a8z s k).size=0 then [] else [a8z s k]):=by
 have e:spK s (k+1)=a3H true k (spK s k):=by simp only[spK,decide_eq_true h]
 cases hs:(spK s k).2 with
 |none =>
  have e2:spK s (k+1)=((spK s k).1,none):=by rw[e];simp[a3H,hs]
  have c:a8z s k=⟨#[]⟩:=by unfold a8z;rw[hs]
  refine⟨by unfold a8z;rw[e2],?_⟩;rw[c];unfold b7w;rw[e2];simp;rfl
 |some a =>
  have e2:spK s (k+1)=((spK s k).1++[(a,k)],none):=by rw[e];simp[a3H,hs]
  have c:a8z s k=s.extract a k:=by unfold a8z;rw[hs]
  have lt:=b5U s k a hs;have sz:(s.extract a k).size=min k s.size-a:=ByteArray.size_extract ..;refine⟨by unfold a8z;rw[e2],?_⟩;rw[c,if_neg (by omega)];unfold b7w;rw[e2];simp
theorem b2t(s:ByteArray):a1v s=b7w s s.size++(if (a8z s s.size).size=0 then [] else [a8z s s.size]):=by
 unfold a1v b7w a8z Lib.closeSpans
 cases hs:(spK s s.size).2 with
 |none=>simp;rfl
 |some a =>
  have lt:=b5U s _ a hs;have sz:(s.extract a s.size).size=min s.size s.size-a:=ByteArray.size_extract ..;simp only;rw[if_neg (by omega)];simp
theorem b5J(s:ByteArray):∀ k:Nat,(b7w s k).length<=k
 |0=>zq _
 |k+1=>by
  have ih:=b5J s k;unfold b7w at *;rw[List.length_map] at *;simp only[spK,a3H]
  split
  ·split <;> simp <;> omega
  ·simp;omega
end Go.Proofs.YtfigmlfdnickmaaGreatDoor.Txt
namespace Go.Proofs.YtfigmlfdnickmaaGreatDoor.Txt
open Go
def wdL(l:List UInt8):Int :=
 if l==[109,111] then 0 else if l==[116,117] then 1 else if l==[119,101] then 2 else if l==[116,104] then 3 else if l==[102,114] then 4 else if l==[115,97] then 5 else if l==[115,117] then 6 else -1
theorem c3Q(l:List UInt8):-1<=wdL l/\wdL l<=6:=by
 unfold wdL;(repeat' split) <;> omega
def a4D(acc:List Int)(d:Int):Option (List Int):=if 0<=d/\acc.contains d=false then some (d :: acc) else none
def onC:List UInt8->List Int->Option (List Int)
 |[a,b],acc=>a4D acc (wdL [a,b])
 |a :: b :: c :: r,acc=>if c=44 then (a4D acc (wdL [a,b])).bind (onC r) else none
 |_,_=>none
theorem f4x:∀ (l:List UInt8)(acc r:List Int),onC l acc=some r->l.length % 3=2
 |[],_,_,h=>by simp[onC] at h
 |[_],_,_,h=>by simp[onC] at h
 |[_,_],_,_,_=>rfl
 |a :: b :: c :: l,acc,r,h=>by
  unfold onC at h
  split at h
  ·simp only[Option.bind_eq_some_iff] at h;obtain⟨x,_,h⟩:=h;have:=f4x l x r h;simp only[List.length_cons];omega
  ·cases h
def onW(s:ByteArray):Option (List Int):=onC s.data.toList []
def onB(s:ByteArray):Bool:=(onW s).isSome
end Go.Proofs.YtfigmlfdnickmaaGreatDoor.Txt
namespace Go.Proofs.YtfigmlfdnickmaaGreatDoor
def isd(acc:List Int)(j:Int):Bool:=acc.contains j
end Go.Proofs.YtfigmlfdnickmaaGreatDoor
namespace Go.Proofs.YtfigmlfdnickmaaGreatDoor
theorem a4i{α:Type}{lt:α->α->Prop}(hi:∀ x,¬ lt x x)(ht:∀ x y z,lt x y->lt y z->lt x z):∀ {l m:List α},l.Pairwise lt->m.Pairwise lt->(∀ x,x∈l↔x∈m)->l=m
 |[],[],_,_,_=>rfl
 |[],y :: m,_,_,h=>by have:=(h y).2 (by simp);simp at this
 |x :: l,[],_,_,h=>by have:=(h x).1 (by simp);simp at this
 |x :: l,y :: m,hl,hm,h=>by
  rw[List.pairwise_cons] at hl hm
  have e:x=y:=by
   rcases List.mem_cons.1 ((h x).1 (by simp)) with e|e
   ·exact e
   ·rcases List.mem_cons.1 ((h y).2 (by simp)) with k|k
    ·exact k.symm
    ·exact absurd (ht _ _ _ (hl.1 y k) (hm.1 x e)) (hi x)
  subst e
  congr 1
  refine a4i hi ht hl.2 hm.2 (fun z=>?_);constructor
  ·intro hz;rcases List.mem_cons.1 ((h z).1 (by simp[hz])) with e|e
   ·subst e;exact absurd (hl.1 z hz) (hi z)
   ·exact e
  ·intro hz;rcases List.mem_cons.1 ((h z).2 (by simp[hz])) with e|e
   ·subst e;exact absurd (hm.1 z hz) (hi z)
   ·exact e
namespace Rd
structure a0Y where
 pc:Int
 ev:Int
 acc:List Int
 fr:Int
 mn:Int
 mi:Int
 ti:Int
 un:Int
structure a6s(r:a0Y):Prop where
 pc1:1<=r.pc
 pc3:r.pc<=3
 e1:1<=r.ev
 e2:r.ev<=99
 f0:0<=r.fr
 f1:r.fr<728
 m0:0<=r.mn
 m1:r.mn<1440
 i1:1<=r.mi
 i2:r.mi<=1048320
 t0:0<=r.ti
 t1:r.ti<=99
 u0:0<=r.un
 u1:r.un<728
def has(r:a0Y)(d:Int):Bool :=
 if r.pc=1 then decide ((d-r.fr) % r.ev=0)
 else if r.pc=2 then isd r.acc (d % 7) && decide ((d / 7-r.fr / 7) % r.ev=0)
 else decide (Cal.dT d=Cal.dT r.fr) && decide ((12*Cal.yT d+Cal.mT d-12*Cal.yT r.fr-Cal.mT r.fr) % r.ev=0)
def b4L(r:a0Y)(l:List Int)(d:Int):List Int:=if has r d/\((r.ti=0/\d<=r.un)\/(0<r.ti/\(l.length:Int)<r.ti)) then l++[d] else l
def a4Y(r:a0Y):Nat->Int->List Int->List Int
 |0,_,l=>l
 |k+1,d,l=>a4Y r k (d+1) (b4L r l d)
def a0E(r:a0Y):List Int:=a4Y r (728-r.fr).toNat r.fr []
def a8m(r:a0Y)(d:Int):Bool:=decide (1048320<d*1440+r.mn+r.mi)
def a6W(r:a0Y):Int :=
 if 40<(a0E r).length\/40<r.ti then 11 else if a0E r=[]\/((a0E r).length:Int)<r.ti then 6 else if (a0E r).any (a8m r) then 6 else 0
def a2M(r:a0Y)(l:List Int):List (Int × Int):=l.map fun d=>(d*1440+r.mn,d*1440+r.mn+r.mi)
end Rd
open Go.RowKit
namespace Desk
def a2r(name:ByteArray)(es:List Ent)(a b:Int)(m x:Int):Int:=if a<x/\x<b/\m<a0o name x es then a0o name x es else m
def a1Q(name:ByteArray)(es:List Ent)(a b:Int):Int:=(a2L name es).foldl (a2r name es a b) (a0o name a es)
end Desk
theorem f9U(d:Nat)(a:Option Addr)(cap E:Nat)(es:List Desk.Ent)(name:ByteArray)(fr til:Int)(w:World)(h:RDE w d a cap E es)(hl:es.length<=1000)(hs:∀ e∈es,Desk.Small e):
  Calls Tryz.prog 236 #[.pointer (some ⟨d,0,none⟩),.string name,.int .i64 fr,.int .i64 til] w fun e w'=>e=.returned (.int .i64 (Desk.a1Q name es fr til))/\Below w.heap.size w w':=by
 have ST:=a0b (fun w' (k:Below w.heap.size w w')=>e0b d a cap E es name w' (h.later k) hl hs);have TK:=a0b (fun t w' (k:Below w.heap.size w w')=>e3v d a cap E es name t w' (h.later k) hl hs);have sz:=d4X name es hs;have hpk:Desk.a1Q name es fr til=(Desk.a2L name es).foldl (Desk.a2r name es fr til) (Desk.a0o name fr es):=rfl;rw[hpk];generalize Desk.a2L name es=l at *;have eln:l.length<=100000:=by omega
 clear h hs hpk sz
 go_enter Tryz.func236,Tryz.ntmps236
 go_wp2_with fail
 refine (TK.out _ _ (zr _ _)).mono ?_;rintro e w1 ⟨rfl,hb1⟩;have HB1:=a0b hb1;clear hb1
 go_wp2_with fail
 refine (ST.out _ HB1.out).mono ?_;rintro e w2 ⟨v2,rfl,ho2,hb2⟩;obtain⟨a2,c2,g2,rfl,hn2,ha2,hr2⟩:=e1E ho2;have R2:=a0b (zA ha2 (zA hr2 (a0j HB1.out hb2 (zq _))));clear ST ho2 hb2 ha2 hr2 HB1 hn2
 go_wp2_with fail
 go_loopw [9,11,12] (fun m i _ wx=>∃ j:Nat,j<=l.length/\i=.int .i64 j/\m=.int .i64 ((l.take j).foldl (Desk.a2r name es fr til) (Desk.a0o name fr es))/\Below w2.heap.size w2 wx) (fun _ i _ _=>l.length-(intOf i).toNat)
 case atStart=>exact⟨0,Nat.zero_le _,rfl,rfl,Below.refl _ _⟩
 case round =>
  obtain⟨j,hj,rfl,rfl,hb⟩:=hrel;have hbw:=a0j R2.out.2.2 hb (zq _);have HBW:=a0b hbw;have HB:=a0b hb;clear hbw
  by_cases hjl:j<l.length
  ·obtain rfl:=R2.out.1 (by intro e;simp[e] at hjl);have c0:=a0a hb (R2.out.2.1 j hjl);have hi2:(j:Int)<(l.length:Int):=by omega
   have hst:(l.take (j+1)).foldl (Desk.a2r name es fr til) (Desk.a0o name fr es)=Desk.a2r name es fr til ((l.take j).foldl (Desk.a2r name es fr til) (Desk.a0o name fr es)) l[j]:=by
    rw[List.take_succ_eq_append_getElem hjl,List.foldl_append];rfl
   have HST:=a0b hst;have TK1:=a0b (TK.out l[j]);generalize (l.take j).foldl (Desk.a2r name es fr til) (Desk.a0o name fr es)=m at *;have HPS:Hid (Desk.a2r name es fr til m l[j]=if fr<l[j]/\l[j]<til/\m<Desk.a0o name l[j] es then Desk.a0o name l[j] es else m):=rfl;generalize Desk.a0o name l[j] es=tk at *;clear hst hb
   by_cases h1:fr<l[j]
   ·by_cases h2:l[j]<til
    ·by_cases h3:m<tk
     ·have HE:Hid ((l.take (j+1)).foldl (Desk.a2r name es fr til) (Desk.a0o name fr es)=tk):=by show _=tk;rw[HST.out,HPS.out,if_pos ⟨h1,h2,h3⟩]
      go_wp2_with fail
      refine (TK1.out _ HBW.out).mono ?_;rintro e w4 ⟨rfl,hb4⟩;have HB4:=a0b (a0j HB.out hb4 (zq _));clear hb4 TK1
      go_wp2_with fail
      go_roundw
      case rel=>exact⟨j+1,by omega,by go_num,by rw[HE.out],HB4.out⟩
      case measure=>simp[intOf];omega
     ·have HE:Hid ((l.take (j+1)).foldl (Desk.a2r name es fr til) (Desk.a0o name fr es)=m):=by show _=m;rw[HST.out,HPS.out,if_neg (fun x=>h3 x.2.2)]
      go_wp2_with fail
      refine (TK1.out _ HBW.out).mono ?_;rintro e w4 ⟨rfl,hb4⟩;have HB4:=a0b (a0j HB.out hb4 (zq _));clear hb4 TK1
      go_wp2_with fail
      go_roundw
      case rel=>exact⟨j+1,by omega,by go_num,by rw[HE.out],HB4.out⟩
      case measure=>simp[intOf];omega
    ·have HE:Hid ((l.take (j+1)).foldl (Desk.a2r name es fr til) (Desk.a0o name fr es)=m):=by show _=m;rw[HST.out,HPS.out,if_neg (fun x=>h2 x.2.1)]
     go_wp2_with fail
     go_roundw
     case rel=>exact⟨j+1,by omega,by go_num,by rw[HE.out],HB.out⟩
     case measure=>simp[intOf];omega
   ·have HE:Hid ((l.take (j+1)).foldl (Desk.a2r name es fr til) (Desk.a0o name fr es)=m):=by show _=m;rw[HST.out,HPS.out,if_neg (fun x=>h1 x.1)]
    go_wp2_with fail
    go_roundw
    case rel=>exact⟨j+1,by omega,by go_num,by rw[HE.out],HB.out⟩
    case measure=>simp[intOf];omega
  ·have e:l.take j=l:=List.take_of_length_le (by omega);have hi2:¬ (j:Int)<(l.length:Int):=by omega
   clear hb
   go_wp2_with fail
   go_ret;exact⟨a1L (by first|rfl|rw[e]),HBW.out⟩
namespace Desk
def b5k:List Ent->List Int
 |[]=>[]
 |e :: r=>e.a0e.map (·.2)++b5k r
theorem e4Y(l r:List Ent):b5k (l++r)=b5k l++b5k r:=by
 induction l with
 |nil=>rfl
 |cons e l ih=>simp only[List.cons_append,b5k,ih,List.append_assoc]
def a3O(ts:List (ByteArray × Int))(es:List Ent)(name:ByteArray)(a0c long fr til best s:Int):Int :=
 if s<fr\/til<s+long\/(0<=best/\best<=s) then best else if a1e ts es name a0c [(s,s+long)] then s else best
def a9A(ts:List (ByteArray × Int))(es:List Ent)(name:ByteArray)(a0c long fr til:Int):Int:=(fr :: b5k es).foldl (a3O ts es name a0c long fr til) (-1)
def g0K(es:List Ent):Prop:=∀ e∈es,∀ s∈e.a0e,0<=s.2/\s.2<=2000000
theorem e4X(l:List Ent)(h:∀ e∈l,Small e):(b5k l).length<=100*l.length:=by
 induction l with
 |nil=>simp[b5k]
 |cons e l ih =>
  have i:=ih (fun x hx=>h x (by simp[hx]));have s:=(h e (by simp)).sl;simp only[b5k,List.length_append,List.length_cons,List.length_map];omega
theorem f6a(l:List Ent)(h:g0K l):∀ x∈b5k l,0<=x/\x<=2000000:=by
 induction l with
 |nil=>simp[b5k]
 |cons e l ih =>
  intro x hx;simp only[b5k,List.mem_append,List.mem_map] at hx;rcases hx with ⟨s,hs,rfl⟩|hx
  ·exact h e (by simp) s hs
  ·exact ih (fun e he=>h e (by simp[he])) x hx
end Desk
def d3q(fr:Int)(l:List Desk.Ent)(e:Desk.Ent)(j:Nat):List Int:=fr :: (Desk.b5k l++(e.a0e.take j).map (·.2))
theorem f9W(d:Nat)(a:Option Addr)(cap E:Nat)(es:List Desk.Ent)(at_:Option Addr)(ct G:Nat)(ts:List (ByteArray × Int))(name:ByteArray)(a0c long fr til:Int)(w:World)(h:RDE w d a cap E es)(ht:RDT w d at_ ct G ts)(hl:es.length<=1000)(htl:ts.length<=1000)(hs:∀ e∈es,Desk.Small e)(he:Desk.g0K es)(hu0:0<=a0c)(hu1:a0c<=9)(hl0:0<=long)(hl1:long<=2000000)(hf0:0<=fr)(hf1:fr<=2000000):
  Calls Tryz.prog 237 #[.pointer (some ⟨d,0,none⟩),.string name,.int .i64 a0c,.int .i64 long,.int .i64 fr,.int .i64 til] w fun e w'=>e=.returned (.int .i64 (Desk.a9A ts es name a0c long fr til))/\Below w.heap.size w w':=by
 obtain⟨i0,hi0,hz0,hz1,hz2⟩:=info_parts b1S;have FT:=a0b (fun w' (k:Below w.heap.size w w') B cb L hL hll=>f0u d a cap E es at_ ct G ts name a0c B cb L w' (h.later k) (ht.later k) hL hl htl hs hll hu0 hu1);have H:=a0b h;have HS:=a0b hs;have sz:=Desk.e4X es hs
 have hmem:Hid (∀ x∈fr :: Desk.b5k es,0<=x/\x<=2000000):=by
  intro x hx;rcases List.mem_cons.1 hx with rfl|hx
  ·exact⟨hf0,hf1⟩
  ·exact Desk.f6a es he x hx
 have hfn:Desk.a9A ts es name a0c long fr til=(fr :: Desk.b5k es).foldl (Desk.a3O ts es name a0c long fr til) (-1):=rfl;rw[hfn];obtain⟨l,hl2⟩:∃ l,fr :: Desk.b5k es=l:=⟨_,rfl⟩;have eln:l.length<=100100:=by rw[<- hl2,List.length_cons];omega
 rw[hl2] at hmem ⊢;have HL2:=a0b hl2;clear h ht hs he hfn hl2
 go_enter Tryz.func237,Tryz.ntmps237
 go_wp2_with fail
 have o0:(w.alloc (.cells #[.int .i64 fr] 3)).ownsRow w.heap.size 3 1 (.slice (some ⟨w.heap.size,0,none⟩) 1 1) 1 ([fr].map (Value.int .i64)) :=
  ⟨rfl,.inr ⟨w.heap.size,1,#[.int .i64 fr],rfl,Nat.le_refl _,a0p _ _,Nat.le_refl _,by unfold maxLen;omega,rfl,rfl⟩⟩
 have O0:=a0b (zA o0 ((zr _ w).alloc (zq _) (.cells #[.int .i64 fr] 3)));clear o0
 go_loopw [13,14,15] (fun v i _ wx=>∃ k:Nat,k<=es.length/\i=.int .i64 k/\wx.ownsRow w.heap.size 3 1 v (fr :: Desk.b5k (es.take k)).length ((fr :: Desk.b5k (es.take k)).map (Value.int .i64))/\Below w.heap.size w wx) (fun _ i _ _=>es.length-(intOf i).toNat)
 case atStart=>exact⟨0,Nat.zero_le _,rfl,O0.out.1,O0.out.2⟩
 case round =>
  obtain⟨k,hk,rfl,hown,hb⟩:=hrel;have bl:=List.length_take_le k es;have hx:=H.out.later hb;have cc:=hx.c;have sz2:=Desk.e4X (es.take k) (fun e he=>HS.out e (List.mem_of_mem_take he))
  by_cases hlt:k<es.length
  ·obtain rfl:=H.out.at hlt;obtain⟨B,cp,hr0⟩:=H.out.r k hlt;have c4:=(hr0.later hb).c4;have hsm:=HS.out es[k] (zg hlt);have hi:(k:Int)<(es.length:Int):=by omega
   have e:fr :: Desk.b5k (es.take (k+1))=fr :: (Desk.b5k (es.take k)++es[k].a0e.map (·.2)):=by
    rw[List.take_succ_eq_append_getElem hlt,Desk.e4Y];simp[Desk.b5k]
   have EE:=a0b e;have sl:=hsm.sl;have R0:=a0b hr0;have HO:=a0b (zA hown hb);clear e hr0 hx hsm hown hb
   go_wp2_with fail
   go_loopw [13,15] (fun v i wx=>∃ j:Nat,j<=es[k].a0e.length/\i=.int .i64 j/\wx.ownsRow w.heap.size 3 1 v (d3q fr (es.take k) es[k] j).length ((d3q fr (es.take k) es[k] j).map (Value.int .i64))/\Below w.heap.size w wx) (fun _ i _=>es[k].a0e.length-(intOf i).toNat)
   case atStart=>exact⟨0,Nat.zero_le _,rfl,by rw[d3q];simpa using HO.out.1,HO.out.2⟩
   case round =>
    obtain⟨j,hj,rfl,hown,hb⟩:=hrel;clear cc c4;have cc:=(H.out.later hb).c;have c4:=(R0.out.later hb).c4;have HOB:=a0b (zA hown hb);have hbs2:=hb.size
    by_cases hjl:j<es[k].a0e.length
    ·have r1:=(R0.out.sl.later hb j hjl).2;have hi2:(j:Int)<(es[k].a0e.length:Int):=by omega
     have es1:d3q fr (es.take k) es[k] (j+1)=d3q fr (es.take k) es[k] j++[es[k].a0e[j].2]:=by
      unfold d3q;rw[List.take_succ_eq_append_getElem hjl,List.map_append,List.cons_append,List.append_assoc];rfl
     have ES:=a0b es1
     have eln2:(d3q fr (es.take k) es[k] j).length<=100*k+101:=by
      unfold d3q;have:=List.length_take_le j es[k].a0e;simp only[List.length_cons,List.length_append,List.length_map];omega
     clear es1 hb
     go_wp2_with (first
      |(at_builtin;refine wpList_append_own _ rfl _ _ 38 rfl w.heap.size 3 i0 (.int .i64 0) 1 8 Tryz.underlying38 hi0 hz0 hz1 hz2 rfl (by decide) _ _ _ rfl (hown.alloc _) ⟨wr.heap.size,0,none⟩ 1 1 [.int .i64 es[k].a0e[j].2] rfl rfl (World.news_of_block (cs:=#[.int .i64 es[k].a0e[j].2]) (a0p wr _)) (by simp[Value.oneCell']) (by unfold maxLen;omega) (by omega) (by simp;omega) ?_;intro v' w' hown' hgrow _))
     have hb':Below w.heap.size w w':=(HOB.out.2.alloc hbs2 _).grown hgrow (by simp;omega) (fun k hk=>d0G HOB.out.1 hk)
     have HK:Hid (w'.ownsRow w.heap.size 3 1 v' (d3q fr (es.take k) es[k] (j+1)).length ((d3q fr (es.take k) es[k] (j+1)).map (Value.int .i64))):=by
      show w'.ownsRow _ _ _ _ _ _;rw[ES.out,List.map_append,List.length_append];exact hown'
     have HB2:=a0b hb';clear hown' hgrow hb' hown HOB r1 cc c4
     go_wp2_with fail
     go_roundw
     case rel=>exact⟨j+1,by omega,by go_num,HK.out,HB2.out⟩
     case measure=>simp[intOf];omega
    ·have hi2:¬ (j:Int)<(es[k].a0e.length:Int):=by omega
     have hfin:d3q fr (es.take k) es[k] j=fr :: Desk.b5k (es.take (k+1)):=by
      have et:es[k].a0e.take j=es[k].a0e:=List.take_of_length_le (by omega);rw[EE.out,d3q,et]
     have HK:Hid (wr.ownsRow w.heap.size 3 1 u13 (fr :: Desk.b5k (es.take (k+1))).length ((fr :: Desk.b5k (es.take (k+1))).map (Value.int .i64))):=by
      show wr.ownsRow _ _ _ _ _ _;rw[<- hfin];exact hown
     clear hown hb hfin
     go_wp2_with fail
     go_roundw
     case rel=>exact⟨k+1,by omega,by go_num,HK.out,HOB.out.2⟩
     case measure=>simp[intOf];omega
  ·have e:es.take k=es:=List.take_of_length_le (by omega);have hi:¬ (k:Int)<(es.length:Int):=by omega
   rw[e,HL2.out] at hown;obtain⟨a2,c2,g2,rfl,hn2,ha2,hr2⟩:=e1E hown;have R2:=a0b (zA ha2 (zA hr2 hb));clear hown hb e ha2 hr2 hn2 HL2 hx O0
   go_wp2_with fail
   go_loopw [16,17,18,19] (fun b i _ _ wx=>∃ j:Nat,j<=l.length/\i=.int .i64 j/\b=.int .i64 ((l.take j).foldl (Desk.a3O ts es name a0c long fr til) (-1))/\Below w.heap.size w wx/\∀ (i:Nat) (hi:i<l.length),wx.cell? ⟨g2,i,none⟩=some (.int .i64 l[i])) (fun _ i _ _ _=>l.length-(intOf i).toNat)
   case atStart=>exact⟨0,Nat.zero_le _,rfl,rfl,R2.out.2.2,R2.out.2.1⟩
   case round =>
    obtain⟨j,hj,rfl,rfl,hb,hcell⟩:=hrel;have HBW:=a0b hb;have HC:=a0b hcell;clear hcell
    by_cases hjl:j<l.length
    ·obtain rfl:=R2.out.1 (by intro e;simp[e] at hjl);have c0:=HC.out j hjl;have hi2:(j:Int)<(l.length:Int):=by omega
     have hst:(l.take (j+1)).foldl (Desk.a3O ts es name a0c long fr til) (-1)=Desk.a3O ts es name a0c long fr til ((l.take j).foldl (Desk.a3O ts es name a0c long fr til) (-1)) l[j]:=by
      rw[List.take_succ_eq_append_getElem hjl,List.foldl_append];rfl
     have HST:=a0b hst;have hm:=hmem.out l[j] (zg hjl);generalize (l.take j).foldl (Desk.a3O ts es name a0c long fr til) (-1)=b at *;generalize l[j]=sx at *;have HPS:Hid (Desk.a3O ts es name a0c long fr til b sx=if sx<fr\/til<sx+long\/(0<=b/\b<=sx) then b else if Desk.a1e ts es name a0c [(sx,sx+long)] then sx else b):=rfl;clear hst hb
     by_cases hskip:sx<fr\/til<sx+long\/(0<=b/\b<=sx)
     ·have HE:Hid ((l.take (j+1)).foldl (Desk.a3O ts es name a0c long fr til) (-1)=b):=by show _=b;rw[HST.out,HPS.out,if_pos hskip]
      have hcs:sx<fr\/(¬ sx<fr/\til<sx+long)\/(¬ sx<fr/\¬ til<sx+long/\0<=b/\b<=sx):=by omega
      clear hskip;rcases hcs with q1|⟨q1,q2⟩|⟨q1,q2,q3,q4⟩
      all_goals
       go_wp2_with fail
       go_roundw
       case rel=>exact⟨j+1,by omega,by go_num,by rw[HE.out],HBW.out,HC.out⟩
       case measure=>simp[intOf];omega
     ·have hB:RSL (wr.alloc (.cells #[.int .i64 sx,.int .i64 (sx+long)] 60)) wr.heap.size [(sx,sx+long)]:=by
       intro i hi;have:i=0:=by simpa using hi
       subst this;exact⟨by simp,by simp⟩
      have hbX:Below w.heap.size w (wr.alloc (.cells #[.int .i64 sx,.int .i64 (sx+long)] 60)):=a0j HBW.out ((zr _ _).alloc (zq _) _) (zq _);have FT1:=a0b (FT.out _ hbX wr.heap.size 1 [(sx,sx+long)] hB (by simp));have HBX:=a0b hbX;have HCX:Hid (∀ (i:Nat) (hi:i<l.length),(wr.alloc (.cells #[.int .i64 sx,.int .i64 (sx+long)] 60)).cell? ⟨g2,i,none⟩=some (.int .i64 l[i])):=fun i hi=>a0a ((zr _ _).alloc (zq _) _) (HC.out i hi)
      have q1:¬ sx<fr:=by omega
      have q2:¬ til<sx+long:=by omega
      have hz:(wr.alloc (.cells #[.int .i64 sx,.int .i64 (sx+long)] 60)).heap.size=wr.heap.size+1:=by simp
      clear hB hbX hz
      cases hfit:Desk.a1e ts es name a0c [(sx,sx+long)]
      ·have HE:Hid ((l.take (j+1)).foldl (Desk.a3O ts es name a0c long fr til) (-1)=b):=by show _=b;rw[HST.out,HPS.out,if_neg hskip,hfit];rfl
       rw[hfit] at FT1;have hcs:b<0\/(0<=b/\sx<b):=by omega
       clear hskip hfit;rcases hcs with q3|⟨q3,q4⟩
       all_goals
        go_wp2_with fail
        refine FT1.out.mono ?_;rintro e w4 ⟨rfl,hb4⟩;have HB4:=a0b (zA (a0j HBX.out hb4 (zq _)) (fun i hi=>a0a hb4 (HCX.out i hi)));clear hb4 FT1
        go_wp2_with fail
        go_roundw
        case rel=>exact⟨j+1,by omega,by go_num,by rw[HE.out],HB4.out.1,HB4.out.2⟩
        case measure=>simp[intOf];omega
      ·have HE:Hid ((l.take (j+1)).foldl (Desk.a3O ts es name a0c long fr til) (-1)=sx):=by show _=sx;rw[HST.out,HPS.out,if_neg hskip,hfit];rfl
       rw[hfit] at FT1;have hcs:b<0\/(0<=b/\sx<b):=by omega
       clear hskip hfit;rcases hcs with q3|⟨q3,q4⟩
       all_goals
        go_wp2_with fail
        refine FT1.out.mono ?_;rintro e w4 ⟨rfl,hb4⟩;have HB4:=a0b (zA (a0j HBX.out hb4 (zq _)) (fun i hi=>a0a hb4 (HCX.out i hi)));clear hb4 FT1
        go_wp2_with fail
        go_roundw
        case rel=>exact⟨j+1,by omega,by go_num,by rw[HE.out],HB4.out.1,HB4.out.2⟩
        case measure=>simp[intOf];omega
    ·have e:l.take j=l:=List.take_of_length_le (by omega);have hi2:¬ (j:Int)<(l.length:Int):=by omega
     clear hb
     go_wp2_with fail
     go_ret;exact⟨a1L (by first|rfl|rw[e]),HBW.out⟩
namespace Desk
def a5V(a x:Int):List Int->Int
 |[]=>a
 |s :: r=>if s<=x/\a5V a x r<s then s else a5V a x r
theorem a6N(a x:Int)(h:a<=x):∀ l:List Int,a<=a5V a x l/\a5V a x l<=x/\(a5V a x l=a\/a5V a x l∈l)/\∀ s∈l,s<=x->s<=a5V a x l
 |[]=>⟨Int.le_refl _,h,.inl rfl,by simp⟩
 |s :: r=>by
  obtain⟨h1,h2,h3,h4⟩:=a6N a x h r;simp only[a5V]
  split
  ·rename_i c
   refine⟨by omega,c.1,.inr (by simp),fun t ht k=>?_⟩;rcases List.mem_cons.1 ht with rfl|ht
   ·omega
   ·have:=h4 t ht k;omega
  ·rename_i c
   refine⟨h1,h2,?_,fun t ht k=>?_⟩
   ·rcases h3 with h3|h3
    ·exact .inl h3
    ·exact .inr (by simp[h3])
   ·rcases List.mem_cons.1 ht with rfl|ht
    ·omega
    ·exact h4 t ht k
theorem a5Y(hyx:y<=x)(h:∀ s∈L,s.1<=x->s.1<=y):a0r L x<=a0r L y:=by
 unfold a0r;rw[<- List.countP_eq_length_filter,<- List.countP_eq_length_filter]
 have:List.countP (hasB x) L<=List.countP (hasB y) L:=List.countP_mono_left (fun s hs hb=>by
  simp[hasB] at hb ⊢;have:=h s hs hb.1
  omega)
 omega
def Pos(es:List Ent):Prop:=∀ e∈es,0<=e.a0c
theorem a5Z{name:ByteArray}{x y:Int}(hyx:y<=x):∀ {es:List Ent},Pos es->(∀ s∈a2L name es,s<=x->s<=y)->a0o name x es<=a0o name y es
 |[],_,_=>Int.le_refl _
 |e :: r,hp,h=>by
  have ih:=a5Z (name:=name) hyx (es:=r) (fun z hz=>hp z (by simp[hz])) (fun s hs=>h s (by simp[a2L,hs]));simp only[a0o]
  by_cases hb:ofB name e=true
  ·rw[if_pos hb,if_pos hb];have hs:a0y e.a0k name=true:=by simp[ofB] at hb;exact hb.1
   have hm:a0r e.a0e x<=a0r e.a0e y:=a5Y hyx (fun s hs' hx=>h s.1 (by simp[a2L,hs];exact .inl ⟨s.2,hs'⟩) hx);have hu:=hp e (by simp);have:a0r e.a0e x*e.a0c<=a0r e.a0e y*e.a0c:=Int.mul_le_mul_of_nonneg_right hm hu;omega
  ·rw[if_neg hb,if_neg hb];omega
theorem b7K(hp:Pos es)(h:a<=x):∃ y,a<=y/\y<=x/\(y=a\/y∈a2L name es)/\a0o name x es<=a0o name y es:=by
 obtain⟨h1,h2,h3,h4⟩:=a6N a x h (a2L name es);exact⟨_,h1,h2,h3,a5Z h2 hp h4⟩
theorem a4d{a0c:Int}(hp:Pos es)(hu:0<=a0c):
  a1e ts es name a0c L=true↔∀ x,0<a0r L x->a0o name x es+a0r L x*a0c<=a0h name ts:=by
 constructor
 ·intro h x hx
  have hex:∃ s∈L,s.1<=x/\x<s.2:=by
   unfold a0r at hx;have hl:0<(L.filter (hasB x)).length:=by omega
   obtain⟨s,hs⟩:=List.exists_mem_of_length_pos hl;have:=List.mem_filter.1 hs;simp[hasB] at this;exact⟨s,this.1,this.2⟩
  obtain⟨s0,hs0,k1,k2⟩:=hex;obtain⟨h1,h2,h3,h4⟩:=a6N s0.1 x k1 (a2L name es++L.map (·.1));generalize a5V s0.1 x (a2L name es++L.map (·.1))=y at h1 h2 h3 h4
  have hy:y∈a2L name es++L.map (·.1):=by
   rcases h3 with rfl|h3
   ·simp;exact .inr ⟨s0.2,hs0⟩
   ·exact h3
  have ht:=a5Z (name:=name) (es:=es) h2 hp (fun s hs=>h4 s (by simp[hs]));have hm:a0r L x<=a0r L y:=a5Y h2 (fun s hs=>h4 s.1 (by simp;exact .inr ⟨s.2,hs⟩));have hh:=List.all_eq_true.1 h y hy;simp[c4T] at hh;have hx':0<a0r L y:=by omega
  have hmu:a0r L x*a0c<=a0r L y*a0c:=Int.mul_le_mul_of_nonneg_right hm hu;omega
 ·intro h;unfold a1e c4e;rw[List.all_eq_true];intro x _;simp[c4T]
  by_cases hx:0<a0r L x
  ·exact .inr (h x hx)
  ·exact .inl (by omega)
theorem a7i(a b x:Int):a0r [(a,b)] x=if a<=x/\x<b then 1 else 0:=by
 unfold a0r
 by_cases h:a<=x/\x<b
 ·rw[if_pos h];simp[hasB,h.1,h.2]
 ·rw[if_neg h];have:hasB x (a,b)=false:=by simp[hasB];omega
  simp[this]
theorem a6S{a0c b:Int}(hp:Pos es)(hu:0<=a0c):
  a1e ts es name a0c [(a,b)]=true↔∀ x,a<=x->x<b->a0o name x es+a0c<=a0h name ts:=by
 rw[a4d hp hu];constructor
 ·intro h x h1 h2;have:=h x (by rw[a7i,if_pos ⟨h1,h2⟩];omega);rw[a7i,if_pos ⟨h1,h2⟩] at this;omega
 ·intro h x hx;rw[a7i] at hx ⊢
  by_cases c:a<=x/\x<b
  ·rw[if_pos c];have:=h x c.1 c.2;omega
  ·rw[if_neg c] at hx;omega
def a9W(f:Int->Int)(a b m:Int):Prop:=(∀ x,a<=x->x<b->f x<=m)/\∃ x,a<=x/\x<b/\f x=m
theorem a9W.eq{f:Int->Int}{b m n:Int}(h:a9W f a b m)(k:a9W f a b n):m=n:=by
 obtain⟨h1,x,h2,h3,h4⟩:=h;obtain⟨k1,y,k2,k3,k4⟩:=k;have:=h1 y k2 k3;have:=k1 x h2 h3;omega
theorem b2U{name:ByteArray}{es:List Ent}{a b:Int}:∀ (l:List Int)(m:Int),
  m<=l.foldl (a2r name es a b) m/\(∀ x∈l,a<x->x<b->a0o name x es<=l.foldl (a2r name es a b) m)/\(l.foldl (a2r name es a b) m=m\/∃ x∈l,a<x/\x<b/\l.foldl (a2r name es a b) m=a0o name x es)
 |[],m=>⟨Int.le_refl _,by simp,.inl rfl⟩
 |x :: l,m=>by
  obtain⟨h1,h2,h3⟩:=b2U (name:=name) (es:=es) (a:=a) (b:=b) l (a2r name es a b m x);simp only[List.foldl_cons];generalize l.foldl (a2r name es a b) (a2r name es a b m x)=R at h1 h2 h3 ⊢
  have hs:(a2r name es a b m x=m/\¬ (a<x/\x<b/\m<a0o name x es))\/(a2r name es a b m x=a0o name x es/\a<x/\x<b/\m<a0o name x es):=by
   unfold a2r
   by_cases c:a<x/\x<b/\m<a0o name x es
   ·rw[if_pos c];exact .inr ⟨rfl,c⟩
   ·rw[if_neg c];exact .inl ⟨rfl,c⟩
  rcases hs with ⟨e,c⟩|⟨e,c⟩
  ·rw[e] at h1 h3;refine⟨h1,fun y hy k1 k2=>?_,?_⟩
   ·rcases List.mem_cons.1 hy with rfl|hy
    ·omega
    ·exact h2 y hy k1 k2
   ·rcases h3 with h3|⟨y,hy,k⟩
    ·exact .inl h3
    ·exact .inr ⟨y,by simp[hy],k⟩
  ·rw[e] at h1 h3;refine⟨by omega,fun y hy k1 k2=>?_,?_⟩
   ·rcases List.mem_cons.1 hy with rfl|hy
    ·omega
    ·exact h2 y hy k1 k2
   ·rcases h3 with h3|⟨y,hy,k⟩
    ·exact .inr ⟨x,by simp,c.1,c.2.1,h3⟩
    ·exact .inr ⟨y,by simp[hy],k⟩
theorem a6H{b:Int}(hp:Pos es)(h:a<b):a9W (fun x=>a0o name x es) a b (a1Q name es a b):=by
 obtain⟨h1,h2,h3⟩:=b2U (name:=name) (es:=es) (a:=a) (b:=b) (a2L name es) (a0o name a es);unfold a1Q;generalize (a2L name es).foldl (a2r name es a b) (a0o name a es)=R at h1 h2 h3 ⊢;refine⟨fun x k1 k2=>?_,?_⟩
 ·obtain⟨y,i1,i2,i3,i4⟩:=b7K (name:=name) hp k1;show a0o name x es<=R
  by_cases e:y=a
  ·subst e;omega
  ·rcases i3 with i3|i3
   ·exact absurd i3 e
   ·have:=h2 y i3 (by omega) (by omega);omega
 ·rcases h3 with h3|⟨x,_,k1,k2,k3⟩
  ·exact⟨a,Int.le_refl _,h,h3.symm⟩
  ·exact⟨x,by omega,k2,k3.symm⟩
theorem c0S{name:ByteArray}{x:Int}:∀ {es:List Ent},Pos es->a0o name x es<a0o name (x-1) es->x∈b5k es
 |[],_,h=>by simp[a0o] at h
 |e :: r,hp,h=>by
  simp only[b5k,List.mem_append,List.mem_map]
  by_cases c:∃ s∈e.a0e,s.2=x
  ·exact .inl c
  ·right;refine c0S (name:=name) (fun z hz=>hp z (by simp[hz])) ?_
   have hm:a0r e.a0e (x-1)<=a0r e.a0e x:=by
    unfold a0r;rw[<- List.countP_eq_length_filter,<- List.countP_eq_length_filter]
    have:List.countP (hasB (x-1)) e.a0e<=List.countP (hasB x) e.a0e:=List.countP_mono_left (fun s hs hb=>by
     simp[hasB] at hb ⊢;have:s.2≠x:=fun e=>c ⟨s,hs,e⟩
     omega)
    omega
   have hu:=hp e (by simp);have hmu:a0r e.a0e (x-1)*e.a0c<=a0r e.a0e x*e.a0c:=Int.mul_le_mul_of_nonneg_right hm hu;simp only[a0o] at h
   split at h <;> omega
def c6U(r:Int):Option Int:=if r<0 then none else some r
theorem a9z{ts:List (ByteArray × Int)}{es:List Ent}{name:ByteArray}{a0c long fr tq:Int}(h0:0<=fr):∀ (l:List Int)(b:Int),-1<=b ->
  (b=-1\/(fr<=b/\b+long<=tq/\a1e ts es name a0c [(b,b+long)]=true)) ->
  let R:=l.foldl (a3O ts es name a0c long fr tq) b
  (R=-1\/(fr<=R/\R+long<=tq/\a1e ts es name a0c [(R,R+long)]=true))/\-1<=R/\(0<=b->0<=R/\R<=b)/\∀ s∈l,fr<=s->s+long<=tq->a1e ts es name a0c [(s,s+long)]=true->0<=R/\R<=s
 |[],b,hb,h=>by
  refine⟨h,hb,fun k=>⟨k,Int.le_refl _⟩,by simp⟩
 |s :: l,b,hb,h=>by
  intro R
  have hs:a3O ts es name a0c long fr tq b s=b/\((s<fr\/tq<s+long\/(0<=b/\b<=s))\/a1e ts es name a0c [(s,s+long)]=false)\/a3O ts es name a0c long fr tq b s=s/\fr<=s/\s+long<=tq/\a1e ts es name a0c [(s,s+long)]=true/\(b<0\/s<b):=by
   unfold a3O
   by_cases c:s<fr\/tq<s+long\/(0<=b/\b<=s)
   ·rw[if_pos c];exact .inl ⟨rfl,.inl c⟩
   ·rw[if_neg c]
    cases hf:a1e ts es name a0c [(s,s+long)]
    ·exact .inl ⟨by simp,.inr rfl⟩
    ·exact .inr ⟨by simp,by omega,by omega,rfl,by omega⟩
  rcases hs with ⟨e,c⟩|⟨e,c1,c2,c3,c4⟩
  ·have ih:=a9z (ts:=ts) (es:=es) (name:=name) (a0c:=a0c) (long:=long) (tq:=tq) h0 l b hb h;have eR:R=l.foldl (a3O ts es name a0c long fr tq) b:=by show List.foldl _ _ _=_;rw[List.foldl_cons,e]
   rw[<- eR] at ih;obtain⟨i1,i2,i3,i4⟩:=ih;refine⟨i1,i2,i3,fun t ht k1 k2 k3=>?_⟩;rcases List.mem_cons.1 ht with rfl|ht
   ·rcases c with c|c
    ·have:=i3 (by omega);omega
    ·rw[k3] at c;cases c
   ·exact i4 t ht k1 k2 k3
  ·have ih:=a9z (ts:=ts) (es:=es) (name:=name) (a0c:=a0c) (long:=long) (tq:=tq) h0 l s (by omega) (.inr ⟨c1,c2,c3⟩);have eR:R=l.foldl (a3O ts es name a0c long fr tq) s:=by show List.foldl _ _ _=_;rw[List.foldl_cons,e]
   rw[<- eR] at ih;obtain⟨i1,i2,i3,i4⟩:=ih;have i3':=i3 (by omega);refine⟨i1,i2,fun k=>by omega,fun t ht k1 k2 k3=>?_⟩;rcases List.mem_cons.1 ht with rfl|ht
   ·exact i3'
   ·exact i4 t ht k1 k2 k3
theorem c2T(P:Int->Prop)(fr:Int):∀ (n:Nat)(s:Int),s=fr+n->P s->∃ r,fr<=r/\r<=s/\P r/\∀ t,fr<=t->t<r->¬ P t:=by
 intro n
 induction n using Nat.strongRecOn with
 |_ n ih =>
  intro s hs hP
  by_cases c:∃ t,fr<=t/\t<s/\P t
  ·obtain⟨t,k1,k2,k3⟩:=c;obtain⟨r,i1,i2,i3,i4⟩:=ih (t-fr).toNat (by omega) t (by omega) k3;exact⟨r,i1,by omega,i3,i4⟩
  ·exact⟨s,by omega,Int.le_refl _,hP,fun t k1 k2 k3=>c ⟨t,k1,k2,k3⟩⟩
theorem c3k{a0c:Int}(hp:Pos es)(hu:0<=a0c)(h0:0<=fr)(_hl:1<=long):
  -1<=a9A ts es name a0c long fr tq/\a8j (fun x=>a0o name x es) fr tq long (a0h name ts-a0c) (c6U (a9A ts es name a0c long fr tq)):=by
 have hr:∀ s,a4X (fun x=>a0o name x es) long (a0h name ts-a0c) s↔a1e ts es name a0c [(s,s+long)]=true:=by
  intro s;rw[a6S hp hu];constructor
  ·intro h x k1 k2;have:=h x k1 k2;have this:a0o name x es<=a0h name ts-a0c:=this;omega
  ·intro h x k1 k2;have:=h x k1 k2;show a0o name x es<=a0h name ts-a0c;omega
 obtain⟨h1,h2,_,h4⟩:=a9z (ts:=ts) (es:=es) (name:=name) (a0c:=a0c) (long:=long) (tq:=tq) h0 (fr :: b5k es) (-1) (Int.le_refl _) (.inl rfl);unfold a9A;generalize (fr :: b5k es).foldl (a3O ts es name a0c long fr tq) (-1)=R at h1 h2 h4 ⊢
 have key:∀ s,fr<=s->s+long<=tq->a1e ts es name a0c [(s,s+long)]=true->0<=R/\R<=s:=by
  intro s k1 k2 k3;obtain⟨r,i1,i2,i3,i4⟩:=c2T (fun s=>a1e ts es name a0c [(s,s+long)]=true) fr (s-fr).toNat s (by omega) k3
  have:r∈fr :: b5k es:=by
   by_cases e:r=fr
   ·simp[e]
   ·have hno:=i4 (r-1) (by omega) (by omega);have hin:=(a6S hp hu).1 i3
    have:∃ x,r-1<=x/\x<r-1+long/\a0h name ts<a0o name x es+a0c:=by
     apply Classical.byContradiction;intro hc;apply hno;apply (a6S hp hu).2;intro x j1 j2
     by_cases d:a0o name x es+a0c<=a0h name ts
     ·exact d
     ·exact absurd ⟨x,j1,j2,by omega⟩ hc
    obtain⟨x,j1,j2,j3⟩:=this
    have ex:x=r-1:=by
     by_cases d:r<=x
     ·have:=hin x d (by omega);omega
     ·omega
    subst ex;have:=hin r (Int.le_refl _) (by omega);exact List.mem_cons_of_mem _ (c0S (name:=name) hp (by omega))
  have:=h4 r this i1 (by omega) i3;omega
 refine⟨h2,?_⟩;unfold c6U
 split
 ·intro s k1 k2 k3;have:=key s k1 k2 ((hr s).1 k3);omega
 ·rcases h1 with h1|⟨i1,i2,i3⟩
  ·omega
  ·refine⟨i1,i2,(hr R).2 i3,fun s k1 k2 k3=>?_⟩;have:=key s k1 (by omega) ((hr s).1 k3);omega
theorem c1G{f:Int->Int}{b:Int}{q:Option Int}(h:a8j f a b long level r)(k:a8j f a b long level q):r=q:=by
 cases r with
 |none =>
  cases q with
  |none=>rfl
  |some s=>exact absurd k.2.2.1 (h s k.1 k.2.1)
 |some s =>
  cases q with
  |none=>exact absurd h.2.2.1 (k s h.1 h.2.1)
  |some t =>
   obtain⟨h1,h2,h3,h4⟩:=h;obtain⟨k1,k2,k3,k4⟩:=k
   by_cases c:s<t
   ·exact absurd h3 (k4 s h1 c)
   ·by_cases d:t<s
    ·exact absurd k3 (h4 t k1 d)
    ·exact congrArg some (by omega)
theorem b4a{f g:Int->Int}{b:Int}(h:a8j f a b long level r)(hfg:∀ x,a<=x->x<b->f x=g x):a8j g a b long level r:=by
 have key:∀ s,a<=s->s+long<=b->(a4X f long level s↔a4X g long level s):=by
  intro s k1 k2;constructor
  ·intro h x i1 i2;rw[<- hfg x (by omega) (by omega)];exact h x i1 i2
  ·intro h x i1 i2;rw[hfg x (by omega) (by omega)];exact h x i1 i2
 cases r with
 |none=>exact fun s k1 k2 k3=>h s k1 k2 ((key s k1 k2).2 k3)
 |some s =>
  obtain⟨h1,h2,h3,h4⟩:=h;exact⟨h1,h2,(key s h1 h2).1 h3,fun t k1 k2 k3=>h4 t k1 k2 ((key t k1 (by omega)).2 k3)⟩
end Desk
end Go.Proofs.YtfigmlfdnickmaaGreatDoor
