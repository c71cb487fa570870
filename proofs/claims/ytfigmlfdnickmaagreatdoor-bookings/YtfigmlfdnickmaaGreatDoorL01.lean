import Derived.Test.YtfigmlfdnickmaaGreatDoorProg
import Derived.Test.YtfigmlfdnickmaaGreatDoorRows
import Derived.Test.YtfigmlfdnickmaaGreatDoorCards
import Derived.Test.YtfigmlfdnickmaaGreatDoorTie
import Derived.WalkKit
import Derived.WalkSpells
import Derived.WalkLawsBesides
import Derived.ProofKit
import Derived.Deep.DeepWitnessRowRef
import Derived.LaidLaws
import Derived.OpenShut
import Derived.Deep.Slices
import Derived.Deep.DeepHandedRow
import Derived.Lib.LaidTab
import Derived.Deep.QuietTactic
import Derived.BigQuiet
import Derived.Lib.IndexMore
import Derived.Lib.IndexLaws
set_option maxRecDepth 100000
set_option maxHeartbeats 8000000
variable{wr:Bool}{s:ByteArray}{a b d m y:Int}{ws:List ByteArray}{l:List UInt8}{A R n nx:Nat}{w w':Go.World}
namespace Go.Proofs.YtfigmlfdnickmaaGreatDoor.Cal
def ah(y:Int):Int:=(y-1)*365+(y-1) / 4-(y-1) / 100+(y-1) / 400
def c2U(y:Int):Bool:=y % 4==0 && (y % 100 != 0 || y % 400==0)
def lp(y:Int):Int:=if c2U y then 1 else 0
def tab(m:Int):Int:=if m=2 then 28 else if m=4\/m=6\/m=9\/m=11 then 30 else 31
def dim(y m:Int):Int:=if m=2 then 28+lp y else tab m
def cum(y m:Int):Int :=
 if m<=1 then 0 else if m=2 then 31 else lp y+(if m=3 then 59 else if m=4 then 90 else if m=5 then 120 else if m=6 then 151 else if m=7 then 181 else if m=8 then 212 else if m=9 then 243 else if m=10 then 273 else if m=11 then 304 else if m=12 then 334 else 365)
def first:Int:=-738885
def last:Int:=2913173
def num(y m d:Int):Int:=first+ah y+cum y m+d-1
def ok(y m d:Int):Bool:=decide (1<=y/\y<=9999/\1<=m/\m<=12/\1<=d/\d<=dim y m)
theorem c4Z(y:Int):0<=lp y/\lp y<=1:=by unfold lp;split <;> omega
theorem c6W(y:Int):lp y=1/\y % 4=0/\(y % 100≠0\/y % 400=0)\/lp y=0/\¬ (y % 4=0/\(y % 100≠0\/y % 400=0)):=by
 unfold lp
 cases h:c2U y
 ·right;refine⟨by simp,?_⟩;simp only[c2U,Bool.and_eq_false_iff,Bool.or_eq_false_iff,beq_eq_false_iff_ne,bne_eq_false_iff_eq] at h;omega
 ·left;refine⟨by simp,?_⟩;simp only[c2U,Bool.and_eq_true,Bool.or_eq_true,beq_iff_eq,bne_iff_ne] at h;exact h
theorem b5I(y:Int)(_h:1<=y):ah (y+1)=ah y+365+lp y:=by
 rcases c6W y with ⟨e,h1⟩|⟨e,h1⟩ <;> rw[e] <;> unfold ah <;> omega
theorem a9T(a b:Int)(_h0:1<=a)(_h:a<=b):ah a<=ah b:=by unfold ah;omega
theorem g3J:ah 1=0:=by decide
theorem b7t:ah 10000=3652059:=by decide
theorem b7s(g:Int)(_h:0<=g):ah (g*400 / 146097+1)<=g:=by unfold ah;omega
theorem c5D(y:Int)(_h1:1<=y)(_h2:y<=10000):0<=ah y/\ah y<=3652059:=by unfold ah;omega
theorem c5Q(m:Int):28<=tab m/\tab m<=31:=by unfold tab;(repeat' split) <;> omega
theorem b3I(y m:Int):28<=dim y m/\dim y m<=31:=by
 have:=c4Z y;have:=c5Q m;unfold dim;split <;> omega
theorem c3Z(m:Int)(h1:1<=m)(h2:m<=12):m=1\/m=2\/m=3\/m=4\/m=5\/m=6\/m=7\/m=8\/m=9\/m=10\/m=11\/m=12:=by omega
theorem a9K(y:Int):cum y 1=0:=by simp[cum]
theorem a5M(y m:Int)(h1:1<=m)(h2:m<=12):cum y (m+1)=cum y m+dim y m:=by
 rcases c3Z m h1 h2 with h|h|h|h|h|h|h|h|h|h|h|h <;> subst h <;> simp[cum,dim,tab] <;> omega
theorem b5q(y:Int):cum y 13=365+lp y:=by simp[cum];omega
theorem c1p(y a:Int)(k:Nat)(h1:1<=a)(h2:a+k<=13):cum y a<=cum y (a+k):=by
 induction k with
 |zero=>simp
 |succ k ih =>
  have c:=a5M y (a+k) (by omega) (by omega);have d:=b3I y (a+k);have i:=ih (by omega);rw[show a+((k+1:Nat):Int)=a+k+1 from by omega,c];omega
theorem b7m(y m:Int)(h1:1<=m)(h2:m<=13):0<=cum y m/\cum y m<=365+lp y:=by
 have a:=c1p y 1 (m-1).toNat (by omega) (by omega);have b:=c1p y m (13-m).toNat h1 (by omega);rw[show (1:Int)+((m-1).toNat:Int)=m from by omega,a9K] at a;rw[show m+((13-m).toNat:Int)=13 from by omega,b5q] at b;exact⟨a,b⟩
theorem b2i(y a b:Int)(h1:1<=a)(h:a<b)(h2:b<=13):cum y a+dim y a<=cum y b:=by
 rw[<- a5M y a h1 (by omega)];have c:=c1p y (a+1) (b-(a+1)).toNat (by omega) (by omega)
 rwa [show (a+1)+((b-(a+1)).toNat:Int)=b from by omega] at c
theorem a2K(y m d:Int):ok y m d=true↔1<=y/\y<=9999/\1<=m/\m<=12/\1<=d/\d<=dim y m:=by simp[ok]
theorem a9p(y m d:Int)(h:ok y m d=true):ah y<=num y m d-first/\num y m d-first<ah (y+1):=by
 obtain⟨h1,h2,h3,h4,h5,h6⟩:=(a2K y m d).1 h;have a:=b5I y h1;have b:=b7m y m h3 (by omega);have c:=a5M y m h3 h4;have e:=b7m y (m+1) (by omega) (by omega);unfold num;omega
theorem c1Q(a b n:Int)(ha:1<=a)(hb:1<=b)(h1:ah a<=n)(h2:n<ah (a+1))(h3:ah b<=n)(h4:n<ah (b+1)):a=b:=by
 by_cases h:a<b
 ·have:=a9T (a+1) b (by omega) (by omega);omega
 ·by_cases h':b<a
  ·have:=a9T (b+1) a (by omega) (by omega);omega
  ·omega
theorem c0n(y a b n:Int)(ha:1<=a)(ha':a<=12)(hb:1<=b)(hb':b<=12)(h1:cum y a<=n)(h2:n<cum y a+dim y a)(h3:cum y b<=n)(h4:n<cum y b+dim y b):a=b:=by
 by_cases h:a<b
 ·have:=b2i y a b ha h (by omega);omega
 ·by_cases h':b<a
  ·have:=b2i y b a hb h' (by omega);omega
  ·omega
theorem one(y m d y' m' d':Int)(h:ok y m d=true)(h':ok y' m' d'=true)(e:num y m d=num y' m' d'):y=y'/\m=m'/\d=d':=by
 have i:=a9p y m d h;have i':=a9p y' m' d' h';obtain⟨h1,h2,h3,h4,h5,h6⟩:=(a2K y m d).1 h;obtain⟨g1,g2,g3,g4,g5,g6⟩:=(a2K y' m' d').1 h';have hy:y=y':=c1Q y y' (num y m d-first) h1 g1 i.1 i.2 (by rw[e];exact i'.1) (by rw[e];exact i'.2);subst hy;unfold num at e;have hm:m=m':=c0n y m m' (cum y m+d-1) h3 h4 g3 g4 (by omega) (by omega) (by omega) (by omega);subst hm;exact⟨rfl,rfl,by omega⟩
theorem c3X(y m d:Int)(h:ok y m d=true):first<=num y m d/\num y m d<=last:=by
 obtain⟨h1,h2,h3,h4,h5,h6⟩:=(a2K y m d).1 h;have i:=a9p y m d h;have a:=a9T (y+1) 10000 (by omega) (by omega);have b:=c5D y h1 (by omega);have c:=b7t;unfold first at i;unfold first last;omega
end Go.Proofs.YtfigmlfdnickmaaGreatDoor.Cal
namespace Go.Proofs.YtfigmlfdnickmaaGreatDoor
open Go.RowKit
theorem zq(n:Nat):n<=n:=Nat.le_refl n
theorem zS(w:World)(a b:Addr)(v:Value)(h:a≠b):(w.setCell a v).cell? b=w.cell? b:=w.cell?_setCell_other a b v h
theorem zr(b:Nat)(w:World):Below b w w:=Below.refl b w
theorem zL{m k:Nat}(h:n<m)(g:m<=k):n<k:=Nat.lt_of_lt_of_le h g
theorem zm(w:World)(a:Addr)(v:Value){u:Value}(h:w.cell? a=some u):(w.setCell a v).cell? a=some v:=w.cell?_setCell_same a v h
theorem zF(w:World)(a b:Addr)(v:Value):(w.setCell a v).frozen? b=w.frozen? b:=w.frozen?_setCell a b v
theorem zo{a:Addr}(h:w'.heap[a.block]?=w.heap[a.block]?):w'.cell? a=w.cell? a:=World.cell?_of_block h
theorem zN(n:Nat):0<=n:=n.zero_le
theorem zg{α:Type _}{l:List α}(h:n<l.length):l[n]∈l:=List.getElem_mem h
theorem zA{a b:Prop}(h:a)(k:b):a/\b:=⟨h,k⟩
theorem a2a{a b:Bool}(h:a=b):Ending.returned (.bool a)=.returned (.bool b):=by rw[h]
theorem a3w{k:IntKind}(h:a=b):Ending.returned (.int k a)=.returned (.int k b):=by rw[h]
def Tab(w:World):Prop:=w.cell? ⟨1,0,none⟩=some (.int .i64 31)/\w.cell? ⟨1,1,none⟩=some (.int .i64 28)/\w.cell? ⟨1,2,none⟩=some (.int .i64 31)/\w.cell? ⟨1,3,none⟩=some (.int .i64 30)/\w.cell? ⟨1,4,none⟩=some (.int .i64 31)/\w.cell? ⟨1,5,none⟩=some (.int .i64 30)/\w.cell? ⟨1,6,none⟩=some (.int .i64 31)/\w.cell? ⟨1,7,none⟩=some (.int .i64 31)/\w.cell? ⟨1,8,none⟩=some (.int .i64 30)/\w.cell? ⟨1,9,none⟩=some (.int .i64 31)/\w.cell? ⟨1,10,none⟩=some (.int .i64 30)/\w.cell? ⟨1,11,none⟩=some (.int .i64 31)
theorem b8s(y:Int)(w:World)(h1:0<=y)(h2:y<=10000):
  Calls Tryz.prog 228 #[.int .i64 y] w fun e w'=>e=.returned (.bool (Cal.c2U y))/\w'=w:=by
 cases a4:(y % 4==0)
 ·go_enter Tryz.func228,Tryz.ntmps228
  go_wp2;go_ret;exact⟨a2a (by simp[Cal.c2U,a4]),rfl⟩
 ·cases a100:(y % 100 != 0)
  ·cases a400:(y % 400==0)
   all_goals
    go_enter Tryz.func228,Tryz.ntmps228
    go_wp2;go_ret;exact⟨a2a (by simp only[Cal.c2U,a4,a100,a400];rfl),rfl⟩
  ·go_enter Tryz.func228,Tryz.ntmps228
   go_wp2;go_ret;exact⟨a2a (by simp only[Cal.c2U,a4,a100];rfl),rfl⟩
theorem a3h(y:Int)(w:World)(h1:1<=y)(h2:y<=10000):
  Calls Tryz.prog 168 #[.int .i64 y] w fun e w'=>e=.returned (.int .i64 (Cal.ah y))/\w'=w:=by
 go_enter Tryz.func168,Tryz.ntmps168
 go_wp2;go_ret;exact⟨a3w (by unfold Cal.ah;omega),rfl⟩
theorem a5L(y m:Int)(w:World)(ht:Tab w)(h1:0<=y)(h2:y<=10000)(h3:1<=m)(h4:m<=12):
  Calls Tryz.prog 169 #[.int .i64 y,.int .i64 m] w fun e w'=>e=.returned (.int .i64 (Cal.dim y m))/\w'=w:=by
 obtain⟨c0,c1,c2,c3,c4,c5,c6,c7,c8,c9,c10,c11⟩:=ht;rcases Cal.c3Z m h3 h4 with h|h|h|h|h|h|h|h|h|h|h|h
 ·subst h
  go_enter Tryz.func169,Tryz.ntmps169
  go_wp2;go_ret;exact⟨a3w (by simp[Cal.dim,Cal.tab]),rfl⟩
 ·subst h
  cases hl:Cal.c2U y
  all_goals
   go_enter Tryz.func169,Tryz.ntmps169
   go_wp2_with (go_at_call 228;refine (b8s _ _ (by omega) (by omega)).mono ?_;rintro e w' ⟨rfl,rfl⟩)
   go_ret;exact⟨a3w (by simp[Cal.dim,Cal.lp,hl]),rfl⟩
 all_goals
  subst h
  go_enter Tryz.func169,Tryz.ntmps169
  go_wp2;go_ret;exact⟨a3w (by simp[Cal.dim,Cal.tab]),rfl⟩
theorem a5A(h:¬ (1<=y/\y<=9999/\1<=m/\m<=12/\1<=d/\d<=Cal.dim y m)):Cal.ok y m d=false:=by
 unfold Cal.ok;exact decide_eq_false h
theorem b9Y(h:1<=y/\y<=9999/\1<=m/\m<=12/\1<=d/\d<=Cal.dim y m):Cal.ok y m d=true:=by
 unfold Cal.ok;exact decide_eq_true h
theorem b0T(y m d:Int)(w:World)(ht:Tab w):
  Calls Tryz.prog 167 #[.int .i64 y,.int .i64 m,.int .i64 d] w fun e w'=>e=.returned (.bool (Cal.ok y m d))/\w'=w:=by
 by_cases a:1<=y
 ·by_cases b:y<=9999
  ·by_cases c:1<=m
   ·by_cases f:m<=12
    ·by_cases g:1<=d
     ·by_cases k:d<=Cal.dim y m
      all_goals
       go_enter Tryz.func167,Tryz.ntmps167
       go_wp2_with (go_at_call 169;refine (a5L _ _ _ ht (by omega) (by omega) (by omega) (by omega)).mono ?_;rintro e w' ⟨rfl,rfl⟩)
       go_ret
      ·exact⟨a2a (by rw[b9Y ⟨a,b,c,f,g,k⟩]),rfl⟩
      ·exact⟨a2a (by rw[a5A (by omega)];exact decide_eq_false (by omega)),rfl⟩
     ·go_enter Tryz.func167,Tryz.ntmps167
      go_wp2;go_ret;exact⟨a2a (by rw[a5A (by omega)]),rfl⟩
    ·go_enter Tryz.func167,Tryz.ntmps167
     go_wp2;go_ret;exact⟨a2a (by rw[a5A (by omega)]),rfl⟩
   ·go_enter Tryz.func167,Tryz.ntmps167
    go_wp2;go_ret;exact⟨a2a (by rw[a5A (by omega)]),rfl⟩
  ·go_enter Tryz.func167,Tryz.ntmps167
   go_wp2;go_ret;exact⟨a2a (by rw[a5A (by omega)]),rfl⟩
 ·go_enter Tryz.func167,Tryz.ntmps167
  go_wp2;go_ret;exact⟨a2a (by rw[a5A (by omega)]),rfl⟩
theorem a9O(y m d:Int)(w:World)(ht:Tab w)(h:Cal.ok y m d=false):
  Calls Tryz.prog 112 #[.int .i64 y,.int .i64 m,.int .i64 d] w fun e w'=>e=.returned (.tuple #[.int .i64 0,.int .i64 6])/\w'=w:=by
 go_enter Tryz.func112,Tryz.ntmps112
 go_wp2_with (go_at_call 167;refine (b0T _ _ _ _ ht).mono ?_;rintro e w' ⟨rfl,rfl⟩)
 go_ret2;exact⟨rfl,rfl⟩
theorem c2w{k l:IntKind}{c:Int}(h:a=b):Ending.returned (.tuple #[.int k a,.int l c])=.returned (.tuple #[.int k b,.int l c]):=by rw[h]
theorem a7P(y m d:Int)(w:World)(ht:Tab w)(h:Cal.ok y m d=true):
  Calls Tryz.prog 112 #[.int .i64 y,.int .i64 m,.int .i64 d] w fun e w'=>e=.returned (.tuple #[.int .i64 (Cal.num y m d),.int .i64 0])/\w'=w:=by
 obtain⟨h1,h2,h3,h4,h5,h6⟩:=(Cal.a2K y m d).1 h;have hb:=Cal.c5D y h1 (by omega);have hdb:=Cal.b3I y m;have hl:=Cal.c4Z y
 go_enter Tryz.func112,Tryz.ntmps112
 go_wp2_with (first|(go_at_call 167;refine (b0T _ _ _ _ ht).mono ?_;rintro e w' ⟨rfl,rfl⟩)|(go_at_call 168;refine (a3h _ _ (by omega) (by omega)).mono ?_;rintro e w' ⟨rfl,rfl⟩))
 go_loop [8,9] (fun n k=>∃ j:Int,1<=j/\j<=m/\k=.int .i64 j/\n=.int .i64 (-738885+Cal.ah y+d-1+Cal.cum y j)) (fun _ k=>(m-intOf k).toNat)
 case atStart=>exact⟨1,by omega,by omega,rfl,by rw[Cal.a9K,Int.add_zero]⟩
 case round =>
  obtain⟨j,hj1,hj2,rfl,rfl⟩:=hrel;have cb:=Cal.b7m y j hj1 (by omega);have db:=Cal.b3I y j;have cs:=Cal.a5M y j hj1 (by omega);have HC:Hid (Cal.cum y (j+1)=Cal.cum y j+Cal.dim y j):=cs;clear cs
  by_cases hc:j<m
  ·go_wp2_with (go_at_call 169;refine (a5L _ _ _ ht (by omega) (by omega) (by omega) (by omega)).mono ?_;rintro e w' ⟨rfl,rfl⟩)
   go_round
   case rel=>exact⟨j+1,by omega,by omega,rfl,by rw[HC.out];go_num⟩
   case measure=>simp[intOf];omega
  ·obtain rfl:j=m:=by omega
   go_wp2;go_ret2;exact⟨c2w (by unfold Cal.num Cal.first;omega),rfl⟩
theorem b2R{fn:Func}{t u v x:Tmp}(h:fn.results=#[.tmp t,.tmp u,.tmp v,.tmp x])(tmps:Array Value)(P:Program)(w:World):
  (results fn tmps).run P w=.ok (.tuple #[tmps.getD t undef,tmps.getD u undef,tmps.getD v undef,tmps.getD x undef]) w:=by
 simp[results,h]
theorem d8n(y:Int)(w:World)(h1:0<=y)(h2:y<=10000):
  Calls Tryz.prog 170 #[.int .i64 y] w fun e w'=>e=.returned (.bool (Cal.c2U y))/\w'=w:=by
 cases a100:(y % 100==0)
 ·go_enter Tryz.func170,Tryz.ntmps170
  go_wp2;go_ret;exact⟨a2a (by simp only[Cal.c2U,bne,a100];simp),rfl⟩
 ·have a4:(y % 4==0)=true:=by simp only[beq_iff_eq] at a100 ⊢;omega
  have HA:Hid ((y % 4==0)=true):=a4;clear a4
  go_enter Tryz.func170,Tryz.ntmps170
  go_wp2;go_ret;exact⟨a2a (by simp only[Cal.c2U,bne,a100,HA.out];simp),rfl⟩
theorem c9C(y:Int)(w:World)(h1:0<=y)(h2:y<=10000):
  Calls Tryz.prog 115 #[.int .i64 y] w fun e w'=>e=.returned (.int .i64 (365+Cal.lp y))/\w'=w:=by
 cases hl:Cal.c2U y
 all_goals
  go_enter Tryz.func115,Tryz.ntmps115
  go_wp2_with (go_at_call 170;refine (d8n _ _ (by omega) (by omega)).mono ?_;rintro e w' ⟨rfl,rfl⟩)
  go_ret;exact⟨a3w (by simp[Cal.lp,hl]),rfl⟩
theorem c9Q(y m:Int)(w:World)(h1:0<=y)(h2:y<=10000)(h3:1<=m)(h4:m<=12):
  Calls Tryz.prog 114 #[.int .i64 y,.int .i64 m] w fun e w'=>e=.returned (.int .i64 (Cal.dim y m))/\w'=w:=by
 rcases Cal.c3Z m h3 h4 with h|h|h|h|h|h|h|h|h|h|h|h
 ·subst h
  go_enter Tryz.func114,Tryz.ntmps114
  go_wp2;go_ret;exact⟨a3w (by simp[Cal.dim,Cal.tab]),rfl⟩
 ·subst h
  cases hl:Cal.c2U y
  all_goals
   go_enter Tryz.func114,Tryz.ntmps114
   go_wp2_with (go_at_call 170;refine (d8n _ _ (by omega) (by omega)).mono ?_;rintro e w' ⟨rfl,rfl⟩)
   go_ret;exact⟨a3w (by simp[Cal.dim,Cal.lp,hl]),rfl⟩
 all_goals
  subst h
  go_enter Tryz.func114,Tryz.ntmps114
  go_wp2;go_ret;exact⟨a3w (by simp[Cal.dim,Cal.tab]),rfl⟩
theorem e0r(y m d:Int)(w:World):
  Calls Tryz.prog 113 #[.int .i64 y,.int .i64 m,.int .i64 d] w fun e w'=>e=.returned (.bool (Cal.ok y m d))/\w'=w:=by
 by_cases a:1<=y
 ·by_cases b:y<=9999
  ·by_cases c:1<=m
   ·by_cases f:m<=12
    ·by_cases g:1<=d
     ·by_cases k:d<=Cal.dim y m
      all_goals
       go_enter Tryz.func113,Tryz.ntmps113
       go_wp2_with (go_at_call 114;refine (c9Q _ _ _ (by omega) (by omega) (by omega) (by omega)).mono ?_;rintro e w' ⟨rfl,rfl⟩)
       go_ret
      ·exact⟨a2a (by rw[b9Y ⟨a,b,c,f,g,k⟩]),rfl⟩
      ·exact⟨a2a (by rw[a5A (by omega)];exact decide_eq_false (by omega)),rfl⟩
     ·go_enter Tryz.func113,Tryz.ntmps113
      go_wp2;go_ret;exact⟨a2a (by rw[a5A (by omega)]),rfl⟩
    ·go_enter Tryz.func113,Tryz.ntmps113
     go_wp2;go_ret;exact⟨a2a (by rw[a5A (by omega)]),rfl⟩
   ·go_enter Tryz.func113,Tryz.ntmps113
    go_wp2;go_ret;exact⟨a2a (by rw[a5A (by omega)]),rfl⟩
  ·go_enter Tryz.func113,Tryz.ntmps113
   go_wp2;go_ret;exact⟨a2a (by rw[a5A (by omega)]),rfl⟩
 ·go_enter Tryz.func113,Tryz.ntmps113
  go_wp2;go_ret;exact⟨a2a (by rw[a5A (by omega)]),rfl⟩
theorem f3X(y m d:Int)(w:World)(h:Cal.ok y m d=false):
  Calls Tryz.prog 71 #[.int .i64 y,.int .i64 m,.int .i64 d] w fun e w'=>e=.returned (.tuple #[.int .i64 0,.int .i64 6])/\w'=w:=by
 go_enter Tryz.func71,Tryz.ntmps71
 go_wp2_with (go_at_call 113;refine (e0r _ _ _ _).mono ?_;rintro e w' ⟨rfl,rfl⟩)
 go_ret2;exact⟨rfl,rfl⟩
theorem d9w:Cal.ah 2024=738885:=by decide
theorem f1m(y m d:Int)(w:World)(h:Cal.ok y m d=true):
  Calls Tryz.prog 71 #[.int .i64 y,.int .i64 m,.int .i64 d] w fun e w'=>e=.returned (.tuple #[.int .i64 (Cal.num y m d),.int .i64 0])/\w'=w:=by
 obtain⟨h1,h2,h3,h4,h5,h6⟩:=(Cal.a2K y m d).1 h;have hb:=Cal.c5D y h1 (by omega);have hdb:=Cal.b3I y m;have hl:=Cal.c4Z y;have cbm:=Cal.b7m y m h3 (by omega)
 go_enter Tryz.func71,Tryz.ntmps71
 go_wp2_with (go_at_call 113;refine (e0r _ _ _ _).mono ?_;rintro e w' ⟨rfl,rfl⟩)
 go_loop [9,10,11] (fun n k _=>∃ j:Int,1<=j/\j<=m/\k=.int .i64 j/\n=.int .i64 (d-1+Cal.cum y j)) (fun _ k _=>(m-intOf k).toNat)
 case atStart=>exact⟨1,by omega,by omega,rfl,by rw[Cal.a9K,Int.add_zero]⟩
 case round =>
  obtain⟨j,hj1,hj2,rfl,rfl⟩:=hrel;have cb:=Cal.b7m y j hj1 (by omega);have db:=Cal.b3I y j;have cs:=Cal.a5M y j hj1 (by omega);have HC:Hid (Cal.cum y (j+1)=Cal.cum y j+Cal.dim y j):=cs;clear cs
  by_cases hc:j<m
  ·go_wp2_with (go_at_call 114;refine (c9Q _ _ _ (by omega) (by omega) (by omega) (by omega)).mono ?_;rintro e w' ⟨rfl,rfl⟩)
   go_round
   case rel=>exact⟨j+1,by omega,by omega,rfl,by rw[HC.out];go_num⟩
   case measure=>simp[intOf];omega
  ·obtain rfl:j=m:=by omega
   go_wp2
   go_loop [9,12,13] (fun n k _=>∃ j':Int,2024<=j'/\(j'<=y\/j'=2024)/\k=.int .i64 j'/\n=.int .i64 (d-1+Cal.cum y j+(Cal.ah j' - 738885))) (fun _ k _=>(y-intOf k).toNat)
   case atStart=>exact⟨2024,by omega,by omega,rfl,by rw[d9w];go_num⟩
   case round =>
    obtain⟨k,hk1,hk2,rfl,rfl⟩:=hrel;have kb:=Cal.c5D k (by omega) (by omega);have kl:=Cal.c4Z k;have ks:=Cal.b5I k (by omega);have HK:Hid (Cal.ah (k+1)=Cal.ah k+365+Cal.lp k):=ks;clear ks
    by_cases hk:k<y
    ·go_wp2_with (go_at_call 115;refine (c9C _ _ (by omega) (by omega)).mono ?_;rintro e w' ⟨rfl,rfl⟩)
     go_round
     case rel=>exact⟨k+1,by omega,by omega,rfl,by rw[HK.out];go_num⟩
     case measure=>simp[intOf];omega
    ·have km:Cal.ah y<=Cal.ah k:=Cal.a9T y k h1 (by omega);have hk3:(y=k)\/(y<2024/\k=2024):=by omega
     have HK3:Hid ((y=k)\/(y<2024/\k=2024)):=hk3;clear hk3;go_wp2
     go_loop [9,14,15] (fun n k' _=>∃ i:Int,y<=i/\(i<=2024\/i=y)/\k'=.int .i64 i/\n=.int .i64 (d-1+Cal.cum y j+(Cal.ah k-738885)-(Cal.ah i-Cal.ah y))) (fun _ k' _=>(2024-intOf k').toNat)
     case atStart=>exact⟨y,by omega,by omega,rfl,by go_num⟩
     case round =>
      obtain⟨i,hi1,hi2,rfl,rfl⟩:=hrel;have ib:=Cal.c5D i (by omega) (by omega);have il:=Cal.c4Z i;have is:=Cal.b5I i (by omega);have HI:Hid (Cal.ah (i+1)=Cal.ah i+365+Cal.lp i):=is;clear is
      by_cases hi:i<2024
      ·go_wp2_with (go_at_call 115;refine (c9C _ _ (by omega) (by omega)).mono ?_;rintro e w' ⟨rfl,rfl⟩)
       go_round
       case rel=>exact⟨i+1,by omega,by omega,rfl,by rw[HI.out];go_num⟩
       case measure=>simp[intOf];omega
      ·go_wp2;go_ret2;refine⟨c2w ?_,rfl⟩;have a24:=d9w;rcases HK3.out with e|⟨e1,e2⟩
       ·subst e
        by_cases hy:i=y
        ·subst hy;unfold Cal.num Cal.first;omega
        ·obtain rfl:i=2024:=by omega
         exact absurd hi1 (by omega)
       ·subst e2;obtain rfl:i=2024:=by omega
        unfold Cal.num Cal.first;omega
theorem early(n z:Int)(h:0<=n+(738885-Cal.ah z)\/z=1)(g:n+(738885-Cal.ah z)<0):n < -738885\/2913173<n:=by
 rcases h with h|h
 ·omega
 ·subst h;have:=Cal.g3J;omega
theorem late(n z:Int)(h:z=9999)(e:Cal.ah (z+1)=Cal.ah z+365+Cal.lp z)(g:365+Cal.lp z<=n+(738885-Cal.ah z)):n < -738885\/2913173<n:=by
 subst h;have:=Cal.b7t;rw[show (9999:Int)+1=10000 from rfl] at e;omega
theorem e6M(n y k:Int):Cal.num y k (n+(738885-Cal.ah y)-Cal.cum y k+1)=n:=by unfold Cal.num Cal.first;omega
theorem inside(n z m:Int)(h:Cal.ok z m (n+(738885-Cal.ah z)-Cal.cum z m+1)=true):¬ (n < -738885\/2913173<n):=by
 have b:=Cal.c3X _ _ _ h;rw[e6M] at b;unfold Cal.first Cal.last at b;omega
theorem e6D(n:Int)(w:World)(h1:-9223372036854775808<=n)(h2:n<=9223372036854775807):
  Calls Tryz.prog 73 #[.int .i64 n] w fun e w'=>((n < -738885\/2913173<n)/\e=.returned (.tuple #[.int .i64 0,.int .i64 0,.int .i64 0,.int .i64 6])\/(¬ (n < -738885\/2913173<n))/\∃ y m d:Int,e=.returned (.tuple #[.int .i64 y,.int .i64 m,.int .i64 d,.int .i64 0])/\Cal.ok y m d=true/\Cal.num y m d=n)/\w'=w:=by
 go_enter Tryz.func73,Tryz.ntmps73
 go_wp2
 go_loop [0,6,7] (fun t k _=>∃ y:Int,1<=y/\y<=2024/\k=.int .i64 y/\t=.int .i64 (n+(738885-Cal.ah y))/\n+(738885-Cal.ah y)<=9223372036854775807) (fun _ k _=>(intOf k).toNat)
 case atStart=>exact⟨2024,by omega,by omega,rfl,by rw[d9w];go_num,by rw[d9w];omega⟩
 case round =>
  obtain⟨y,hy1,hy2,rfl,rfl,hyt⟩:=hrel;have yb:=Cal.c5D y hy1 (by omega);have ym:=Cal.a9T y 2024 hy1 hy2;rw[d9w] at ym
  by_cases hn:n+(738885-Cal.ah y)<0/\1<y
  ·obtain⟨hn,hy⟩:=hn;have ys:=Cal.b5I (y-1) (by omega);rw[show y-1+1=y from by omega] at ys;have yl:=Cal.c4Z (y-1);have HY:Hid (Cal.ah y=Cal.ah (y-1)+365+Cal.lp (y-1)):=ys;clear ys
   go_wp2_with (go_at_call 115;refine (c9C _ _ (by omega) (by omega)).mono ?_;rintro e w' ⟨rfl,rfl⟩)
   go_round
   case rel=>exact⟨y-1,by omega,by omega,rfl,by have:=HY.out;go_num,by have:=HY.out;omega⟩
   case measure=>simp[intOf];omega
  ·have hz:0<=n+(738885-Cal.ah y)\/y=1:=by omega
   have HZ:Hid (0<=n+(738885-Cal.ah y)\/y=1):=hz;clear hz;have hn0:(n+(738885-Cal.ah y)<0/\¬ 1<y)\/¬ n+(738885-Cal.ah y)<0:=by omega
   clear hn;rcases hn0 with ⟨hn0,hy⟩|hn0
   all_goals
    go_wp2
    go_loop [0,6,8] (fun t k _=>∃ z:Int,1<=z/\z<=9999/\k=.int .i64 z/\t=.int .i64 (n+(738885-Cal.ah z))/\n+(738885-Cal.ah z)<=9223372036854775807/\(0<=n+(738885-Cal.ah z)\/z=1)) (fun _ k _=>(9999-intOf k).toNat)
    case atStart=>exact⟨y,by omega,by omega,rfl,rfl,hyt,HZ.out⟩
    case round =>
     obtain⟨z,hz1,hz2,rfl,rfl,hzt,hz3⟩:=hrel;have HZ3:Hid (0<=n+(738885-Cal.ah z)\/z=1):=hz3;clear hz3 yb ym hn0;have zb:=Cal.c5D z hz1 (by omega);have zl:=Cal.c4Z z;have zs:=Cal.b5I z hz1;have HS:Hid (Cal.ah (z+1)=Cal.ah z+365+Cal.lp z):=zs;clear zs
     by_cases hz9:z<9999
     ·by_cases hge:365+Cal.lp z<=n+(738885-Cal.ah z)
      ·go_wp2_with (go_at_call 115;refine (c9C _ _ (by omega) (by omega)).mono ?_;rintro e w' ⟨rfl,rfl⟩)
       go_round
       case rel=>exact⟨z+1,by omega,by omega,rfl,by have:=HS.out;go_num,by have:=HS.out;omega,by have:=HS.out;omega⟩
       case measure=>simp[intOf];omega
      ·by_cases hneg:n+(738885-Cal.ah z)<0
       ·go_wp2_with (go_at_call 115;refine (c9C _ _ (by omega) (by omega)).mono ?_;rintro e w' ⟨rfl,rfl⟩)
        (try simp only[Exit.inBlock,Exit.then]);refine bodyPost_ret (b2R rfl _ _ _) rfl ?_
        exact⟨Or.inl ⟨early n z HZ3.out hneg,rfl⟩,rfl⟩
       ·go_wp2_with (go_at_call 115;refine (c9C _ _ (by omega) (by omega)).mono ?_;rintro e w' ⟨rfl,rfl⟩)
        go_loop [0,9,10] (fun r k _=>∃ m:Int,1<=m/\m<=12/\k=.int .i64 m/\0<=n+(738885-Cal.ah z)-Cal.cum z m/\r=.int .i64 (n+(738885-Cal.ah z)-Cal.cum z m)) (fun _ k _=>(12-intOf k).toNat)
        case atStart=>exact⟨1,by omega,by omega,rfl,by rw[Cal.a9K];omega,by rw[Cal.a9K,Int.sub_zero]⟩
        case round =>
         obtain⟨m,hm1,hm2,rfl,hr,rfl⟩:=hrel;have cb:=Cal.b7m z m hm1 (by omega);have db:=Cal.b3I z m;have cs:=Cal.a5M z m hm1 hm2;have ce:=Cal.b5q z
         by_cases hd:Cal.dim z m<=n+(738885-Cal.ah z)-Cal.cum z m
         ·have hm:m<12:=by
           by_cases e:m=12
           ·subst e;rw[show (12:Int)+1=13 from rfl] at cs;omega
           ·omega
          have HC:Hid (Cal.cum z (m+1)=Cal.cum z m+Cal.dim z m):=cs;clear cs ce
          go_wp2_with (go_at_call 114;refine (c9Q _ _ _ (by omega) (by omega) (by omega) (by omega)).mono ?_;rintro e w' ⟨rfl,rfl⟩)
          go_round
          case rel=>exact⟨m+1,by omega,by omega,rfl,by rw[HC.out];omega,by rw[HC.out];go_num⟩
          case measure=>simp[intOf];omega
         ·have hok:Cal.ok z m (n+(738885-Cal.ah z)-Cal.cum z m+1)=true:=b9Y (by omega);have hin:¬ (n < -738885\/2913173<n):=inside n z m hok;have HIN:Hid (¬ (n < -738885\/2913173<n)):=hin;clear cs ce hin
          go_wp2_with (go_at_call 114;refine (c9Q _ _ _ (by omega) (by omega) (by omega) (by omega)).mono ?_;rintro e w' ⟨rfl,rfl⟩)
          (try simp only[Exit.inBlock,Exit.then]);refine bodyPost_ret (b2R rfl _ _ _) rfl ?_
          exact⟨Or.inr ⟨HIN.out,z,m,_,rfl,hok,e6M n z m⟩,rfl⟩
     ·by_cases hneg:n+(738885-Cal.ah z)<0
      ·go_wp2
       (try simp only[Exit.inBlock,Exit.then]);refine bodyPost_ret (b2R rfl _ _ _) rfl ?_
       exact⟨Or.inl ⟨early n z HZ3.out hneg,rfl⟩,rfl⟩
      ·by_cases hge:365+Cal.lp z<=n+(738885-Cal.ah z)
       ·go_wp2_with (go_at_call 115;refine (c9C _ _ (by omega) (by omega)).mono ?_;rintro e w' ⟨rfl,rfl⟩)
        (try simp only[Exit.inBlock,Exit.then]);refine bodyPost_ret (b2R rfl _ _ _) rfl ?_
        exact⟨Or.inl ⟨late n z (by omega) HS.out hge,rfl⟩,rfl⟩
       ·go_wp2_with (go_at_call 115;refine (c9C _ _ (by omega) (by omega)).mono ?_;rintro e w' ⟨rfl,rfl⟩)
        go_loop [0,9,10] (fun r k _=>∃ m:Int,1<=m/\m<=12/\k=.int .i64 m/\0<=n+(738885-Cal.ah z)-Cal.cum z m/\r=.int .i64 (n+(738885-Cal.ah z)-Cal.cum z m)) (fun _ k _=>(12-intOf k).toNat)
        case atStart=>exact⟨1,by omega,by omega,rfl,by rw[Cal.a9K];omega,by rw[Cal.a9K,Int.sub_zero]⟩
        case round =>
         obtain⟨m,hm1,hm2,rfl,hr,rfl⟩:=hrel;have cb:=Cal.b7m z m hm1 (by omega);have db:=Cal.b3I z m;have cs:=Cal.a5M z m hm1 hm2;have ce:=Cal.b5q z
         by_cases hd:Cal.dim z m<=n+(738885-Cal.ah z)-Cal.cum z m
         ·have hm:m<12:=by
           by_cases e:m=12
           ·subst e;rw[show (12:Int)+1=13 from rfl] at cs;omega
           ·omega
          have HC:Hid (Cal.cum z (m+1)=Cal.cum z m+Cal.dim z m):=cs;clear cs ce
          go_wp2_with (go_at_call 114;refine (c9Q _ _ _ (by omega) (by omega) (by omega) (by omega)).mono ?_;rintro e w' ⟨rfl,rfl⟩)
          go_round
          case rel=>exact⟨m+1,by omega,by omega,rfl,by rw[HC.out];omega,by rw[HC.out];go_num⟩
          case measure=>simp[intOf];omega
         ·have hok:Cal.ok z m (n+(738885-Cal.ah z)-Cal.cum z m+1)=true:=b9Y (by omega);have hin:¬ (n < -738885\/2913173<n):=inside n z m hok;have HIN:Hid (¬ (n < -738885\/2913173<n)):=hin;clear cs ce hin
          go_wp2_with (go_at_call 114;refine (c9Q _ _ _ (by omega) (by omega) (by omega) (by omega)).mono ?_;rintro e w' ⟨rfl,rfl⟩)
          (try simp only[Exit.inBlock,Exit.then]);refine bodyPost_ret (b2R rfl _ _ _) rfl ?_
          exact⟨Or.inr ⟨HIN.out,z,m,_,rfl,hok,e6M n z m⟩,rfl⟩
theorem hide{p:Prop}(h:p):Hid p:=h
theorem a0d{p:Prop}(h:Hid p):p:=h
theorem Tab.later{wx:World}(h:Tab w)(hb:Below w.heap.size w wx):Tab wx:=by
 obtain⟨c0,c1,c2,c3,c4,c5,c6,c7,c8,c9,c10,c11⟩:=h;exact⟨cell_later hb c0,cell_later hb c1,cell_later hb c2,cell_later hb c3,cell_later hb c4,cell_later hb c5,cell_later hb c6,cell_later hb c7,cell_later hb c8,cell_later hb c9,cell_later hb c10,cell_later hb c11⟩
end Go.Proofs.YtfigmlfdnickmaaGreatDoor
namespace Go.Proofs.YtfigmlfdnickmaaGreatDoor.Laid
def val:DataW Unit->Value
 |.lit (.int k n)=>.int k n
 |.lit (.string b)=>.string ⟨b.toArray⟩
 |_=>.bool false
def row:DataW Unit->List Value
 |.agg l=>l.map val
 |_=>[]
def rows:DataW Unit->List Value
 |.agg l=>l.flatMap row
 |_=>[]
def text:DataW Unit->Value
 |.iface _ (.ptr (.agg [d]))=>val d
 |_=>.bool false
def put(l:List Value):Obj->Obj
 |.cells _ t frozen=>.cells l.toArray t frozen
 |o=>o
def c6N(w:World):World :=
 { w with heap:=(((((((((w.heap.modify 1 (put (row Rows.laid_bookings_calendar_monthDays))).modify 0 (put (row Rows.laid_internal_strconv_uint64pow10))).modify 6 (put [.iface 369 (.pointer (some ⟨w.heap.size,0,none⟩))])).modify 7 (put [.iface 369 (.pointer (some ⟨w.heap.size+1,0,none⟩))])).modify 3 (put (row Rows.laid_bookings_lines_weekdays))).modify 4 (put (row Rows.laid_math_bits_deBruijn32tab))).modify 5 (put (row Rows.laid_math_bits_deBruijn64tab))).modify 8 (put (row Rows.laid_unicode_utf8_first))).modify 9 (put (rows Rows.laid_unicode_utf8_acceptRanges))).push (.cells #[text Rows.laid_strconv_ErrSyntax] 371) |>.push (.cells #[text Rows.laid_strconv_ErrRange] 371) }
end Go.Proofs.YtfigmlfdnickmaaGreatDoor.Laid
namespace Go.Proofs.YtfigmlfdnickmaaGreatDoor.datesLaw
open Go.ChangeShapes Go.WideShapes Go.ChangeAt Go.RowKit
theorem own:ownKnob Tryz.prog.godebug=none:=by kernel_rfl
theorem c5b:laidOutB Tryz.prog=true:=by kernel_rfl
theorem c3D:Tryz.prog.cellsOf 3=1:=by kernel_rfl
theorem b7n:Tryz.prog.cellsOf 9=1:=by kernel_rfl
theorem e7q:Tryz.prog.cellsOf 89=6:=by kernel_rfl
theorem six{α:Type}{l:List α}(h:l.length=6):∃ a b c d e f,l=[a,b,c,d,e,f]:=by
 match l,h with
 |[a,b,c,d,e,f],_=>exact⟨a,b,c,d,e,f,rfl⟩
end Go.Proofs.YtfigmlfdnickmaaGreatDoor.datesLaw
namespace Go.Proofs.YtfigmlfdnickmaaGreatDoor.Txt
def dig(c:UInt8):Bool:=decide (48<=(c.toNat:Int)/\(c.toNat:Int)<=57)
def a6j(l:List UInt8):Bool:=l.all dig
def b4R(l:List UInt8):Int:=l.foldl (fun n c=>n*10+((c.toNat:Int)-48)) 0
def low(c:UInt8):Bool:=decide (97<=(c.toNat:Int)/\(c.toNat:Int)<=122)
def c1M(l:List UInt8):Bool:=l.all low
def isNum(l:List UInt8):Bool:=decide (1<=l.length/\l.length<=7) && a6j l
def a1j(l:List UInt8):Bool:=decide (1<=l.length/\l.length<=8) && c1M l
theorem a6k(c:UInt8):dig c=true↔48<=(c.toNat:Int)/\(c.toNat:Int)<=57:=by simp[dig]
theorem c0s(c:UInt8):low c=true↔97<=(c.toNat:Int)/\(c.toNat:Int)<=122:=by simp[low]
theorem a6X(l:List UInt8)(c:UInt8):a6j (l++[c])=(a6j l && dig c):=by simp[a6j]
theorem b3c(l:List UInt8)(c:UInt8):c1M (l++[c])=(c1M l && low c):=by simp[c1M]
theorem b2Y(l:List UInt8)(c:UInt8):b4R (l++[c])=b4R l*10+((c.toNat:Int)-48):=by simp[b4R]
theorem a8N(s:ByteArray)(k:Nat)(h:k<s.size):s.data.toList.take (k+1)=s.data.toList.take k++[s[k]]:=by
 rw[List.take_succ_eq_append_getElem (by simpa using h)];rfl
theorem a5t(s:ByteArray)(k:Nat)(h:s.size<=k):s.data.toList.take k=s.data.toList:=List.take_of_length_le (by simpa using h)
theorem a1d(s:ByteArray):s.data.toList.length=s.size:=by simp
theorem a8h(l:List UInt8)(k:Nat)(h:a6j (l.take k)=false):a6j l=false:=by
 unfold a6j at *;rw[List.all_eq_false] at *;obtain⟨x,hx,h⟩:=h;exact⟨x,List.mem_of_mem_take hx,h⟩
theorem b3d(l:List UInt8)(k:Nat)(h:c1M (l.take k)=false):c1M l=false:=by
 unfold c1M at *;rw[List.all_eq_false] at *;obtain⟨x,hx,h⟩:=h;exact⟨x,List.mem_of_mem_take hx,h⟩
theorem c5i(l:List UInt8):∀ (k:Nat)(n:Int),0<=n->n<10 ^ k->a6j l=true->0<=l.foldl (fun n c=>n*10+((c.toNat:Int)-48)) n/\l.foldl (fun n c=>n*10+((c.toNat:Int)-48)) n<10 ^ (k+l.length):=by
 induction l with
 |nil=>intro k n h0 h1 _;exact⟨h0,h1⟩
 |cons c l ih =>
  intro k n h0 h1 hd;simp only[a6j,List.all_cons,Bool.and_eq_true] at hd;have hc:=(a6k c).1 hd.1;have:=ih (k+1) (n*10+((c.toNat:Int)-48)) (by omega) (by rw[Int.pow_succ];omega) hd.2;simp only[List.foldl_cons,List.length_cons];rw[show k+(l.length+1)=k+1+l.length from by omega];exact this
theorem c0i(l:List UInt8)(h:a6j l=true)(hl:l.length<=7):0<=b4R l/\b4R l<=9999999:=by
 have b:=c5i l 0 0 (by omega) (by decide) h;have q:∀ k:Nat,k<8->(10:Int) ^ k<=10000000:=by decide
 have p:=q (0+l.length) (by omega);unfold b4R;omega
theorem b0J(h1:1<=l.length)(h2:l.length<=7)(h3:a6j l=true):isNum l=true:=by
 simp[isNum,h1,h2,h3]
theorem b3o(h:¬ (1<=l.length/\l.length<=7)):isNum l=false:=by
 unfold isNum;rw[decide_eq_false h];rfl
theorem b3q(h:a6j l=false):isNum l=false:=by simp[isNum,h]
theorem b3p(l:List UInt8):isNum l=true↔(1<=l.length/\l.length<=7)/\a6j l=true:=by simp[isNum]
theorem b5b(h1:1<=l.length)(h2:l.length<=8)(h3:c1M l=true):a1j l=true:=by
 simp[a1j,h1,h2,h3]
theorem b0K(h:¬ (1<=l.length/\l.length<=8)):a1j l=false:=by
 unfold a1j;rw[decide_eq_false h];rfl
theorem b8r(h:c1M l=false):a1j l=false:=by simp[a1j,h]
def a2f(l:List UInt8):Int:=if isNum l then b4R l else 0
theorem a2B(l:List UInt8):0<=a2f l/\a2f l<=9999999:=by
 unfold a2f
 split
 ·rename_i h
  have:=(b3p l).1 h;exact c0i l this.2 this.1.2
 ·omega
end Go.Proofs.YtfigmlfdnickmaaGreatDoor.Txt
namespace Go.Proofs.YtfigmlfdnickmaaGreatDoor
open Go.RowKit
theorem a0A{k:IntKind}{c d:Bool}(h:a=b)(g:c=d):Ending.returned (.tuple #[.int k a,.bool c])=.returned (.tuple #[.int k b,.bool d]):=by rw[h,g]
theorem a0m(s:ByteArray)(w:World)(hs:s.size<=maxLen):
  Calls Tryz.prog 139 #[.string s] w fun e w'=>e=.returned (.tuple #[.int .i64 (Txt.a2f s.data.toList),.bool (Txt.isNum s.data.toList)])/\w'=w:=by
 unfold maxLen at hs
 by_cases h0:s.size=0
 ·have H:Hid (Txt.isNum s.data.toList=false):=Txt.b3o (by rw[Txt.a1d];omega);have h1:((s.size:Int)==0)=true:=beq_iff_eq.2 (by omega)
  go_enter Tryz.func139,Tryz.ntmps139
  go_wp2;go_ret2;exact⟨a0A (by simp[Txt.a2f,H.out]) (by rw[H.out]),rfl⟩
 ·have h1:((s.size:Int)==0)=false:=beq_eq_false_iff_ne.2 (by omega)
  by_cases h7:7<s.size
  ·have H:Hid (Txt.isNum s.data.toList=false):=Txt.b3o (by rw[Txt.a1d];omega);clear h0
   go_enter Tryz.func139,Tryz.ntmps139
   go_wp2;go_ret2;exact⟨a0A (by simp[Txt.a2f,H.out]) (by rw[H.out]),rfl⟩
  ·go_enter Tryz.func139,Tryz.ntmps139
   go_wp2
   go_loop [4,5,6] (fun n i _=>∃ k:Nat,k<=s.size/\i=.int .i64 k/\n=.int .i64 (Txt.b4R (s.data.toList.take k))/\Txt.a6j (s.data.toList.take k)=true) (fun _ i _=>s.size-(intOf i).toNat)
   case atStart=>exact⟨0,Nat.zero_le _,rfl,rfl,rfl⟩
   case round =>
    obtain⟨k,hk,rfl,rfl,hd⟩:=hrel;have HD:=hide hd;have nb:=Txt.c0i (s.data.toList.take k) hd (by rw[List.length_take];omega);clear hd
    by_cases hlt:k<s.size
    ·have HT:Hid (s.data.toList.take (k+1)=s.data.toList.take k++[s[k]]):=Txt.a8N s k hlt
     by_cases hc:Txt.dig s[k]=true
     ·have hc':=(Txt.a6k _).1 hc;have HC:=hide hc;obtain⟨hc1,hc2⟩:=hc';clear hc;go_wp2
      go_round
      case rel=>exact⟨k+1,by omega,by go_num,by rw[HT.out,Txt.b2Y],by rw[HT.out,Txt.a6X,HD.out,HC.out];rfl⟩
      case measure=>simp[intOf];omega
     ·have HC:Hid (Txt.isNum s.data.toList=false):=Txt.b3q (Txt.a8h _ (k+1) (by rw[HT.out,Txt.a6X,HD.out];simpa using hc))
      have hc':(s[k].toNat:Int)<48\/(¬ (s[k].toNat:Int)<48/\57<(s[k].toNat:Int)):=by
       have:=mt (Txt.a6k s[k]).2 hc;omega
      clear hc;rcases hc' with hc' |⟨hc',hc''⟩
      all_goals
       go_wp2;go_ret2;exact⟨a0A (by simp[Txt.a2f,HC.out]) (by rw[HC.out]),rfl⟩
    ·have HA:Hid (s.data.toList.take k=s.data.toList):=Txt.a5t s k (by omega);have HN:Hid (Txt.isNum s.data.toList=true):=Txt.b0J (by rw[Txt.a1d];omega) (by rw[Txt.a1d];omega) (by rw[<- HA.out];exact HD.out);go_wp2;go_ret2;exact⟨a0A (by rw[HA.out];simp[Txt.a2f,HN.out]) (by rw[HN.out]),rfl⟩
end Go.Proofs.YtfigmlfdnickmaaGreatDoor
namespace Go.Proofs.YtfigmlfdnickmaaGreatDoor.Txt
def a0V(s:ByteArray)(i:Nat):Int:=((s.data.toList.getD i 0).toNat:Int)
theorem a2W(s:ByteArray)(i:Nat)(h:i<s.size):a0V s i=(s[i].toNat:Int):=by
 unfold a0V;rw[List.getD_eq_getElem?_getD,List.getElem?_eq_getElem (by simpa using h)];rfl
def part(s:ByteArray)(a b:Nat):List UInt8:=(s.extract a b).data.toList
def a3a(s:ByteArray):Bool:=decide (s.size=5/\a0V s 2=58/\isNum (part s 0 2)=true/\isNum (part s 3 5)=true/\a2f (part s 0 2)<=23/\a2f (part s 3 5)<=59)
def a6J(s:ByteArray):Int:=if a3a s then a2f (part s 0 2)*60+a2f (part s 3 5) else 0
def a5j(s:ByteArray):Bool:=decide (s.size=10/\a0V s 4=45/\a0V s 7=45/\isNum (part s 0 4)=true/\isNum (part s 5 7)=true/\isNum (part s 8 10)=true/\Cal.ok (a2f (part s 0 4)) (a2f (part s 5 7)) (a2f (part s 8 10))=true)
def a2o(s:ByteArray):Int:=if a5j s then Cal.num (a2f (part s 0 4)) (a2f (part s 5 7)) (a2f (part s 8 10)) else 0
def a2y(s:ByteArray):Bool:=decide (a5j s=true/\0<=a2o s/\a2o s<728)
theorem a5D(h:¬ (s.size=5/\a0V s 2=58/\isNum (part s 0 2)=true/\isNum (part s 3 5)=true/\a2f (part s 0 2)<=23/\a2f (part s 3 5)<=59)):a3a s=false:=decide_eq_false h
theorem a6l(h:¬ (s.size=10/\a0V s 4=45/\a0V s 7=45/\isNum (part s 0 4)=true/\isNum (part s 5 7)=true/\isNum (part s 8 10)=true/\Cal.ok (a2f (part s 0 4)) (a2f (part s 5 7)) (a2f (part s 8 10))=true)):a5j s=false:=decide_eq_false h
theorem b6G(hs:s.size=5)(hb:a0V s 2=58):a3a s=(isNum (part s 0 2) && isNum (part s 3 5) && decide (a2f (part s 0 2)<=23) && decide (a2f (part s 3 5)<=59)):=by
 rw[Bool.eq_iff_iff];simp[a3a,hs,hb,and_assoc]
theorem c1h(hs:s.size=10)(hb:a0V s 4=45)(hc:a0V s 7=45):a5j s=(isNum (part s 0 4) && isNum (part s 5 7) && isNum (part s 8 10) && Cal.ok (a2f (part s 0 4)) (a2f (part s 5 7)) (a2f (part s 8 10))):=by
 rw[Bool.eq_iff_iff];simp[a5j,hs,hb,hc,and_assoc]
theorem c4W(s:ByteArray):0<=a6J s/\a6J s<=1439:=by
 unfold a6J
 split
 ·rename_i h
  have h:=of_decide_eq_true h;have:=a2B (part s 0 2);have:=a2B (part s 3 5);omega
 ·omega
theorem c3w(s:ByteArray):-738885<=a2o s/\a2o s<=2913173:=by
 unfold a2o
 split
 ·rename_i h
  have h:=of_decide_eq_true h;have b:=Cal.c3X _ _ _ h.2.2.2.2.2.2;unfold Cal.first Cal.last at b;exact b
 ·omega
end Go.Proofs.YtfigmlfdnickmaaGreatDoor.Txt
namespace Go.Proofs.YtfigmlfdnickmaaGreatDoor
open Go.RowKit
theorem b5y(h:a≠b):(a != b)=true:=by rw[bne_iff_ne];exact h
theorem b5z(h:a=b):(a != b)=false:=by subst h;simp
theorem a0P(s:ByteArray)(a b:Nat)(h:s.size<=maxLen):(s.extract a b).size<=maxLen:=by
 have:(s.extract a b).size=min b s.size-a:=ByteArray.size_extract ..;omega
theorem a2m(s:ByteArray)(w:World)(hm:s.size<=maxLen):
  Calls Tryz.prog 137 #[.string s] w fun e w'=>e=.returned (.tuple #[.int .i64 (Txt.a6J s),.bool (Txt.a3a s)])/\w'=w:=by
 have HM:=hide hm;clear hm
 by_cases hs:s.size=5
 ·have h5:((s.size:Int) != 5)=false:=b5z (by omega);have h6:(2:Int)<(s.size:Int):=by omega
  have h2n:2<s.size:=by omega
  have h7:(3:Int)<=(s.size:Int):=by omega
  by_cases hb:Txt.a0V s 2=58
  ·have hc:(((s[2]'h2n).toNat:Int) != 58)=false:=b5z (by rw[<- Txt.a2W];exact hb);have b1:=Txt.a2B (Txt.part s 0 2);have b2:=Txt.a2B (Txt.part s 3 5);have HS:=hide hs;have HB:=hide hb;clear hs hb;have HF:=hide (Txt.b6G HS.out HB.out)
   cases n1:Txt.isNum (Txt.part s 0 2)
   ·go_enter Tryz.func137,Tryz.ntmps137
    go_wp2_with fail
    refine (a0m _ _ (a0P _ _ _ HM.out)).mono ?_;rintro e w' ⟨rfl,rfl⟩;rw[show (s.extract 0 2).data.toList=Txt.part s 0 2 from rfl]
    go_wp2_with fail
    refine (a0m _ _ (a0P _ _ _ HM.out)).mono ?_;rintro e w' ⟨rfl,rfl⟩;rw[show (s.extract 3 s.size).data.toList=Txt.part s 3 5 from by rw[HS.out];rfl];go_wp2;go_ret2;exact⟨a0A (by simp[Txt.a6J,a0d HF,n1]) (by simp[a0d HF,n1]),rfl⟩
   ·cases n2:Txt.isNum (Txt.part s 3 5)
    ·go_enter Tryz.func137,Tryz.ntmps137
     go_wp2_with fail
     refine (a0m _ _ (a0P _ _ _ HM.out)).mono ?_;rintro e w' ⟨rfl,rfl⟩;rw[show (s.extract 0 2).data.toList=Txt.part s 0 2 from rfl]
     go_wp2_with fail
     refine (a0m _ _ (a0P _ _ _ HM.out)).mono ?_;rintro e w' ⟨rfl,rfl⟩;rw[show (s.extract 3 s.size).data.toList=Txt.part s 3 5 from by rw[HS.out];rfl];go_wp2;go_ret2;exact⟨a0A (by simp[Txt.a6J,a0d HF,n1,n2]) (by simp[a0d HF,n1,n2]),rfl⟩
    ·by_cases g1:Txt.a2f (Txt.part s 0 2)<=23
     ·by_cases g2:Txt.a2f (Txt.part s 3 5)<=59
      ·go_enter Tryz.func137,Tryz.ntmps137
       go_wp2_with fail
       refine (a0m _ _ (a0P _ _ _ HM.out)).mono ?_;rintro e w' ⟨rfl,rfl⟩;rw[show (s.extract 0 2).data.toList=Txt.part s 0 2 from rfl]
       go_wp2_with fail
       refine (a0m _ _ (a0P _ _ _ HM.out)).mono ?_;rintro e w' ⟨rfl,rfl⟩;rw[show (s.extract 3 s.size).data.toList=Txt.part s 3 5 from by rw[HS.out];rfl];go_wp2;go_ret2;exact⟨a0A (by simp[Txt.a6J,a0d HF,n1,n2,g1,g2]) (by simp[a0d HF,n1,n2,g1,g2]),rfl⟩
      ·go_enter Tryz.func137,Tryz.ntmps137
       go_wp2_with fail
       refine (a0m _ _ (a0P _ _ _ HM.out)).mono ?_;rintro e w' ⟨rfl,rfl⟩;rw[show (s.extract 0 2).data.toList=Txt.part s 0 2 from rfl]
       go_wp2_with fail
       refine (a0m _ _ (a0P _ _ _ HM.out)).mono ?_;rintro e w' ⟨rfl,rfl⟩;rw[show (s.extract 3 s.size).data.toList=Txt.part s 3 5 from by rw[HS.out];rfl];go_wp2;go_ret2;have g2':¬ Txt.a2f (Txt.part s 3 5)<=59:=by omega
       exact⟨a0A (by simp[Txt.a6J,a0d HF,n1,n2,g1,g2']) (by simp[a0d HF,n1,n2,g1,g2']),rfl⟩
     ·go_enter Tryz.func137,Tryz.ntmps137
      go_wp2_with fail
      refine (a0m _ _ (a0P _ _ _ HM.out)).mono ?_;rintro e w' ⟨rfl,rfl⟩;rw[show (s.extract 0 2).data.toList=Txt.part s 0 2 from rfl]
      go_wp2_with fail
      refine (a0m _ _ (a0P _ _ _ HM.out)).mono ?_;rintro e w' ⟨rfl,rfl⟩;rw[show (s.extract 3 s.size).data.toList=Txt.part s 3 5 from by rw[HS.out];rfl];go_wp2;go_ret2;have g1':¬ Txt.a2f (Txt.part s 0 2)<=23:=by omega
      exact⟨a0A (by simp[Txt.a6J,a0d HF,n1,n2,g1']) (by simp[a0d HF,n1,n2,g1']),rfl⟩
  ·have hc:(((s[2]'h2n).toNat:Int) != 58)=true:=b5y (by rw[<- Txt.a2W];exact hb);have HF:Hid (Txt.a3a s=false):=Txt.a5D (by omega);clear hs hb
   go_enter Tryz.func137,Tryz.ntmps137
   go_wp2;go_ret2;exact⟨a0A (by simp[Txt.a6J,HF.out]) (by rw[HF.out]),rfl⟩
 ·have h5:((s.size:Int) != 5)=true:=b5y (by omega);have HF:Hid (Txt.a3a s=false):=Txt.a5D (by omega);clear hs
  go_enter Tryz.func137,Tryz.ntmps137
  go_wp2;go_ret2;exact⟨a0A (by simp[Txt.a6J,HF.out]) (by rw[HF.out]),rfl⟩
theorem a1U(s:ByteArray)(w:World)(ht:Tab w)(hm:s.size<=maxLen):
  Calls Tryz.prog 195 #[.string s] w fun e w'=>e=.returned (.tuple #[.int .i64 (Txt.a2o s),.bool (Txt.a5j s)])/\w'=w:=by
 have HM:=hide hm;clear hm
 by_cases hs:s.size=10
 ·have h5:((s.size:Int) != 10)=false:=b5z (by omega);have h4n:4<s.size:=by omega
  have h7n:7<s.size:=by omega
  have h4:(4:Int)<(s.size:Int):=by omega
  have h7:(7:Int)<(s.size:Int):=by omega
  have h8:(8:Int)<=(s.size:Int):=by omega
  by_cases hb:Txt.a0V s 4=45
  ·have hc:(((s[4]'h4n).toNat:Int) != 45)=false:=b5z (by rw[<- Txt.a2W];exact hb)
   by_cases hd:Txt.a0V s 7=45
   ·have he:(((s[7]'h7n).toNat:Int) != 45)=false:=b5z (by rw[<- Txt.a2W];exact hd);have b1:=Txt.a2B (Txt.part s 0 4);have b2:=Txt.a2B (Txt.part s 5 7);have b3:=Txt.a2B (Txt.part s 8 10);have HF:=hide (Txt.c1h hs hb hd);have HS:=hide hs;clear hs hb hd;have hn:∃ n1 n2 n3:Bool,Txt.isNum (Txt.part s 0 4)=n1/\Txt.isNum (Txt.part s 5 7)=n2/\Txt.isNum (Txt.part s 8 10)=n3:=⟨_,_,_,rfl,rfl,rfl⟩;obtain⟨n1,n2,n3,e1,e2,e3⟩:=hn;have walk3:n1=false\/(n1=true/\n2=false)\/(n1=true/\n2=true/\n3=false)\/(n1=true/\n2=true/\n3=true):=by cases n1 <;> cases n2 <;> cases n3 <;> simp
    rcases walk3 with h|⟨h,h'⟩|⟨h,h',h''⟩|⟨h,h',h''⟩
    ·subst h;clear e2 e3
     go_enter Tryz.func195,Tryz.ntmps195
     go_wp2_with fail
     refine (a0m _ _ (a0P _ _ _ HM.out)).mono ?_;rintro e w' ⟨rfl,rfl⟩;rw[show (s.extract 0 4).data.toList=Txt.part s 0 4 from rfl]
     go_wp2_with fail
     refine (a0m _ _ (a0P _ _ _ HM.out)).mono ?_;rintro e w' ⟨rfl,rfl⟩;rw[show (s.extract 5 7).data.toList=Txt.part s 5 7 from rfl]
     go_wp2_with fail
     refine (a0m _ _ (a0P _ _ _ HM.out)).mono ?_;rintro e w' ⟨rfl,rfl⟩;rw[show (s.extract 8 s.size).data.toList=Txt.part s 8 10 from by rw[HS.out];rfl];go_wp2;go_ret2;exact⟨a0A (by simp[Txt.a2o,a0d HF,e1]) (by simp[a0d HF,e1]),rfl⟩
    ·subst h h';clear e3
     go_enter Tryz.func195,Tryz.ntmps195
     go_wp2_with fail
     refine (a0m _ _ (a0P _ _ _ HM.out)).mono ?_;rintro e w' ⟨rfl,rfl⟩;rw[show (s.extract 0 4).data.toList=Txt.part s 0 4 from rfl]
     go_wp2_with fail
     refine (a0m _ _ (a0P _ _ _ HM.out)).mono ?_;rintro e w' ⟨rfl,rfl⟩;rw[show (s.extract 5 7).data.toList=Txt.part s 5 7 from rfl]
     go_wp2_with fail
     refine (a0m _ _ (a0P _ _ _ HM.out)).mono ?_;rintro e w' ⟨rfl,rfl⟩;rw[show (s.extract 8 s.size).data.toList=Txt.part s 8 10 from by rw[HS.out];rfl];go_wp2;go_ret2;exact⟨a0A (by simp[Txt.a2o,a0d HF,e1,e2]) (by simp[a0d HF,e1,e2]),rfl⟩
    ·subst h h' h''
     go_enter Tryz.func195,Tryz.ntmps195
     go_wp2_with fail
     refine (a0m _ _ (a0P _ _ _ HM.out)).mono ?_;rintro e w' ⟨rfl,rfl⟩;rw[show (s.extract 0 4).data.toList=Txt.part s 0 4 from rfl]
     go_wp2_with fail
     refine (a0m _ _ (a0P _ _ _ HM.out)).mono ?_;rintro e w' ⟨rfl,rfl⟩;rw[show (s.extract 5 7).data.toList=Txt.part s 5 7 from rfl]
     go_wp2_with fail
     refine (a0m _ _ (a0P _ _ _ HM.out)).mono ?_;rintro e w' ⟨rfl,rfl⟩;rw[show (s.extract 8 s.size).data.toList=Txt.part s 8 10 from by rw[HS.out];rfl];go_wp2;go_ret2;exact⟨a0A (by simp[Txt.a2o,a0d HF,e1,e2,e3]) (by simp[a0d HF,e1,e2,e3]),rfl⟩
    ·subst h h' h''
     cases ho:Cal.ok (Txt.a2f (Txt.part s 0 4)) (Txt.a2f (Txt.part s 5 7)) (Txt.a2f (Txt.part s 8 10))
     ·go_enter Tryz.func195,Tryz.ntmps195
      go_wp2_with fail
      refine (a0m _ _ (a0P _ _ _ HM.out)).mono ?_;rintro e w' ⟨rfl,rfl⟩;rw[show (s.extract 0 4).data.toList=Txt.part s 0 4 from rfl]
      go_wp2_with fail
      refine (a0m _ _ (a0P _ _ _ HM.out)).mono ?_;rintro e w' ⟨rfl,rfl⟩;rw[show (s.extract 5 7).data.toList=Txt.part s 5 7 from rfl]
      go_wp2_with fail
      refine (a0m _ _ (a0P _ _ _ HM.out)).mono ?_;rintro e w' ⟨rfl,rfl⟩;rw[show (s.extract 8 s.size).data.toList=Txt.part s 8 10 from by rw[HS.out];rfl]
      go_wp2_with fail
      refine (a9O _ _ _ _ ht ho).mono ?_;rintro e w' ⟨rfl,rfl⟩;go_wp2;go_ret2;exact⟨a0A (by simp[Txt.a2o,a0d HF,e1,e2,e3,ho]) (by simp[a0d HF,e1,e2,e3,ho]),rfl⟩
     ·go_enter Tryz.func195,Tryz.ntmps195
      go_wp2_with fail
      refine (a0m _ _ (a0P _ _ _ HM.out)).mono ?_;rintro e w' ⟨rfl,rfl⟩;rw[show (s.extract 0 4).data.toList=Txt.part s 0 4 from rfl]
      go_wp2_with fail
      refine (a0m _ _ (a0P _ _ _ HM.out)).mono ?_;rintro e w' ⟨rfl,rfl⟩;rw[show (s.extract 5 7).data.toList=Txt.part s 5 7 from rfl]
      go_wp2_with fail
      refine (a0m _ _ (a0P _ _ _ HM.out)).mono ?_;rintro e w' ⟨rfl,rfl⟩;rw[show (s.extract 8 s.size).data.toList=Txt.part s 8 10 from by rw[HS.out];rfl]
      go_wp2_with fail
      refine (a7P _ _ _ _ ht ho).mono ?_;rintro e w' ⟨rfl,rfl⟩;go_wp2;go_ret2;exact⟨a0A (by simp[Txt.a2o,a0d HF,e1,e2,e3,ho]) (by simp[a0d HF,e1,e2,e3,ho]),rfl⟩
   ·have he:(((s[7]'h7n).toNat:Int) != 45)=true:=b5y (by rw[<- Txt.a2W];exact hd);have HF:Hid (Txt.a5j s=false):=Txt.a6l (by omega);clear hs hb hd
    go_enter Tryz.func195,Tryz.ntmps195
    go_wp2;go_ret2;exact⟨a0A (by simp[Txt.a2o,HF.out]) (by rw[HF.out]),rfl⟩
  ·have hc:(((s[4]'h4n).toNat:Int) != 45)=true:=b5y (by rw[<- Txt.a2W];exact hb);have HF:Hid (Txt.a5j s=false):=Txt.a6l (by omega);clear hs hb
   go_enter Tryz.func195,Tryz.ntmps195
   go_wp2;go_ret2;exact⟨a0A (by simp[Txt.a2o,HF.out]) (by rw[HF.out]),rfl⟩
 ·have h5:((s.size:Int) != 10)=true:=b5y (by omega);have HF:Hid (Txt.a5j s=false):=Txt.a6l (by omega);clear hs
  go_enter Tryz.func195,Tryz.ntmps195
  go_wp2;go_ret2;exact⟨a0A (by simp[Txt.a2o,HF.out]) (by rw[HF.out]),rfl⟩
structure Kept(R:Nat)(w w':World):Prop where
 os:w'.os=w.os
 tape:w'.tape=w.tape
 output:w'.output=w.output
 size:w.heap.size<=w'.heap.size
 block:∀ k,k<w.heap.size->k≠R->w'.heap[k]?=w.heap[k]?
theorem Kept.refl(R:Nat)(w:World):Kept R w w:=⟨rfl,rfl,rfl,Nat.le_refl _,fun _ _ _=>rfl⟩
theorem Kept.trans{a b c:World}(h:Kept R a b)(k:Kept R b c):Kept R a c :=
 ⟨k.os.trans h.os,k.tape.trans h.tape,k.output.trans h.output,Nat.le_trans h.size k.size,fun i hi hr=>(k.block i (zL hi h.size) hr).trans (h.block i hi hr)⟩
theorem Kept.of_below(h:Below w.heap.size w w'):Kept R w w':=⟨h.os,h.tape,h.output,h.size,fun k hk _=>h.block k hk⟩
theorem Kept.drewN(h:Kept R w w')(n:Nat):Kept R w (w'.drewN n):=⟨h.os,h.tape,h.output,h.size,h.block⟩
theorem Kept.setCell(h:Kept R w w')(o:Nat)(v:Value):Kept R w (w'.setCell ⟨R,o,none⟩ v) :=
 h.trans ⟨(Below.setCell (B:=0) (Below.refl 0 w') (zN _) v).os,(Below.setCell (B:=0) (Below.refl 0 w') (zN _) v).tape,(Below.setCell (B:=0) (Below.refl 0 w') (zN _) v).output,(Below.setCell (B:=0) (Below.refl 0 w') (p:=⟨R,o,none⟩) (zN _) v).size,fun k _ hr=>Below.heap_setCell w' _ v k hr⟩
theorem Kept.below{B:Nat}(h:Kept R w w')(hr:B<=R)(hb:B<=w.heap.size):Below B w w' :=
 ⟨h.os,h.tape,h.output,h.size,fun k hk=>h.block k (zL hk hb) (Nat.ne_of_lt (zL hk hr))⟩
theorem Kept.cell(h:Kept R w w'){b o:Nat}{v:Value}(hne:b≠R)(hc:w.cell? ⟨b,o,none⟩=some v):w'.cell? ⟨b,o,none⟩=some v :=
 (zo (w:=w) (h.block b (World.block_lt_of_cell? _ _ hc) hne)).trans hc
structure RS(w:World)(R A:Nat)(ws:List ByteArray)(nx:Nat)(wr:Bool):Prop where
 c0:w.cell? ⟨R,0,none⟩=some (.slice (some ⟨A,0,none⟩) ws.length ws.length)
 c1:w.cell? ⟨R,1,none⟩=some (.int .i64 nx)
 c2:w.cell? ⟨R,2,none⟩=some (.bool wr)
 f1:w.frozen? ⟨R,1,none⟩=false
 f2:w.frozen? ⟨R,2,none⟩=false
 ne:A≠R
 rows:∀ (i:Nat) (h:i<ws.length),w.cell? ⟨A,i,none⟩=some (.string ws[i])
 len:ws.length<=160
 c6c:nx<=ws.length
 short:∀ x∈ws,x.size<=160
theorem RS.of_below(h:RS w R A ws nx wr)(hb:Below w.heap.size w w'):RS w' R A ws nx wr :=
 ⟨cell_later hb h.c0,cell_later hb h.c1,cell_later hb h.c2,(hb.frozen (World.block_lt_of_cell? _ _ h.c1)).trans h.f1,(hb.frozen (World.block_lt_of_cell? _ _ h.c2)).trans h.f2,h.ne,fun i hi=>cell_later hb (h.rows i hi),h.len,h.c6c,h.short⟩
theorem RS.drewN(h:RS w R A ws nx wr)(n:Nat):RS (w.drewN n) R A ws nx wr:=⟨h.c0,h.c1,h.c2,h.f1,h.f2,h.ne,h.rows,h.len,h.c6c,h.short⟩
def a1b(n nx:Nat)(wr:Bool):Bool:=!wr && decide (nx<n)
theorem a0X(R A:Nat)(ws:List ByteArray)(nx:Nat)(wr:Bool)(w:World)(h:RS w R A ws nx wr):
  Calls Tryz.prog 63 #[.pointer (some ⟨R,0,none⟩)] w fun e w'=>e=.returned (.bool (a1b ws.length nx wr))/\∃ n,w'=w.drewN n:=by
 have c0:=h.c0;have c1:=h.c1;have c2:=h.c2;clear h
 cases wr
 ·go_enter Tryz.func63,Tryz.ntmps63
  go_wp2
  go_quiet (fail)
  go_wp2;go_ret;exact⟨a2a (by simp[a1b]),_,rfl⟩
 ·go_enter Tryz.func63,Tryz.ntmps63
  go_wp2
  go_quiet (fail)
  go_wp2;go_ret;exact⟨a2a (by simp[a1b]),_,rfl⟩
theorem a9d(h:¬ (wr=false/\nx<n)):a1b n nx wr=false:=by
 unfold a1b
 cases wr
 ·simp;simp at h;exact h
 ·rfl
theorem c6l(R A:Nat)(ws:List ByteArray)(nx:Nat)(wr:Bool)(word:ByteArray)(w:World)(h:RS w R A ws nx wr)(hn:a1b ws.length nx wr=false):
  Calls Tryz.prog 82 #[.pointer (some ⟨R,0,none⟩),.string word] w fun e w'=>e=.returned (.bool false)/\∃ n,w'=w.drewN n:=by
 go_enter Tryz.func82,Tryz.ntmps82
 go_wp2
 go_quiet ((go_at_call 63;exact Calls.quiet_of (a0X R A ws nx wr _ (h.drewN _))))
 go_wp2;go_ret;exact⟨rfl,_,rfl⟩
theorem c2Z(R A:Nat)(ws:List ByteArray)(nx:Nat)(wr:Bool)(word:ByteArray)(w:World)(h:RS w R A ws nx wr)(hn:a1b ws.length nx wr=true)(hlt:nx<ws.length)(he:(ws[nx].toList==word.toList)=false):
  Calls Tryz.prog 82 #[.pointer (some ⟨R,0,none⟩),.string word] w fun e w'=>e=.returned (.bool false)/\∃ n,w'=w.drewN n:=by
 have c0:=h.c0;have c1:=h.c1;have c2:=h.c2;have cr:=h.rows nx hlt;have hi:(nx:Int)<(ws.length:Int):=by omega
 go_enter Tryz.func82,Tryz.ntmps82
 go_wp2
 go_quiet ((go_at_call 63;exact Calls.quiet_of (a0X R A ws nx wr _ (h.drewN _))))
 go_wp2;go_ret;exact⟨rfl,_,rfl⟩
theorem RS.step(h:RS w R A ws nx wr)(hlt:nx<ws.length):RS (w.setCell ⟨R,1,none⟩ (.int .i64 ((nx:Int)+1))) R A ws (nx+1) wr :=
 ⟨(zS _ _ _ _ (by simp)).trans h.c0,World.cell?_setCell_same _ _ _ h.c1,(zS _ _ _ _ (by simp)).trans h.c2,(zF ..).trans h.f1,(zF ..).trans h.f2,h.ne,
  fun i hi=>(zS _ _ _ _ (by simp;intro e;exact absurd e.symm h.ne)).trans (h.rows i hi),h.len,hlt,h.short⟩
theorem RS.bad(h:RS w R A ws nx wr):RS (w.setCell ⟨R,2,none⟩ (.bool true)) R A ws nx true :=
 ⟨(zS _ _ _ _ (by simp)).trans h.c0,(zS _ _ _ _ (by simp)).trans h.c1,World.cell?_setCell_same _ _ _ h.c2,(zF ..).trans h.f1,(zF ..).trans h.f2,h.ne,
  fun i hi=>(zS _ _ _ _ (by simp;intro e;exact absurd e.symm h.ne)).trans (h.rows i hi),h.len,h.c6c,h.short⟩
theorem c6k(R A:Nat)(ws:List ByteArray)(nx:Nat)(wr:Bool)(word:ByteArray)(w:World)(h:RS w R A ws nx wr)(hn:a1b ws.length nx wr=true)(hlt:nx<ws.length)(he:(ws[nx].toList==word.toList)=true):
  Calls Tryz.prog 82 #[.pointer (some ⟨R,0,none⟩),.string word] w fun e w'=>e=.returned (.bool true)/\RS w' R A ws (nx+1) wr/\Kept R w w':=by
 have c0:=h.c0;have c1:=h.c1;have c2:=h.c2;have f1:=h.f1;have cr:=h.rows nx hlt;have hl:=h.len;have hi:(nx:Int)<(ws.length:Int):=by omega
 go_enter Tryz.func82,Tryz.ntmps82
 go_wp2
 go_quiet ((go_at_call 63;exact Calls.quiet_of (a0X R A ws nx wr _ (h.drewN _))))
 go_wp2;go_ret;exact⟨rfl,(h.drewN _).step hlt,((Kept.refl R w).drewN _).setCell _ _⟩
def isB(ws:List ByteArray)(nx:Nat)(wr:Bool)(word:ByteArray):Bool:=a1b ws.length nx wr && ((ws.getD nx ByteArray.empty).toList==word.toList)
theorem a2n(R A:Nat)(ws:List ByteArray)(nx:Nat)(wr:Bool)(word:ByteArray)(w:World)(h:RS w R A ws nx wr):
  Calls Tryz.prog 82 #[.pointer (some ⟨R,0,none⟩),.string word] w fun e w'=>e=.returned (.bool (isB ws nx wr word))/\RS w' R A ws (if isB ws nx wr word then nx+1 else nx) wr/\Kept R w w':=by
 cases hm:a1b ws.length nx wr
 ·have e:isB ws nx wr word=false:=by simp[isB,hm]
  rw[e];refine (c6l R A ws nx wr word w h hm).mono ?_;rintro e w' ⟨rfl,n,rfl⟩;exact⟨rfl,h.drewN n,(Kept.refl R w).drewN n⟩
 ·have hlt:nx<ws.length:=by
   by_cases hlt:nx<ws.length
   ·exact hlt
   ·rw[a9d (by omega)] at hm;cases hm
  have eg:ws.getD nx ByteArray.empty=ws[nx]:=by simp[List.getD,hlt]
  cases he:(ws[nx].toList==word.toList)
  ·have e:isB ws nx wr word=false:=by rw[isB,eg,he,Bool.and_false]
   rw[e];refine (c2Z R A ws nx wr word w h hm hlt he).mono ?_;rintro e w' ⟨rfl,n,rfl⟩;exact⟨rfl,h.drewN n,(Kept.refl R w).drewN n⟩
  ·have e:isB ws nx wr word=true:=by rw[isB,eg,he,hm];rfl
   rw[e];exact c6k R A ws nx wr word w h hm hlt he
def tkB(ws:List ByteArray)(nx:Nat)(wr:Bool)(B:ByteArray->Bool):Bool:=a1b ws.length nx wr && B (ws.getD nx ByteArray.empty)
def tkN(ws:List ByteArray)(nx:Nat)(wr:Bool)(B:ByteArray->Bool):Nat:=if tkB ws nx wr B then nx+1 else nx
def tkW(ws:List ByteArray)(nx:Nat)(wr:Bool)(B:ByteArray->Bool):Bool:=if tkB ws nx wr B then wr else true
def tkV(ws:List ByteArray)(nx:Nat)(wr:Bool)(B:ByteArray->Bool)(V:ByteArray->Int):Int:=if tkB ws nx wr B then V (ws.getD nx ByteArray.empty) else 0
theorem a4q(h:a1b n nx wr=true):nx<n:=by
 by_cases hlt:nx<n
 ·exact hlt
 ·rw[a9d (by omega)] at h;cases h
theorem a5f(ws:List ByteArray)(nx:Nat)(h:nx<ws.length):ws.getD nx ByteArray.empty=ws[nx]:=by simp[List.getD,h]
theorem a3s(f:Value)(R A:Nat)(ws:List ByteArray)(nx:Nat)(wr:Bool)(w:World)(h:RS w R A ws nx wr)(hm:a1b ws.length nx wr=false):
  Calls Tryz.prog 135 #[.pointer (some ⟨R,0,none⟩),f] w fun e w'=>e=.returned (.int .i64 0)/\RS w' R A ws nx true/\Kept R w w':=by
 go_enter Tryz.func135,Tryz.ntmps135
 go_wp2_with fail
 refine (a0X R A ws nx wr w h).mono ?_;rintro e w1 ⟨rfl,n,hw⟩;have h1:RS w1 R A ws nx wr:=by rw[hw];exact h.drewN n
 have k1:Kept R w w1:=by rw[hw];exact (Kept.refl R w).drewN n
 have c2:=h1.c2;have f2:=h1.f2;clear hw;go_wp2;go_ret;exact⟨rfl,h1.bad,k1.setCell _ _⟩
theorem b7N(R A:Nat)(ws:List ByteArray)(nx:Nat)(wr:Bool)(w:World)(h:RS w R A ws nx wr)(hm:a1b ws.length nx wr=true)(hlt:nx<ws.length)(hs:ws[nx].size<=maxLen)(hb:Txt.isNum ws[nx].data.toList=true):
  Calls Tryz.prog 135 #[.pointer (some ⟨R,0,none⟩),.func (.func 139) #[] #[]] w fun e w'=>e=.returned (.int .i64 (Txt.a2f ws[nx].data.toList))/\RS w' R A ws (nx+1) wr/\Kept R w w':=by
 have hi:(nx:Int)<(ws.length:Int):=by omega
 go_enter Tryz.func135,Tryz.ntmps135
 go_wp2_with fail
 refine (a0X R A ws nx wr w h).mono ?_;rintro e w1 ⟨rfl,n,hw⟩;have h1:RS w1 R A ws nx wr:=by rw[hw];exact h.drewN n
 have k1:Kept R w w1:=by rw[hw];exact (Kept.refl R w).drewN n
 have c0:=h1.c0;have c1:=h1.c1;have f1:=h1.f1;have cr:=h1.rows nx hlt;have hl:=h1.len;clear hw;go_wp2
 go_quiet ((go_at_call 139;exact Calls.quiet_of_same (a0m _ _ hs)))
 go_wp2;go_ret;exact⟨rfl,(h1.drewN _).step hlt,(k1.drewN _).setCell _ _⟩
theorem b7O(R A:Nat)(ws:List ByteArray)(nx:Nat)(wr:Bool)(w:World)(h:RS w R A ws nx wr)(hm:a1b ws.length nx wr=true)(hlt:nx<ws.length)(hs:ws[nx].size<=maxLen)(hb:Txt.isNum ws[nx].data.toList=false):
  Calls Tryz.prog 135 #[.pointer (some ⟨R,0,none⟩),.func (.func 139) #[] #[]] w fun e w'=>e=.returned (.int .i64 0)/\RS w' R A ws nx true/\Kept R w w':=by
 have hi:(nx:Int)<(ws.length:Int):=by omega
 go_enter Tryz.func135,Tryz.ntmps135
 go_wp2_with fail
 refine (a0X R A ws nx wr w h).mono ?_;rintro e w1 ⟨rfl,n,hw⟩;have h1:RS w1 R A ws nx wr:=by rw[hw];exact h.drewN n
 have k1:Kept R w w1:=by rw[hw];exact (Kept.refl R w).drewN n
 have c0:=h1.c0;have c1:=h1.c1;have c2:=h1.c2;have f2:=h1.f2;have cr:=h1.rows nx hlt;have hl:=h1.len;clear hw;go_wp2
 go_quiet ((go_at_call 139;exact Calls.quiet_of_same (a0m _ _ hs)))
 go_wp2;go_ret;exact⟨rfl,(h1.drewN _).bad,(k1.drewN _).setCell _ _⟩
end Go.Proofs.YtfigmlfdnickmaaGreatDoor
namespace Go.Proofs.YtfigmlfdnickmaaGreatDoor.Txt
open Go
def dmB(s:ByteArray):Bool:=decide (s.size=16/\a0V s 10=47/\a5j (s.extract 0 10)=true/\a3a (s.extract 11 16)=true)
def dmV(s:ByteArray):Int:=if dmB s then a2o (s.extract 0 10)*1440+a6J (s.extract 11 16) else 0
def b1a(s:ByteArray):ByteArray:={ data:=(Lib.cut s.data.toList [47]).fst.toArray }
def b0Z(s:ByteArray):ByteArray:={ data:=(Lib.cut s.data.toList [47]).snd.fst.toArray }
def c1N(s:ByteArray):Bool:=(Lib.cut s.data.toList [47]).snd.snd
theorem a3g(s:ByteArray)(a b:Nat):(s.extract a b).data.toList=(s.data.toList.take b).drop a:=by
 rw[ByteArray.data_extract,Array.toList_extract];simp[List.drop_take]
theorem a7x{t:ByteArray}(h:s.data.toList=t.data.toList):s=t:=by
 cases s;cases t;simp only at h;congr;exact Array.toList_inj.1 h
theorem c6F(c:UInt8)(h:dig c=true):c≠47:=by
 intro e;subst e;revert h;decide
theorem b2h(h:a6j l=true){c:UInt8}(hc:c∈l):c≠47:=c6F c (by
 unfold a6j at h;rw[List.all_eq_true] at h;exact h c hc)
theorem a7C(h:isNum l=true):a6j l=true:=((b3p l).1 h).2
theorem b3N(t:ByteArray)(h:a5j t=true):∀ j,j<10->t.data.toList[j]?≠some 47:=by
 have h:=of_decide_eq_true h;obtain⟨hs,b4,b7,n1,n2,n3,_⟩:=h;have d1:=a7C n1;have d2:=a7C n2;have d3:=a7C n3;unfold part at d1 d2 d3;rw[a3g] at d1 d2 d3;have hl:t.data.toList.length=10:=by rw[a1d];exact hs
 intro j hj he;have hjl:j<t.data.toList.length:=by omega
 have e:t.data.toList[j]=47:=by
  rw[List.getElem?_eq_getElem hjl] at he;exact Option.some.inj he
 have m1:j<4->False:=fun h4=>b2h d1 (c:=t.data.toList[j]) (by
  rw[List.mem_iff_getElem?];exact⟨j,by rw[List.getElem?_drop,List.getElem?_take];simp[h4]⟩) e
 have m2:5<=j->j<7->False:=fun h5 h7=>b2h d2 (c:=t.data.toList[j]) (by
  rw[List.mem_iff_getElem?];exact⟨j-5,by rw[List.getElem?_drop,List.getElem?_take];simp[show 5+(j-5)=j from by omega,h7]⟩) e
 have m3:8<=j->False:=fun h8=>b2h d3 (c:=t.data.toList[j]) (by
  rw[List.mem_iff_getElem?];exact⟨j-8,by rw[List.getElem?_drop,List.getElem?_take];simp[show 8+(j-8)=j from by omega,hj]⟩) e
 have g:∀ k:Nat,j=k->a0V t k=47:=fun k hk=>by
  subst hk;unfold a0V;rw[List.getD_eq_getElem?_getD,List.getElem?_eq_getElem hjl,e];rfl
 by_cases c4:j=4
 ·have:=g 4 c4;omega
 ·by_cases c7:j=7
  ·have:=g 7 c7;omega
  ·by_cases c1:j<4
   ·exact m1 c1
   ·by_cases c2:j<7
    ·exact m2 (by omega) c2
    ·exact m3 (by omega)
theorem b4P(l:List UInt8)(i:Nat):Lib.occAt l [47] i=true↔l[i]?=some 47:=by
 unfold Lib.occAt;rw[<- List.head?_drop]
 cases l.drop i with
 |nil=>simp[List.isPrefixOf]
 |cons b r=>simp[List.isPrefixOf];exact eq_comm
theorem c1m(hs:s.size=16)(hb:a0V s 10=47)(hd:a5j (s.extract 0 10)=true):b1a s=s.extract 0 10/\b0Z s=s.extract 11 16/\c1N s=true:=by
 have hl:s.data.toList.length=16:=by rw[a1d];exact hs
 have h10:s.data.toList[10]?=some 47:=by
  unfold a0V at hb;rw[List.getD_eq_getElem?_getD,List.getElem?_eq_getElem (by omega)] at hb;rw[List.getElem?_eq_getElem (by omega)];have:(s.data.toList[10]'(by omega)).toNat=47:=by simpa using (by exact_mod_cast hb:_)
  rw[show s.data.toList[10]'(by omega)=47 from UInt8.toNat_inj.1 (by simpa using this)]
 have hi:Lib.index s.data.toList [47]=10:=Lib.index_first (i:=10) (by omega) ((b4P _ _).2 h10) (fun j hj=>by
  cases ho:Lib.occAt s.data.toList [47] j with
  |false=>rfl
  |true =>
   have:=b3N _ hd j hj;rw[a3g,List.drop_zero,List.getElem?_take,if_pos hj] at this
   exact absurd ((b4P _ _).1 ho) this)
 have hc:Lib.cut s.data.toList [47]=(s.data.toList.take 10,s.data.toList.drop 11,true):=by
  unfold Lib.cut;rw[hi];rfl
 refine⟨a7x ?_,a7x ?_,?_⟩
 ·simp only[b1a,hc,a3g];simp
 ·simp only[b0Z,hc,a3g];rw[List.take_of_length_le (by omega)]
 ·simp[c1N,hc]
theorem c6H(s:ByteArray):(c1N s && a5j (b1a s) && a3a (b0Z s))=dmB s/\(dmB s=true->a2o (b1a s)*1440+a6J (b0Z s)=dmV s):=by
 have key:(c1N s && a5j (b1a s) && a3a (b0Z s))=dmB s:=by
  rw[Bool.eq_iff_iff];constructor
  ·intro h;simp only[Bool.and_eq_true] at h;obtain⟨⟨hf,hd⟩,hm⟩:=h;have s1:(b1a s).size=10:=(of_decide_eq_true hd).1;have s2:(b0Z s).size=5:=(of_decide_eq_true hm).1
   have hi:0<=Lib.index s.data.toList [47]:=by
    by_cases hi:0<=Lib.index s.data.toList [47]
    ·exact hi
    ·simp[c1N,Lib.cut,hi] at hf
   obtain⟨i,hi'⟩:=Int.eq_ofNat_of_zero_le hi;have hr:=Lib.index_room s.data.toList [47] hi
   have hc:Lib.cut s.data.toList [47]=(s.data.toList.take i,s.data.toList.drop (i+1),true):=by
    unfold Lib.cut;rw[if_pos hi,hi'];simp
   have hocc:s.data.toList[i]?=some 47:=by
    rcases Lib.index_spec s.data.toList [47] with ⟨h,_⟩|⟨j,hj,_,ho,_⟩
    ·omega
    ·rw[hi'] at hj;have:i=j:=by omega
     subst this;exact (b4P _ _).1 ho
   rw[hi'] at hr;simp only[List.length_singleton,a1d] at hr
   have e1:min i s.size=10:=by
    rw[<- a1d] at s1;simp only[b1a,hc] at s1;simpa using s1
   have e2:s.size-(i+1)=5:=by
    rw[<- a1d] at s2;simp only[b0Z,hc] at s2;simpa using s2
   have i10:i=10:=by omega
   have hs:s.size=16:=by omega
   subst i10;have a1:b1a s=s.extract 0 10:=a7x (by simp only[b1a,hc,a3g];simp);have a2:b0Z s=s.extract 11 16:=a7x (by simp only[b0Z,hc,a3g];rw[List.take_of_length_le (by rw[a1d];omega)]);rw[a1] at hd;rw[a2] at hm
   have hb:a0V s 10=47:=by
    unfold a0V;rw[List.getD_eq_getElem?_getD,hocc];rfl
   exact decide_eq_true ⟨hs,hb,hd,hm⟩
  ·intro h;obtain⟨hs,hb,hd,hm⟩:=of_decide_eq_true h;obtain⟨a1,a2,a3⟩:=c1m hs hb hd;rw[a1,a2,a3,hd,hm];rfl
 refine⟨key,fun h=>?_⟩;obtain⟨hs,hb,hd,_⟩:=of_decide_eq_true h;obtain⟨a1,a2,_⟩:=c1m hs hb hd;rw[a1,a2];simp[dmV,h]
end Go.Proofs.YtfigmlfdnickmaaGreatDoor.Txt
