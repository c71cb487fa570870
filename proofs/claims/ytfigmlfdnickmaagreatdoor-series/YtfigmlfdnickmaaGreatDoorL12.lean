import Derived.Test.YtfigmlfdnickmaaGreatDoorL11
import Derived.Deep.RegionHeld3
import Derived.Deep.AppendLies
import Derived.Deep.RegionHeld
set_option maxRecDepth 100000
set_option maxHeartbeats 8000000
variable{wr:Bool}{s:ByteArray}{B:ByteArray->Bool}{ws:List ByteArray}{acc:List Int}{l:List UInt8}{A R b k n nx o:Nat}{v:Go.Value}{w w':Go.World}
namespace Go.Proofs.YtfigmlfdnickmaaGreatDoor
open Go.RowKit
theorem c1x(x:Nat)(w:World):
  Calls Tryz.prog 81 #[.int .i32 x] w fun e w'=>e=.returned (.bool (x==32))/\∃ q,w'=w.drewN q:=by
 go_enter Tryz.func81,Tryz.ntmps81
 go_wp2;go_ret;refine⟨a2a ?_,0,rfl⟩;rw[Bool.eq_iff_iff];simp;omega
theorem b5j(args:Array Value)(w:World):Sem.run Tryz.prog (callFunc 81 args) w=.ok (.enter 81 args) w:=by kernel_rfl
theorem b9v(s:ByteArray)(w:World)(hs:s.size<=160):
  Calls Tryz.prog 61 #[.string s] w fun e w'=>∃ A,e=.returned (.slice (some ⟨A,0,none⟩) (Txt.a1v s).length (Txt.a1v s).length)/\w.heap.size<=A /\
   w'.ownsRow w.heap.size 9 1 (.slice (some ⟨A,0,none⟩) (Txt.a1v s).length (Txt.a1v s).length) (Txt.a1v s).length ((Txt.a1v s).map Value.string)/\Below w.heap.size w w':=by
 have hp:PredAtRunes Tryz.prog 81 #[] (fun r=>r==32) w:=fun W x _ _=>c1x x W
 have HP:=hide hp;clear hp
 go_enter Tryz.func61,Tryz.ntmps61
 go_wp2_with fail
 refine (Tryz.strings_FieldsFunc_runes 81 #[] b5j (fun r=>r==32) s w (by omega) (a0d HP)).mono ?_;rintro e w' ⟨A,rfl,hA,ho,hb⟩;rw[Txt.b3C] at ho ⊢;go_wp2;go_ret;exact⟨A,rfl,hA,ho,hb⟩
theorem toList_data(b:ByteArray):b.toList=b.data.toList:=Lib.toList_data b
theorem d4z{b:ByteArray}(h:b.toList.isEmpty=true):b.size=0:=by
 rw[toList_data,List.isEmpty_iff] at h;rw[<- Txt.a1d,h];rfl
theorem d1p{b:ByteArray}(h:b.toList.isEmpty=false):b.size≠0:=by
 intro e;rw[toList_data,List.isEmpty_eq_false_iff] at h;exact h (List.eq_nil_of_length_eq_zero (by rw[Txt.a1d];exact e))
theorem d0U{base e size:Nat}{xs:List Value}(h:w.ownsRow base e size v n xs)(hk:v.ownBlock=some k):base<=k:=by
 rcases h.2 with ⟨rfl,_⟩|⟨g,cap,cur,rfl,hb,_⟩
 ·simp[Value.ownBlock] at hk
 ·simp[Value.ownBlock] at hk;omega
theorem e4B:(Tryz.prog.info? 9).map (fun i=>(i.zero,i.size,i.bytes))=some (some (.string ⟨#[]⟩),1,16):=by kernel_rfl
theorem e3b(s:ByteArray)(w:World)(hs:s.size<=160):
  Calls Tryz.prog 59 #[.string s] w fun e w'=>∃ v,e=.returned v/\w'.ownsRow w.heap.size 9 1 v (Txt.a1v s).length ((Txt.a1v s).map Value.string)/\Below w.heap.size w w':=by
 obtain⟨i0,hi,hz0,hz1,hz2⟩:=info_parts e4B
 go_enter Tryz.func59,Tryz.ntmps59
 go_wp2
 go_loopw [3,4,5] (fun v c i wr=>∃ k:Nat,k<=s.size/\i=.int .i64 k/\c=.string (Txt.a8z s k)/\wr.ownsRow w.heap.size 9 1 v (Txt.b7w s k).length ((Txt.b7w s k).map Value.string)/\Below w.heap.size w wr) (fun _ _ i _=>s.size-(intOf i).toNat)
 case atStart=>exact⟨0,Nat.zero_le _,rfl,rfl,World.ownsRow_nil _ _ _ _,Below.refl _ _⟩
 case round =>
  obtain⟨k,hk,rfl,rfl,hown,hnx⟩:=hrel;have cz:=Txt.b7k s k
  by_cases hlt:k<s.size
  ·by_cases hb:Txt.a0V s k=32
   ·have hb':((s[k].toNat:Int)==32)=true:=beq_iff_eq.2 (by rw[<- Txt.a2W];exact hb);have HB:=hide (Txt.b3O s k hk hb);clear hb
    cases he:(Txt.a8z s k).toList.isEmpty
    ·have HE:Hid ((Txt.a8z s k).size≠0):=(d1p he);have hal:=Txt.b5J s k
     go_wp2_with (first
      |(at_builtin;refine wpList_append_own _ rfl _ _ 26 rfl w.heap.size 9 i0 (.string ⟨#[]⟩) 1 16 Tryz.underlying26 hi hz0 hz1 hz2 rfl (by decide) _ _ _ rfl (hown.alloc _) ⟨wr.heap.size,0,none⟩ 1 1 [.string (Txt.a8z s k)] rfl rfl ?c1 ?c2 ?c3 ?c4 ?c5 ?_)
      |go_in)
     case c1=>exact cell_one_new _ _ _
     case c2=>intro u hu;simp at hu;subst hu;rfl
     case c3=>unfold maxLen;omega
     case c4=>omega
     case c5=>have:=hnx.size;simp;omega
     intro v' w1 hown' hgrow _;go_wp2;refine⟨⟨k+1,by omega,by go_num,by rw[(a0d HB).1],?_,?_⟩,by simp[intOf];omega⟩
     ·rw[(a0d HB).2,if_neg HE.out,List.map_append,List.length_append];exact hown'
     ·refine (hnx.alloc hnx.size _).grown hgrow (by have:=hnx.size;simp;omega) (fun k hk=>?_);exact d0U hown hk
    ·have HE:Hid ((Txt.a8z s k).size=0):=(d4z he);go_wp2;exact⟨⟨k+1,by omega,by go_num,by rw[(a0d HB).1],by rw[(a0d HB).2,if_pos HE.out,List.append_nil];exact hown,hnx⟩,by simp[intOf];omega⟩
   ·have hb':((s[k].toNat:Int)==32)=false:=beq_eq_false_iff_ne.2 (by rw[<- Txt.a2W];exact hb);have HB:=hide (Txt.b7l s k hb);clear hb;go_wp2;exact⟨⟨k+1,by omega,by go_num,by rw[(a0d HB).1],by rw[(a0d HB).2];exact hown,hnx⟩,by simp[intOf];omega⟩
  ·obtain rfl:k=s.size:=by omega
   have HW:=hide (Txt.b2t s)
   cases he:(Txt.a8z s s.size).toList.isEmpty
   ·have HE:Hid ((Txt.a8z s s.size).size≠0):=(d1p he);have hal:=Txt.b5J s s.size
    go_wp2_with (first
     |(at_builtin;refine wpList_append_own _ rfl _ _ 26 rfl w.heap.size 9 i0 (.string ⟨#[]⟩) 1 16 Tryz.underlying26 hi hz0 hz1 hz2 rfl (by decide) _ _ _ rfl (hown.alloc _) ⟨wr.heap.size,0,none⟩ 1 1 [.string (Txt.a8z s s.size)] rfl rfl ?c1 ?c2 ?c3 ?c4 ?c5 ?_)
     |go_in)
    case c1=>exact cell_one_new _ _ _
    case c2=>intro u hu;simp at hu;subst hu;rfl
    case c3=>unfold maxLen;omega
    case c4=>omega
    case c5=>have:=hnx.size;simp;omega
    intro v' w1 hown' hgrow _;go_wp2;go_ret;refine⟨v',rfl,?_,?_⟩
    ·rw[a0d HW,if_neg HE.out,List.map_append,List.length_append];exact hown'
    ·refine (hnx.alloc hnx.size _).grown hgrow (by have:=hnx.size;simp;omega) (fun k hk=>?_);exact d0U hown hk
   ·have HE:Hid ((Txt.a8z s s.size).size=0):=(d4z he);go_wp2;go_ret;exact⟨_,rfl,by rw[a0d HW,if_pos HE.out,List.append_nil];exact hown,hnx⟩
def a3C(k:Nat):List UInt8:=match k with|0=>[109,111]|1=>[116,117]|2=>[119,101]|3=>[116,104]|4=>[102,114]|5=>[115,97]|_=>[115,117]
theorem b4j(hk:k<7)(h:(l==a3C k)=true)(hn:∀ j,j<k->(l==a3C j)=false):Txt.wdL l=k:=by
 have e:=beq_iff_eq.1 h;subst e;rcases (show k=0\/k=1\/k=2\/k=3\/k=4\/k=5\/k=6 by omega) with rfl|rfl|rfl|rfl|rfl|rfl|rfl <;> decide
theorem c4q(hn:∀ j,j<7->(l==a3C j)=false):Txt.wdL l=-1:=by
 have h0:=hn 0 (by omega);have h1:=hn 1 (by omega);have h2:=hn 2 (by omega);have h3:=hn 3 (by omega);have h4:=hn 4 (by omega);have h5:=hn 5 (by omega);have h6:=hn 6 (by omega);simp only[a3C] at h0 h1 h2 h3 h4 h5 h6;simp[Txt.wdL,h0,h1,h2,h3,h4,h5,h6]
theorem a3m(hn:∀ j,j<k->(l==a3C j)=false)(h:(l==a3C k)=false):∀ j,j<k+1->(l==a3C j)=false:=fun j hj=>by
 by_cases e:j=k
 ·subst e;exact h
 ·exact hn j (by omega)
def wdV(s:ByteArray):Int:=if 0<=Txt.wdL s.data.toList then Txt.wdL s.data.toList else 0
def wdB(s:ByteArray):Bool:=decide (0<=Txt.wdL s.data.toList)
theorem a8Y(s:ByteArray)(w:World)(he:Env w):
  Calls Tryz.prog 246 #[.string s] w fun e w'=>e=.returned (.tuple #[.int .i64 (wdV s),.bool (wdB s)])/\w'=w:=by
 have m0:=he.mo;have m1:=he.tu;have m2:=he.we;have m3:=he.th;have m4:=he.fr;have m5:=he.sa;have m6:=he.su;have HL:=hide (toList_data s);clear he
 go_enter Tryz.func246,Tryz.ntmps246
 go_wp2
 go_loop [4,5] (fun _ i=>∃ k:Nat,k<=7/\i=.int .i64 k/\∀ j,j<k->(s.data.toList==a3C j)=false) (fun _ i=>7-(intOf i).toNat)
 case atStart=>exact⟨0,by omega,rfl,fun j hj=>absurd hj (by omega)⟩
 case round =>
  obtain⟨k,hk,rfl,hn⟩:=hrel;have HN:=hide hn;clear hn;rcases (show k=0\/k=1\/k=2\/k=3\/k=4\/k=5\/k=6\/k=7 by omega) with rfl|rfl|rfl|rfl|rfl|rfl|rfl|rfl
  ·cases hq:([109,111]==s.toList)
   ·have HQ:Hid ((s.data.toList==a3C 0)=false):=by
     show (s.data.toList==a3C 0)=false;rw[<- a0d HL,Bool.beq_comm];exact hq
    go_wp2
    go_round
    case rel=>exact⟨1,by omega,by go_num,a3m (a0d HN) HQ.out⟩
    case measure=>simp[intOf]
   ·have HQ:Hid (Txt.wdL s.data.toList=0):=b4j (k:=0) (by omega) (by rw[<- a0d HL,Bool.beq_comm];exact hq) (a0d HN);go_wp2;go_ret2;exact⟨a0A (by rw[wdV,HQ.out];rfl) (by rw[wdB,HQ.out];rfl),rfl⟩
  ·cases hq:([116,117]==s.toList)
   ·have HQ:Hid ((s.data.toList==a3C 1)=false):=by
     show (s.data.toList==a3C 1)=false;rw[<- a0d HL,Bool.beq_comm];exact hq
    go_wp2
    go_round
    case rel=>exact⟨2,by omega,by go_num,a3m (a0d HN) HQ.out⟩
    case measure=>simp[intOf]
   ·have HQ:Hid (Txt.wdL s.data.toList=1):=b4j (k:=1) (by omega) (by rw[<- a0d HL,Bool.beq_comm];exact hq) (a0d HN);go_wp2;go_ret2;exact⟨a0A (by rw[wdV,HQ.out];rfl) (by rw[wdB,HQ.out];rfl),rfl⟩
  ·cases hq:([119,101]==s.toList)
   ·have HQ:Hid ((s.data.toList==a3C 2)=false):=by
     show (s.data.toList==a3C 2)=false;rw[<- a0d HL,Bool.beq_comm];exact hq
    go_wp2
    go_round
    case rel=>exact⟨3,by omega,by go_num,a3m (a0d HN) HQ.out⟩
    case measure=>simp[intOf]
   ·have HQ:Hid (Txt.wdL s.data.toList=2):=b4j (k:=2) (by omega) (by rw[<- a0d HL,Bool.beq_comm];exact hq) (a0d HN);go_wp2;go_ret2;exact⟨a0A (by rw[wdV,HQ.out];rfl) (by rw[wdB,HQ.out];rfl),rfl⟩
  ·cases hq:([116,104]==s.toList)
   ·have HQ:Hid ((s.data.toList==a3C 3)=false):=by
     show (s.data.toList==a3C 3)=false;rw[<- a0d HL,Bool.beq_comm];exact hq
    go_wp2
    go_round
    case rel=>exact⟨4,by omega,by go_num,a3m (a0d HN) HQ.out⟩
    case measure=>simp[intOf]
   ·have HQ:Hid (Txt.wdL s.data.toList=3):=b4j (k:=3) (by omega) (by rw[<- a0d HL,Bool.beq_comm];exact hq) (a0d HN);go_wp2;go_ret2;exact⟨a0A (by rw[wdV,HQ.out];rfl) (by rw[wdB,HQ.out];rfl),rfl⟩
  ·cases hq:([102,114]==s.toList)
   ·have HQ:Hid ((s.data.toList==a3C 4)=false):=by
     show (s.data.toList==a3C 4)=false;rw[<- a0d HL,Bool.beq_comm];exact hq
    go_wp2
    go_round
    case rel=>exact⟨5,by omega,by go_num,a3m (a0d HN) HQ.out⟩
    case measure=>simp[intOf]
   ·have HQ:Hid (Txt.wdL s.data.toList=4):=b4j (k:=4) (by omega) (by rw[<- a0d HL,Bool.beq_comm];exact hq) (a0d HN);go_wp2;go_ret2;exact⟨a0A (by rw[wdV,HQ.out];rfl) (by rw[wdB,HQ.out];rfl),rfl⟩
  ·cases hq:([115,97]==s.toList)
   ·have HQ:Hid ((s.data.toList==a3C 5)=false):=by
     show (s.data.toList==a3C 5)=false;rw[<- a0d HL,Bool.beq_comm];exact hq
    go_wp2
    go_round
    case rel=>exact⟨6,by omega,by go_num,a3m (a0d HN) HQ.out⟩
    case measure=>simp[intOf]
   ·have HQ:Hid (Txt.wdL s.data.toList=5):=b4j (k:=5) (by omega) (by rw[<- a0d HL,Bool.beq_comm];exact hq) (a0d HN);go_wp2;go_ret2;exact⟨a0A (by rw[wdV,HQ.out];rfl) (by rw[wdB,HQ.out];rfl),rfl⟩
  ·cases hq:([115,117]==s.toList)
   ·have HQ:Hid ((s.data.toList==a3C 6)=false):=by
     show (s.data.toList==a3C 6)=false;rw[<- a0d HL,Bool.beq_comm];exact hq
    go_wp2
    go_round
    case rel=>exact⟨7,by omega,by go_num,a3m (a0d HN) HQ.out⟩
    case measure=>simp[intOf]
   ·have HQ:Hid (Txt.wdL s.data.toList=6):=b4j (k:=6) (by omega) (by rw[<- a0d HL,Bool.beq_comm];exact hq) (a0d HN);go_wp2;go_ret2;exact⟨a0A (by rw[wdV,HQ.out];rfl) (by rw[wdB,HQ.out];rfl),rfl⟩
  ·have HQ:Hid (Txt.wdL s.data.toList=-1):=c4q (a0d HN);go_wp2;go_ret2;exact⟨a0A (by rw[wdV,HQ.out];rfl) (by rw[wdB,HQ.out];rfl),rfl⟩
theorem e5W(s:ByteArray)(w:World):
  Calls Tryz.prog 190 #[.string s] w fun e w'=>e=.returned (.int .i64 (Txt.wdL s.data.toList))/\Below w.heap.size w w':=by
 have HL:=hide (toList_data s);have HB:Hid (∀ o,Below w.heap.size w (w.alloc o)):=fun o=>(zr _ _).alloc (zq _) o
 go_enter Tryz.func190,Tryz.ntmps190
 go_wp2
 go_loop [4] (fun i=>∃ k:Nat,k<=7/\i=.int .i64 k/\∀ j,j<k->(s.data.toList==a3C j)=false) (fun i=>7-(intOf i).toNat)
 case atStart=>exact⟨0,by omega,rfl,fun j hj=>absurd hj (by omega)⟩
 case round =>
  obtain⟨k,hk,rfl,hn⟩:=hrel;have HN:=hide hn;clear hn;rcases (show k=0\/k=1\/k=2\/k=3\/k=4\/k=5\/k=6\/k=7 by omega) with rfl|rfl|rfl|rfl|rfl|rfl|rfl|rfl
  ·cases hq:(s.toList==[109,111])
   ·have HQ:Hid ((s.data.toList==a3C 0)=false):=by
     show (s.data.toList==a3C 0)=false;rw[<- a0d HL];exact hq
    go_wp2
    go_round
    case rel=>exact⟨1,by omega,by go_num,a3m (a0d HN) HQ.out⟩
    case measure=>simp[intOf]
   ·have HQ:Hid (Txt.wdL s.data.toList=0):=b4j (k:=0) (by omega) (by rw[<- a0d HL];exact hq) (a0d HN);go_wp2;go_ret;exact⟨a3w (by rw[HQ.out]),HB.out _⟩
  ·cases hq:(s.toList==[116,117])
   ·have HQ:Hid ((s.data.toList==a3C 1)=false):=by
     show (s.data.toList==a3C 1)=false;rw[<- a0d HL];exact hq
    go_wp2
    go_round
    case rel=>exact⟨2,by omega,by go_num,a3m (a0d HN) HQ.out⟩
    case measure=>simp[intOf]
   ·have HQ:Hid (Txt.wdL s.data.toList=1):=b4j (k:=1) (by omega) (by rw[<- a0d HL];exact hq) (a0d HN);go_wp2;go_ret;exact⟨a3w (by rw[HQ.out]),HB.out _⟩
  ·cases hq:(s.toList==[119,101])
   ·have HQ:Hid ((s.data.toList==a3C 2)=false):=by
     show (s.data.toList==a3C 2)=false;rw[<- a0d HL];exact hq
    go_wp2
    go_round
    case rel=>exact⟨3,by omega,by go_num,a3m (a0d HN) HQ.out⟩
    case measure=>simp[intOf]
   ·have HQ:Hid (Txt.wdL s.data.toList=2):=b4j (k:=2) (by omega) (by rw[<- a0d HL];exact hq) (a0d HN);go_wp2;go_ret;exact⟨a3w (by rw[HQ.out]),HB.out _⟩
  ·cases hq:(s.toList==[116,104])
   ·have HQ:Hid ((s.data.toList==a3C 3)=false):=by
     show (s.data.toList==a3C 3)=false;rw[<- a0d HL];exact hq
    go_wp2
    go_round
    case rel=>exact⟨4,by omega,by go_num,a3m (a0d HN) HQ.out⟩
    case measure=>simp[intOf]
   ·have HQ:Hid (Txt.wdL s.data.toList=3):=b4j (k:=3) (by omega) (by rw[<- a0d HL];exact hq) (a0d HN);go_wp2;go_ret;exact⟨a3w (by rw[HQ.out]),HB.out _⟩
  ·cases hq:(s.toList==[102,114])
   ·have HQ:Hid ((s.data.toList==a3C 4)=false):=by
     show (s.data.toList==a3C 4)=false;rw[<- a0d HL];exact hq
    go_wp2
    go_round
    case rel=>exact⟨5,by omega,by go_num,a3m (a0d HN) HQ.out⟩
    case measure=>simp[intOf]
   ·have HQ:Hid (Txt.wdL s.data.toList=4):=b4j (k:=4) (by omega) (by rw[<- a0d HL];exact hq) (a0d HN);go_wp2;go_ret;exact⟨a3w (by rw[HQ.out]),HB.out _⟩
  ·cases hq:(s.toList==[115,97])
   ·have HQ:Hid ((s.data.toList==a3C 5)=false):=by
     show (s.data.toList==a3C 5)=false;rw[<- a0d HL];exact hq
    go_wp2
    go_round
    case rel=>exact⟨6,by omega,by go_num,a3m (a0d HN) HQ.out⟩
    case measure=>simp[intOf]
   ·have HQ:Hid (Txt.wdL s.data.toList=5):=b4j (k:=5) (by omega) (by rw[<- a0d HL];exact hq) (a0d HN);go_wp2;go_ret;exact⟨a3w (by rw[HQ.out]),HB.out _⟩
  ·cases hq:(s.toList==[115,117])
   ·have HQ:Hid ((s.data.toList==a3C 6)=false):=by
     show (s.data.toList==a3C 6)=false;rw[<- a0d HL];exact hq
    go_wp2
    go_round
    case rel=>exact⟨7,by omega,by go_num,a3m (a0d HN) HQ.out⟩
    case measure=>simp[intOf]
   ·have HQ:Hid (Txt.wdL s.data.toList=6):=b4j (k:=6) (by omega) (by rw[<- a0d HL];exact hq) (a0d HN);go_wp2;go_ret;exact⟨a3w (by rw[HQ.out]),HB.out _⟩
  ·have HQ:Hid (Txt.wdL s.data.toList=-1):=c4q (a0d HN);go_wp2;go_ret;exact⟨a3w (by rw[HQ.out]),HB.out _⟩
structure DS(w:World)(b:Nat)(acc:List Int):Prop where
 c0:w.cell? ⟨b,0,none⟩=some (.bool (isd acc 0))
 c1:w.cell? ⟨b,1,none⟩=some (.bool (isd acc 1))
 c2:w.cell? ⟨b,2,none⟩=some (.bool (isd acc 2))
 c3:w.cell? ⟨b,3,none⟩=some (.bool (isd acc 3))
 c4:w.cell? ⟨b,4,none⟩=some (.bool (isd acc 4))
 c5:w.cell? ⟨b,5,none⟩=some (.bool (isd acc 5))
 c6:w.cell? ⟨b,6,none⟩=some (.bool (isd acc 6))
 f:∀ j:Nat,w.frozen? ⟨b,j,none⟩=false
theorem DS.later{wx:World}(h:DS w b acc)(hb:Below w.heap.size w wx):DS wx b acc :=
 ⟨cell_later hb h.c0,cell_later hb h.c1,cell_later hb h.c2,cell_later hb h.c3,cell_later hb h.c4,cell_later hb h.c5,cell_later hb h.c6,fun j=>(hb.frozen (p:=⟨b,j,none⟩) (show b<w.heap.size from World.block_lt_of_cell? _ ⟨b,0,none⟩ h.c0)).trans (h.f j)⟩
theorem DS.at(h:DS w b acc)(d:Int)(h0:0<=d)(h6:d<7):w.cell? ⟨b,d.toNat,none⟩=some (.bool (isd acc d)):=by
 rcases (show d=0\/d=1\/d=2\/d=3\/d=4\/d=5\/d=6 by omega) with rfl|rfl|rfl|rfl|rfl|rfl|rfl
 ·exact h.c0
 ·exact h.c1
 ·exact h.c2
 ·exact h.c3
 ·exact h.c4
 ·exact h.c5
 ·exact h.c6
theorem a8U(d:Int)(h0:0<=d){u:Value}(hk:w.cell? ⟨b,k,none⟩=some (.bool (isd acc k)))(_hu:u=.bool true):(w.setCell ⟨b,d.toNat,none⟩ (.bool true)).cell? ⟨b,k,none⟩=some (.bool (isd (d :: acc) k)):=by
 by_cases e:d.toNat=k
 ·have ed:d=(k:Int):=by omega
  rw[e,World.cell?_setCell_same _ _ _ hk];simp[isd,ed]
 ·rw[World.cell?_setCell_other _ _ _ _ (by simp),hk];have ne:(k:Int)≠d:=by omega
  simp[isd,ne]
theorem DS.set(h:DS w b acc)(d:Int)(h0:0<=d):DS (w.setCell ⟨b,d.toNat,none⟩ (.bool true)) b (d :: acc) :=
 ⟨a8U (k:=0) d h0 h.c0 rfl,a8U (k:=1) d h0 h.c1 rfl,a8U (k:=2) d h0 h.c2 rfl,a8U (k:=3) d h0 h.c3 rfl,a8U (k:=4) d h0 h.c4 rfl,a8U (k:=5) d h0 h.c5 rfl,a8U (k:=6) d h0 h.c6 rfl,fun j=>(zF ..).trans (h.f j)⟩
theorem c3s{b':Nat}(h:DS w b acc)(_hne:b'≠b):DS (w.setCell ⟨b',o,none⟩ v) b acc:=by
 have g:∀ j:Nat,(w.setCell ⟨b',o,none⟩ v).cell? ⟨b,j,none⟩=w.cell? ⟨b,j,none⟩:=fun j=>zS _ _ _ _ (by simp)
 exact⟨(g 0).trans h.c0,(g 1).trans h.c1,(g 2).trans h.c2,(g 3).trans h.c3,(g 4).trans h.c4,(g 5).trans h.c5,(g 6).trans h.c6,fun j=>(zF ..).trans (h.f j)⟩
def a3E(acc:List Int):Value:=.agg #[.bool (isd acc 0),.bool (isd acc 1),.bool (isd acc 2),.bool (isd acc 3),.bool (isd acc 4),.bool (isd acc 5),.bool (isd acc 6)]
def g1I(s:ByteArray)(k:Nat)(acc:List Int):Prop :=
 (3*k<s.size/\Txt.onW s=Txt.onC (s.data.toList.drop (3*k)) acc)\/(3*k=s.size+1/\Txt.onW s=some acc)
theorem e0F(s:ByteArray)(k:Nat)(h:s.size % 3=2)(hk:3*k<s.size):
  (3*k+2=s.size/\s.data.toList.drop (3*k)=Txt.part s (3*k) (3*k+2)/\(Txt.part s (3*k) (3*k+2)).length=2) \/
  (3*k+3<s.size/\∃ a b c,s.data.toList.drop (3*k)=a :: b :: c :: s.data.toList.drop (3*(k+1))/\Txt.part s (3*k) (3*k+2)=[a,b]/\(c.toNat:Int)=Txt.a0V s (3*k+2)):=by
 have hl:=Txt.a1d s
 have hp:Txt.part s (3*k) (3*k+2)=(s.data.toList.drop (3*k)).take 2:=by
  unfold Txt.part;rw[Txt.a3g,List.drop_take];congr 1;omega
 by_cases h2:3*k+2=s.size
 ·left;have e:(s.data.toList.drop (3*k)).length=2:=by rw[List.length_drop];omega
  refine⟨h2,?_,?_⟩
  ·rw[hp,List.take_of_length_le (by omega)]
  ·rw[hp,List.length_take];omega
 ·right;have hlt:3*k+3<s.size:=by omega
  refine⟨hlt,s.data.toList[3*k]'(by omega),s.data.toList[3*k+1]'(by omega),s.data.toList[3*k+2]'(by omega),?_,?_,?_⟩
  ·rw[List.drop_eq_getElem_cons (by omega),List.drop_eq_getElem_cons (i:=3*k+1) (by omega),List.drop_eq_getElem_cons (i:=3*k+1+1) (by omega),show 3*k+1+1+1=3*(k+1) from by omega]
  ·rw[hp,List.drop_eq_getElem_cons (by omega),List.drop_eq_getElem_cons (i:=3*k+1) (by omega)];rfl
  ·unfold Txt.a0V;rw[List.getD_eq_getElem?_getD,List.getElem?_eq_getElem (by omega)];rfl
theorem f1q(s:ByteArray)(h:s.size % 3=2):g1I s 0 []:=.inl ⟨by omega,rfl⟩
theorem f8F(h:g1I s k acc)(h3:s.size % 3=2)(hk:3*k<s.size)(hd:Txt.wdL (Txt.part s (3*k) (3*k+2))<0\/isd acc (Txt.wdL (Txt.part s (3*k) (3*k+2)))=true\/(3*k+2<s.size/\Txt.a0V s (3*k+2)≠44)):Txt.onW s=none:=by
 rcases h with ⟨_,h⟩|⟨h,_⟩
 ·rw[h]
  have bad:Txt.wdL (Txt.part s (3*k) (3*k+2))<0\/isd acc (Txt.wdL (Txt.part s (3*k) (3*k+2)))=true->Txt.a4D acc (Txt.wdL (Txt.part s (3*k) (3*k+2)))=none:=fun q=>by
   unfold Txt.a4D;rw[if_neg];rintro ⟨q1,q2⟩;rcases q with q|q
   ·omega
   ·unfold isd at q;rw[q] at q2;cases q2
  rcases e0F s k h3 hk with ⟨e1,e2,e3⟩|⟨e1,a,b,c,e2,e3,e4⟩
  ·rw[e2];rcases hd with hd|hd|hd
   all_goals first|omega|skip
   all_goals
    obtain⟨x,y,hxy⟩:∃ x y,Txt.part s (3*k) (3*k+2)=[x,y]:=by
     match hm:Txt.part s (3*k) (3*k+2),e3 with
     |[x,y],_=>exact⟨x,y,rfl⟩
    have:=bad (by first|exact .inl hd|exact .inr hd);rw[hxy] at this ⊢;exact this
  ·rw[e2,Txt.onC]
   split
   ·rename_i hc
    rcases hd with hd|hd|hd
    ·have:=bad (.inl hd);rw[e3] at this;rw[this];rfl
    ·have:=bad (.inr hd);rw[e3] at this;rw[this];rfl
    ·subst hc;exfalso;apply hd.2;rw[<- e4];rfl
   ·rfl
 ·omega
theorem f4y(h:g1I s k acc)(h3:s.size % 3=2)(hk:3*k<s.size)(h0:0<=Txt.wdL (Txt.part s (3*k) (3*k+2)))(hm:isd acc (Txt.wdL (Txt.part s (3*k) (3*k+2)))=false)(hs:3*k+2<s.size->Txt.a0V s (3*k+2)=44):g1I s (k+1) (Txt.wdL (Txt.part s (3*k) (3*k+2)) :: acc):=by
 have st:Txt.a4D acc (Txt.wdL (Txt.part s (3*k) (3*k+2)))=some (Txt.wdL (Txt.part s (3*k) (3*k+2)) :: acc):=by
  unfold Txt.a4D;rw[if_pos ⟨h0,hm⟩]
 rcases h with ⟨_,h⟩|⟨h,_⟩
 ·rcases e0F s k h3 hk with ⟨e1,e2,e3⟩|⟨e1,a,b,c,e2,e3,e4⟩
  ·right;refine⟨by omega,?_⟩;rw[h,e2]
   obtain⟨x,y,hxy⟩:∃ x y,Txt.part s (3*k) (3*k+2)=[x,y]:=by
    match hm:Txt.part s (3*k) (3*k+2),e3 with
    |[x,y],_=>exact⟨x,y,rfl⟩
   rw[hxy] at st ⊢;exact st
  ·left;refine⟨by omega,?_⟩
   have hc:c=44:=by
    have:=hs (by omega);rw[<- e4] at this;exact UInt8.toNat_inj.1 (by simpa using (by omega:(c.toNat)=44))
   rw[h,e2,Txt.onC,if_pos hc,<- e3,st];rfl
 ·omega
theorem g0u(s:ByteArray)(w:World)(hm:s.size<=160):
  Calls Tryz.prog 129 #[.string s] w fun e w'=>(∃ acc,e=.returned (.tuple #[a3E acc,.bool (Txt.onB s)])/\(Txt.onB s=true->Txt.onW s=some acc))/\Below w.heap.size w w':=by
 by_cases h3:s.size % 3=2
 ·have h3':(((s.size:Int) % 3) != 2)=false:=b5z (by omega)
  go_enter Tryz.func129,Tryz.ntmps129
  go_wp2;obtain⟨W,hW⟩:∃ W,W=(w.alloc (.cells #[.bool false,.bool false,.bool false,.bool false,.bool false,.bool false,.bool false] 159)).alloc (.cells #[.bool false,.bool false,.bool false,.bool false,.bool false,.bool false,.bool false] 159):=⟨_,rfl⟩;rw[<- hW];have hB:Below w.heap.size w W:=by rw[hW];exact ((zr _ _).alloc (zq _) _).alloc (by simp) _
  have hZ:w.heap.size+2=W.heap.size:=by rw[hW];simp
  have dR:DS W w.heap.size []:=by
   rw[hW];refine⟨?_,?_,?_,?_,?_,?_,?_,fun j=>?_⟩ <;> simp[isd]
  have dD:DS W (w.heap.size+1) []:=by
   rw[hW];refine⟨?_,?_,?_,?_,?_,?_,?_,fun j=>?_⟩ <;> simp[isd]
  clear hW
  go_loopw [5,6] (fun i _ wx=>∃ (k:Nat) (acc:List Int),3*k<=s.size+1/\i=.int .i64 ((3*k:Nat):Int)/\g1I s k acc/\DS wx (w.heap.size+1) acc/\DS wx w.heap.size []/\Below w.heap.size w wx/\w.heap.size+2<=wx.heap.size) (fun i _ _=>s.size+3-(intOf i).toNat)
  case atStart=>exact⟨0,[],by omega,rfl,f1q s h3,dD,dR,hB,by omega⟩
  case round =>
   obtain⟨k,acc,hk,rfl,hat,hD,hR,hnx,hsz⟩:=hrel
   by_cases hlt:3*k<s.size
   ·have hd:=Txt.c3Q (Txt.part s (3*k) (3*k+2));have HAT:=hide hat;clear hat
    go_wp2_with fail
    refine (e5W _ _).mono ?_;rintro e w1 ⟨rfl,hbw⟩;rw[show (s.extract (3*k) (3*k+2)).data.toList=Txt.part s (3*k) (3*k+2) from rfl];have hb1:Below w.heap.size w w1:=hnx.trans (hbw.mono hnx.size);have hs1:w.heap.size+2<=w1.heap.size:=Nat.le_trans hsz hbw.size;have hD1:=hD.later hbw;have hR1:=hR.later hbw;have q0:=hD1.c0;have q1:=hD1.c1;have q2:=hD1.c2;have q3:=hD1.c3;have q4:=hD1.c4;have q5:=hD1.c5;have q6:=hD1.c6;have r0:=hR1.c0;have r1:=hR1.c1;have r2:=hR1.c2;have r3:=hR1.c3;have r4:=hR1.c4;have r5:=hR1.c5;have r6:=hR1.c6;have fR:=hR1.f;have fD:=hD1.f;obtain⟨d,hdd⟩:∃ d,d=Txt.wdL (Txt.part s (3*k) (3*k+2)):=⟨_,rfl⟩;have HBAD:=hide (fun q=>f8F (a0d HAT) h3 hlt q);have HNEXT:=hide (fun q1 q2 q3=>f4y (a0d HAT) h3 hlt q1 q2 q3);rw[<- hdd] at hd HBAD HNEXT ⊢;clear hdd hD hR hnx hsz hbw hB hZ dR dD
    by_cases hneg:d<0
    ·have HN:Hid (Txt.onB s=false):=by show Txt.onB s=false;unfold Txt.onB;rw[a0d HBAD (.inl hneg)];rfl
     go_wp2;refine bodyPost_ret (v:=.tuple #[a3E acc,.bool false]) (by simp[results,Tryz.results129,go_sem,a3E,r0,r1,r2,r3,r4,r5,r6]) rfl ⟨⟨acc,?_,?_⟩,?_⟩
     ·rw[HN.out]
     ·intro h;rw[HN.out] at h;cases h
     ·exact (((((((hb1.setCell (zq _) _).setCell (zq _) _).setCell (zq _) _).setCell (zq _) _).setCell (zq _) _).setCell (zq _) _).setCell (zq _) _)
    ·have hc:=hD1.at d (by omega) (by omega)
     cases hmk:isd acc d
     ·rw[hmk] at hc
      by_cases h2:3*k+2<s.size
      ·cases hsep:(((s[3*k+2]'h2).toNat:Int) != 44)
       ·have HX:Hid (g1I s (k+1) (d :: acc)):=a0d HNEXT (by omega) hmk (fun _=>by
         rw[Txt.a2W s _ h2];simpa using hsep)
        go_wp2;refine⟨⟨k+1,d :: acc,by omega,by go_num,HX.out,?_,?_,?_,?_⟩,by simp[intOf];omega⟩
        ·exact hD1.set d (by omega)
        ·exact c3s hR1 (by omega)
        ·exact hb1.setCell (by simp) _
        ·simp;omega
       ·have HN:Hid (Txt.onB s=false):=by
         show Txt.onB s=false;unfold Txt.onB;rw[a0d HBAD (.inr (.inr ⟨h2,by rw[Txt.a2W s _ h2];simpa using hsep⟩))];rfl
        go_wp2;refine bodyPost_ret (v:=.tuple #[a3E acc,.bool false]) (by simp[results,Tryz.results129,go_sem,a3E,r0,r1,r2,r3,r4,r5,r6]) rfl ⟨⟨acc,?_,?_⟩,?_⟩
        ·rw[HN.out]
        ·intro h;rw[HN.out] at h;cases h
        ·exact (((((((hb1.setCell (zq _) _).setCell (zq _) _).setCell (zq _) _).setCell (zq _) _).setCell (zq _) _).setCell (zq _) _).setCell (zq _) _)
      ·have HX:Hid (g1I s (k+1) (d :: acc)):=a0d HNEXT (by omega) hmk (fun h=>absurd h h2);go_wp2;refine⟨⟨k+1,d :: acc,by omega,by go_num,HX.out,?_,?_,?_,?_⟩,by simp[intOf];omega⟩
       ·exact hD1.set d (by omega)
       ·exact c3s hR1 (by omega)
       ·exact hb1.setCell (by simp) _
       ·simp;omega
     ·rw[hmk] at hc;have HN:Hid (Txt.onB s=false):=by show Txt.onB s=false;unfold Txt.onB;rw[a0d HBAD (.inr (.inl hmk))];rfl
      go_wp2;refine bodyPost_ret (v:=.tuple #[a3E acc,.bool false]) (by simp[results,Tryz.results129,go_sem,a3E,r0,r1,r2,r3,r4,r5,r6]) rfl ⟨⟨acc,?_,?_⟩,?_⟩
      ·rw[HN.out]
      ·intro h;rw[HN.out] at h;cases h
      ·exact (((((((hb1.setCell (zq _) _).setCell (zq _) _).setCell (zq _) _).setCell (zq _) _).setCell (zq _) _).setCell (zq _) _).setCell (zq _) _)
   ·have HF:Hid (Txt.onW s=some acc):=by
     rcases hat with ⟨h,_⟩|⟨_,h⟩
     ·omega
     ·exact h
    have HN:Hid (Txt.onB s=true):=by show Txt.onB s=true;unfold Txt.onB;rw[HF.out];rfl
    clear hat;have q0:=hD.c0;have q1:=hD.c1;have q2:=hD.c2;have q3:=hD.c3;have q4:=hD.c4;have q5:=hD.c5;have q6:=hD.c6;have r0:=hR.c0;have r1:=hR.c1;have r2:=hR.c2;have r3:=hR.c3;have r4:=hR.c4;have r5:=hR.c5;have r6:=hR.c6;have fR:=hR.f;go_wp2;refine bodyPost_ret (v:=.tuple #[a3E acc,.bool true]) (by simp[results,Tryz.results129,go_sem,a3E,r0,r1,r2,r3,r4,r5,r6]) rfl ⟨⟨acc,?_,?_⟩,?_⟩
    ·rw[HN.out]
    ·intro _;exact HF.out
    ·exact (((((((hnx.setCell (zq _) _).setCell (zq _) _).setCell (zq _) _).setCell (zq _) _).setCell (zq _) _).setCell (zq _) _).setCell (zq _) _)
 ·have h3':(((s.size:Int) % 3) != 2)=true:=b5y (by omega)
  have HN:Hid (Txt.onB s=false):=by
   show Txt.onB s=false;unfold Txt.onB
   cases ho:Txt.onW s with
   |none=>rfl
   |some r=>have:=Txt.f4x _ _ _ ho;rw[Txt.a1d] at this;omega
  clear h3
  go_enter Tryz.func129,Tryz.ntmps129
  go_wp2;refine bodyPost_ret (v:=.tuple #[a3E [],.bool false]) (by simp[results,Tryz.results129,go_sem,a3E,isd]) rfl ⟨⟨[],?_,?_⟩,?_⟩
  ·rw[HN.out]
  ·intro h;rw[HN.out] at h;cases h
  ·exact ((zr _ _).alloc (zq _) _).alloc (by simp) _
def pcs(s:ByteArray):List ByteArray:=Lib.splitB ⟨#[44]⟩ 0 (Lib.countB s ⟨#[44]⟩) s
theorem b9O(s:ByteArray):(pcs s).length=Lib.countB s ⟨#[44]⟩+1:=Lib.splitB_all ⟨#[44]⟩ (by decide) 0 _ s rfl
theorem c6b(s:ByteArray):Txt.onP ((pcs s).map (·.data.toList)) []=Txt.onW s:=Txt.b9L s
theorem b5r(s:ByteArray)(h:s.size<=160):(pcs s).length<=161:=by
 rw[b9O];have:=Lib.countB_le ⟨#[44]⟩ (by decide) s.size s (zq _);omega
theorem b7Y(w:World)(l:List ByteArray)(t:TypeId)(j:Nat)(x:ByteArray)(h:l[j]?=some x):(w.alloc (.cells (l.map Value.string).toArray t)).cell? ⟨w.heap.size,j,none⟩=some (.string x):=by
 rw[World.cell?_alloc_at _ _ _ _ rfl];simp[h]
def b2W(s:ByteArray)(k:Nat)(acc:List Int):Prop:=Txt.onW s=Txt.onP (((pcs s).map (·.data.toList)).drop k) acc
theorem b0D(h:b2W s k acc)(hk:k<(pcs s).length):Txt.onW s=(Txt.a4D acc (Txt.wdL (pcs s)[k].data.toList)).bind (Txt.onP (((pcs s).map (·.data.toList)).drop (k+1))):=by
 rw[h,List.drop_eq_getElem_cons (by simpa using hk)];simp[Txt.onP]
theorem b9X(h:b2W s k acc)(hk:k<(pcs s).length)(hd:Txt.wdL (pcs s)[k].data.toList<0\/isd acc (Txt.wdL (pcs s)[k].data.toList)=true):Txt.onB s=false:=by
 have e:=b0D h hk
 have bad:Txt.a4D acc (Txt.wdL (pcs s)[k].data.toList)=none:=by
  unfold Txt.a4D;rw[if_neg];rintro ⟨q1,q2⟩;rcases hd with q|q
  ·omega
  ·unfold isd at q;rw[q] at q2;cases q2
 rw[bad] at e;unfold Txt.onB;rw[e];rfl
theorem b8a(h:b2W s k acc)(hk:k<(pcs s).length)(h0:0<=Txt.wdL (pcs s)[k].data.toList)(hm:isd acc (Txt.wdL (pcs s)[k].data.toList)=false):b2W s (k+1) (Txt.wdL (pcs s)[k].data.toList :: acc):=by
 have e:=b0D h hk
 have st:Txt.a4D acc (Txt.wdL (pcs s)[k].data.toList)=some (Txt.wdL (pcs s)[k].data.toList :: acc):=by
  unfold Txt.a4D;rw[if_pos ⟨h0,hm⟩]
 rw[st] at e;exact e
theorem b9W(h:b2W s k acc)(hk:(pcs s).length<=k):Txt.onW s=some acc:=by
 unfold b2W at h;rw[List.drop_of_length_le (by simpa using hk)] at h;exact h
theorem b0z(s:ByteArray)(w:World)(he:Env w)(hm:s.size<=160):
  Calls Tryz.prog 194 #[.string s] w fun e w'=>(∃ acc,e=.returned (.tuple #[a3E acc,.bool (Txt.onB s)])/\(Txt.onB s=true->Txt.onW s=some acc))/\Below w.heap.size w w':=by
 obtain⟨mx,hmx⟩:=he.c5L;have HE:=hide he;have hz:=he.size;clear he;have hcs:=b5r s hm
 go_enter Tryz.func194,Tryz.ntmps194
 go_wp2_with fail
 obtain⟨W,hW⟩:∃ W,W=(w.alloc (.cells #[.bool false,.bool false,.bool false,.bool false,.bool false,.bool false,.bool false] 160)).alloc (.cells #[.bool false,.bool false,.bool false,.bool false,.bool false,.bool false,.bool false] 160):=⟨_,rfl⟩;rw[<- hW];have hB:Below w.heap.size w W:=by rw[hW];exact ((zr _ _).alloc (zq _) _).alloc (by simp) _
 have hZ:w.heap.size+2=W.heap.size:=by rw[hW];simp
 have dR:DS W w.heap.size []:=by
  rw[hW];refine⟨?_,?_,?_,?_,?_,?_,?_,fun j=>?_⟩ <;> simp[isd]
 have dD:DS W (w.heap.size+1) []:=by
  rw[hW];refine⟨?_,?_,?_,?_,?_,?_,?_,fun j=>?_⟩ <;> simp[isd]
 have hmW:=cell_later hB hmx;clear hW;refine (Tryz.strings_Split s ⟨#[44]⟩ mx W (by omega) hmW (by decide)).mono ?_;rintro e w1 ⟨rfl,hw1⟩;have hP:∀ j x,(pcs s)[j]?=some x->w1.cell? ⟨W.heap.size,j,none⟩=some (.string x):=fun j x hx=>by rw[hw1];exact b7Y W (pcs s) _ j x hx
 have hb1:Below W.heap.size W w1:=by rw[hw1];exact (zr _ _).alloc (zq _) _
 have hZ1:W.heap.size<w1.heap.size:=by rw[hw1];simp
 clear hw1;rw[show Lib.countB s ⟨#[44]⟩+1=(pcs s).length from (b9O s).symm];have HP:=hide hP;have HEW:=hide (((a0d HE).later hB).later hb1);have dR1:=dR.later hb1;have dD1:=dD.later hb1;have hbw:Below w.heap.size w w1:=hB.trans (hb1.mono (by omega));clear hP dR dD hB hmW hmx HEW;go_wp2
 go_loopw [6,7,8,12] (fun _ _ _ i wx=>∃ (k:Nat) (acc:List Int),k<=(pcs s).length/\i=.int .i64 k/\b2W s k acc/\DS wx (w.heap.size+1) acc/\DS wx w.heap.size []/\Below w.heap.size w wx/\w1.heap.size<=wx.heap.size/\(∀ j x,(pcs s)[j]?=some x->wx.cell? ⟨W.heap.size,j,none⟩=some (.string x))) (fun _ _ _ i _=>(pcs s).length-(intOf i).toNat)
 case atStart=>exact⟨0,[],Nat.zero_le _,rfl,(c6b s).symm,dD1,dR1,hbw,Nat.le_refl _,a0d HP⟩
 case round =>
  obtain⟨k,acc,hk,rfl,hat,hD,hR,hnx,hsz,hpc⟩:=hrel;have HPC:=hide hpc;clear hpc;have hEr:=hide ((a0d HE).later hnx)
  by_cases hlt:k<(pcs s).length
  ·have hc:=a0d HPC k (pcs s)[k] (by simp[hlt]);have hi:(k:Int)<((pcs s).length:Int):=by omega
   have q0:=hD.c0;have q1:=hD.c1;have q2:=hD.c2;have q3:=hD.c3;have q4:=hD.c4;have q5:=hD.c5;have q6:=hD.c6;have r0:=hR.c0;have r1:=hR.c1;have r2:=hR.c2;have r3:=hR.c3;have r4:=hR.c4;have r5:=hR.c5;have r6:=hR.c6;have fR:=hR.f;have fD:=hD.f;have hd:=Txt.c3Q (pcs s)[k].data.toList;have HBAD:=hide (fun q=>b9X hat hlt q);have HNEXT:=hide (fun q1 q2=>b8a hat hlt q1 q2);clear hat
   go_wp2_with fail
   refine (a8Y _ _ (a0d hEr)).mono ?_;rintro e w2 ⟨rfl,rfl⟩;obtain⟨d,hdd⟩:∃ d,d=Txt.wdL (pcs s)[k].data.toList:=⟨_,rfl⟩;have HV:Hid (wdV (pcs s)[k]=if 0<=d then d else 0):=by show wdV (pcs s)[k]=_;rw[hdd];rfl
   have HW:Hid (wdB (pcs s)[k]=decide (0<=d)):=by show wdB (pcs s)[k]=_;rw[hdd];rfl
   rw[<- hdd] at hd HBAD HNEXT;clear hdd
   by_cases hneg:d<0
   ·have HN:Hid (Txt.onB s=false):=a0d HBAD (.inl hneg);have HW2:Hid (wdB (pcs s)[k]=false):=HW.out.trans (decide_eq_false (by omega));rw[HW2.out];go_wp2;refine bodyPost_ret (v:=.tuple #[a3E [],.bool false]) (by simp[results,Tryz.results194,go_sem,a3E,isd,r0,r1,r2,r3,r4,r5,r6]) rfl ⟨⟨[],?_,?_⟩,?_⟩
    ·rw[HN.out]
    ·intro h;rw[HN.out] at h;cases h
    ·exact (((((((hnx.setCell (zq _) _).setCell (zq _) _).setCell (zq _) _).setCell (zq _) _).setCell (zq _) _).setCell (zq _) _).setCell (zq _) _)
   ·have HV2:Hid (wdV (pcs s)[k]=d):=HV.out.trans (if_pos (by omega));have HW2:Hid (wdB (pcs s)[k]=true):=HW.out.trans (decide_eq_true (by omega));rw[HV2.out,HW2.out];have hcd:=hD.at d (by omega) (by omega)
    cases hmk:isd acc d
    ·rw[hmk] at hcd;have HX:Hid (b2W s (k+1) (d :: acc)):=a0d HNEXT (by omega) hmk;go_wp2;refine⟨⟨k+1,d :: acc,by omega,by go_num,HX.out,?_,?_,?_,?_,?_⟩,by simp[intOf];omega⟩
     ·exact hD.set d (by omega)
     ·exact c3s hR (by omega)
     ·exact hnx.setCell (by simp) _
     ·simp;omega
     ·intro j x hx;exact (zS _ _ _ _ (by simp)).trans (a0d HPC j x hx)
    ·rw[hmk] at hcd;have HN:Hid (Txt.onB s=false):=a0d HBAD (.inr hmk);go_wp2;refine bodyPost_ret (v:=.tuple #[a3E [],.bool false]) (by simp[results,Tryz.results194,go_sem,a3E,isd,r0,r1,r2,r3,r4,r5,r6]) rfl ⟨⟨[],?_,?_⟩,?_⟩
     ·rw[HN.out]
     ·intro h;rw[HN.out] at h;cases h
     ·exact (((((((hnx.setCell (zq _) _).setCell (zq _) _).setCell (zq _) _).setCell (zq _) _).setCell (zq _) _).setCell (zq _) _).setCell (zq _) _)
  ·have HF:Hid (Txt.onW s=some acc):=b9W hat (by omega);have HN:Hid (Txt.onB s=true):=by show Txt.onB s=true;unfold Txt.onB;rw[HF.out];rfl
   clear hat;have q0:=hD.c0;have q1:=hD.c1;have q2:=hD.c2;have q3:=hD.c3;have q4:=hD.c4;have q5:=hD.c5;have q6:=hD.c6;have r0:=hR.c0;have r1:=hR.c1;have r2:=hR.c2;have r3:=hR.c3;have r4:=hR.c4;have r5:=hR.c5;have r6:=hR.c6;have fR:=hR.f;go_wp2;refine bodyPost_ret (v:=.tuple #[a3E acc,.bool true]) (by simp[results,Tryz.results194,go_sem,a3E,r0,r1,r2,r3,r4,r5,r6]) rfl ⟨⟨acc,?_,?_⟩,?_⟩
   ·rw[HN.out]
   ·intro _;exact HF.out
   ·exact (((((((hnx.setCell (zq _) _).setCell (zq _) _).setCell (zq _) _).setCell (zq _) _).setCell (zq _) _).setCell (zq _) _).setCell (zq _) _)
theorem Env.kept(h:Env w)(k:Kept R w w')(hR:10<=R):Env w':=by
 have hb:Below 10 w w':=k.below hR h.size;have hc:∀ (b o:Nat) (v:Value),b<10->w.cell? ⟨b,o,none⟩=some v->w'.cell? ⟨b,o,none⟩=some v:=fun b o v hb' e=>(hb.cell (p:=⟨b,o,none⟩) hb').trans e
 obtain⟨m,hm⟩:=h.c5L;obtain⟨c0,c1,c2,c3,c4,c5,c6,c7,c8,c9,c10,c11⟩:=h.tab;refine⟨⟨hc _ _ _ (by omega) c0,hc _ _ _ (by omega) c1,hc _ _ _ (by omega) c2,hc _ _ _ (by omega) c3,hc _ _ _ (by omega) c4,hc _ _ _ (by omega) c5,hc _ _ _ (by omega) c6,hc _ _ _ (by omega) c7,hc _ _ _ (by omega) c8,hc _ _ _ (by omega) c9,hc _ _ _ (by omega) c10,hc _ _ _ (by omega) c11⟩,⟨m,hc _ _ _ (by omega) hm⟩,?_,Nat.le_trans h.size k.size,hc _ _ _ (by omega) h.mo,hc _ _ _ (by omega) h.tu,hc _ _ _ (by omega) h.we,hc _ _ _ (by omega) h.th,hc _ _ _ (by omega) h.fr,hc _ _ _ (by omega) h.sa,hc _ _ _ (by omega) h.su⟩;have hp:=h.pow;unfold Lib.TabIs World.var? at hp ⊢;simp only[c6q,Option.bind_some] at hp ⊢;rw[hb.block 0 (by omega)];exact hp
def a0K(s:ByteArray)(lo hi:Int):Bool:=Txt.isNum s.data.toList && decide (lo<=Txt.a2f s.data.toList) && decide (Txt.a2f s.data.toList<=hi)
theorem b0o(s:ByteArray)(L M:Nat)(lo hi:Int)(w:World)(hs:s.size<=160)(cl:w.cell? ⟨L,0,none⟩=some (.int .i64 lo))(cm:w.cell? ⟨M,0,none⟩=some (.int .i64 hi)):
  Calls Tryz.prog 191 #[.string s,.pointer (some ⟨L,0,none⟩),.pointer (some ⟨M,0,none⟩)] w fun e w'=>e=.returned (.tuple #[.int .i64 (Txt.a2f s.data.toList),.bool (a0K s lo hi)])/\∃ n,w'=w.drewN n:=by
 have hm:s.size<=maxLen:=by unfold maxLen;omega
 cases hn:Txt.isNum s.data.toList
 ·go_enter Tryz.func191,Tryz.ntmps191
  go_wp2_with fail
  refine (a0m s w hm).mono ?_;rintro e w1 ⟨rfl,rfl⟩;rw[hn];go_wp2
  go_quiet (fail)
  go_wp2;go_ret2;exact⟨a0A rfl (by simp[a0K,hn]),_,rfl⟩
 ·by_cases g1:lo<=Txt.a2f s.data.toList
  ·by_cases g2:Txt.a2f s.data.toList<=hi
   ·go_enter Tryz.func191,Tryz.ntmps191
    go_wp2_with fail
    refine (a0m s w hm).mono ?_;rintro e w1 ⟨rfl,rfl⟩;rw[hn];go_wp2
    go_quiet (fail)
    go_wp2;go_ret2;exact⟨a0A rfl (by simp[a0K,hn,g1,g2]),_,rfl⟩
   ·have g2':decide (Txt.a2f s.data.toList<=hi)=false:=decide_eq_false g2
    go_enter Tryz.func191,Tryz.ntmps191
    go_wp2_with fail
    refine (a0m s w hm).mono ?_;rintro e w1 ⟨rfl,rfl⟩;rw[hn];go_wp2
    go_quiet (fail)
    go_wp2;go_ret2;exact⟨a0A rfl (by simp[a0K,hn,g1,g2']),_,rfl⟩
  ·have g1':decide (lo<=Txt.a2f s.data.toList)=false:=decide_eq_false g1
   go_enter Tryz.func191,Tryz.ntmps191
   go_wp2_with fail
   refine (a0m s w hm).mono ?_;rintro e w1 ⟨rfl,rfl⟩;rw[hn];go_wp2
   go_quiet (fail)
   go_wp2;go_ret2;exact⟨a0A rfl (by simp[a0K,hn,g1']),_,rfl⟩
theorem b4w(R A:Nat)(ws:List ByteArray)(nx:Nat)(wr:Bool)(w:World)(h:RS w R A ws nx wr)(he:Env w)(hm:a1b ws.length nx wr=true)(hlt:nx<ws.length)(hb:Txt.a2y ws[nx]=true):
  Calls Tryz.prog 135 #[.pointer (some ⟨R,0,none⟩),.func (.func 136) #[] #[]] w fun e w'=>e=.returned (.int .i64 (b0a ws[nx]))/\RS w' R A ws (nx+1) wr/\Kept R w w':=by
 have hi:(nx:Int)<(ws.length:Int):=by omega
 have hsz:ws[nx].size<=160:=h.short _ (zg hlt);have HSZ:=hide hsz;clear hsz;have HE:=hide he;clear he
 go_enter Tryz.func135,Tryz.ntmps135
 go_wp2_with fail
 refine (a0X R A ws nx wr w h).mono ?_;rintro e w1 ⟨rfl,n,hw⟩;have h1:RS w1 R A ws nx wr:=by rw[hw];exact h.drewN n
 have k1:Kept R w w1:=by rw[hw];exact (Kept.refl R w).drewN n
 have HE1:Hid (Env w1):=by show Env w1;rw[hw];exact (a0d HE).drewN n
 have c0:=h1.c0;have c1:=h1.c1;have f1:=h1.f1;have cr:=h1.rows nx hlt;have hl:=h1.len;clear hw;go_wp2
 go_quiet ((go_at_call 136;exact Calls.quiet_of_same (a8b _ _ ((a0d HE1).drewN _).tab (a0d HSZ))))
 go_wp2;go_ret;exact⟨rfl,(h1.drewN _).step hlt,(k1.drewN _).setCell _ _⟩
theorem b4x(R A:Nat)(ws:List ByteArray)(nx:Nat)(wr:Bool)(w:World)(h:RS w R A ws nx wr)(he:Env w)(hm:a1b ws.length nx wr=true)(hlt:nx<ws.length)(hb:Txt.a2y ws[nx]=false):
  Calls Tryz.prog 135 #[.pointer (some ⟨R,0,none⟩),.func (.func 136) #[] #[]] w fun e w'=>e=.returned (.int .i64 (0))/\RS w' R A ws nx true/\Kept R w w':=by
 have hi:(nx:Int)<(ws.length:Int):=by omega
 have hsz:ws[nx].size<=160:=h.short _ (zg hlt);have HSZ:=hide hsz;clear hsz;have HE:=hide he;clear he
 go_enter Tryz.func135,Tryz.ntmps135
 go_wp2_with fail
 refine (a0X R A ws nx wr w h).mono ?_;rintro e w1 ⟨rfl,n,hw⟩;have h1:RS w1 R A ws nx wr:=by rw[hw];exact h.drewN n
 have k1:Kept R w w1:=by rw[hw];exact (Kept.refl R w).drewN n
 have HE1:Hid (Env w1):=by show Env w1;rw[hw];exact (a0d HE).drewN n
 have c0:=h1.c0;have c1:=h1.c1;have c2:=h1.c2;have f2:=h1.f2;have cr:=h1.rows nx hlt;have hl:=h1.len;clear hw;go_wp2
 go_quiet ((go_at_call 136;exact Calls.quiet_of_same (a8b _ _ ((a0d HE1).drewN _).tab (a0d HSZ))))
 go_wp2;go_ret;exact⟨rfl,(h1.drewN _).bad,(k1.drewN _).setCell _ _⟩
theorem small(h:n<=160):n<=maxLen:=by unfold maxLen;omega
theorem b1u(R A:Nat)(ws:List ByteArray)(nx:Nat)(wr:Bool)(w:World)(h:RS w R A ws nx wr)(hm:a1b ws.length nx wr=true)(hlt:nx<ws.length)(hb:Txt.a3a ws[nx]=true):
  Calls Tryz.prog 135 #[.pointer (some ⟨R,0,none⟩),.func (.func 137) #[] #[]] w fun e w'=>e=.returned (.int .i64 (Txt.a6J ws[nx]))/\RS w' R A ws (nx+1) wr/\Kept R w w':=by
 have hi:(nx:Int)<(ws.length:Int):=by omega
 have hsz:ws[nx].size<=160:=h.short _ (zg hlt);have HSZ:=hide hsz;clear hsz
 go_enter Tryz.func135,Tryz.ntmps135
 go_wp2_with fail
 refine (a0X R A ws nx wr w h).mono ?_;rintro e w1 ⟨rfl,n,hw⟩;have h1:RS w1 R A ws nx wr:=by rw[hw];exact h.drewN n
 have k1:Kept R w w1:=by rw[hw];exact (Kept.refl R w).drewN n
 have c0:=h1.c0;have c1:=h1.c1;have f1:=h1.f1;have cr:=h1.rows nx hlt;have hl:=h1.len;clear hw;go_wp2
 go_quiet ((go_at_call 137;exact Calls.quiet_of_same (a2m _ _ (small (a0d HSZ)))))
 go_wp2;go_ret;exact⟨rfl,(h1.drewN _).step hlt,(k1.drewN _).setCell _ _⟩
theorem b1v(R A:Nat)(ws:List ByteArray)(nx:Nat)(wr:Bool)(w:World)(h:RS w R A ws nx wr)(hm:a1b ws.length nx wr=true)(hlt:nx<ws.length)(hb:Txt.a3a ws[nx]=false):
  Calls Tryz.prog 135 #[.pointer (some ⟨R,0,none⟩),.func (.func 137) #[] #[]] w fun e w'=>e=.returned (.int .i64 (0))/\RS w' R A ws nx true/\Kept R w w':=by
 have hi:(nx:Int)<(ws.length:Int):=by omega
 have hsz:ws[nx].size<=160:=h.short _ (zg hlt);have HSZ:=hide hsz;clear hsz
 go_enter Tryz.func135,Tryz.ntmps135
 go_wp2_with fail
 refine (a0X R A ws nx wr w h).mono ?_;rintro e w1 ⟨rfl,n,hw⟩;have h1:RS w1 R A ws nx wr:=by rw[hw];exact h.drewN n
 have k1:Kept R w w1:=by rw[hw];exact (Kept.refl R w).drewN n
 have c0:=h1.c0;have c1:=h1.c1;have c2:=h1.c2;have f2:=h1.f2;have cr:=h1.rows nx hlt;have hl:=h1.len;clear hw;go_wp2
 go_quiet ((go_at_call 137;exact Calls.quiet_of_same (a2m _ _ (small (a0d HSZ)))))
 go_wp2;go_ret;exact⟨rfl,(h1.drewN _).bad,(k1.drewN _).setCell _ _⟩
theorem b4p(R A:Nat)(ws:List ByteArray)(nx:Nat)(wr:Bool)(w:World)(h:RS w R A ws nx wr)(he:Env w)(hm:a1b ws.length nx wr=true)(hlt:nx<ws.length)(hb:a0n ws[nx]=true):
  Calls Tryz.prog 135 #[.pointer (some ⟨R,0,none⟩),.func (.func 140) #[] #[]] w fun e w'=>e=.returned (.int .i64 (a1J ws[nx]))/\RS w' R A ws (nx+1) wr/\Kept R w w':=by
 have hi:(nx:Int)<(ws.length:Int):=by omega
 have hsz:ws[nx].size<=160:=h.short _ (zg hlt);have HSZ:=hide hsz;clear hsz;have HE:=hide he;clear he
 go_enter Tryz.func135,Tryz.ntmps135
 go_wp2_with fail
 refine (a0X R A ws nx wr w h).mono ?_;rintro e w1 ⟨rfl,n,hw⟩;have h1:RS w1 R A ws nx wr:=by rw[hw];exact h.drewN n
 have k1:Kept R w w1:=by rw[hw];exact (Kept.refl R w).drewN n
 have HE1:Hid (Env w1):=by show Env w1;rw[hw];exact (a0d HE).drewN n
 have c0:=h1.c0;have c1:=h1.c1;have f1:=h1.f1;have cr:=h1.rows nx hlt;have hl:=h1.len;clear hw;go_wp2
 go_quiet ((go_at_call 140;exact Calls.quiet_of (a7Z _ _ ((a0d HE1).drewN _) (a0d HSZ))))
 go_wp2;go_ret;exact⟨rfl,(h1.drewN _).step hlt,(k1.drewN _).setCell _ _⟩
theorem b4q(R A:Nat)(ws:List ByteArray)(nx:Nat)(wr:Bool)(w:World)(h:RS w R A ws nx wr)(he:Env w)(hm:a1b ws.length nx wr=true)(hlt:nx<ws.length)(hb:a0n ws[nx]=false):
  Calls Tryz.prog 135 #[.pointer (some ⟨R,0,none⟩),.func (.func 140) #[] #[]] w fun e w'=>e=.returned (.int .i64 (0))/\RS w' R A ws nx true/\Kept R w w':=by
 have hi:(nx:Int)<(ws.length:Int):=by omega
 have hsz:ws[nx].size<=160:=h.short _ (zg hlt);have HSZ:=hide hsz;clear hsz;have HE:=hide he;clear he
 go_enter Tryz.func135,Tryz.ntmps135
 go_wp2_with fail
 refine (a0X R A ws nx wr w h).mono ?_;rintro e w1 ⟨rfl,n,hw⟩;have h1:RS w1 R A ws nx wr:=by rw[hw];exact h.drewN n
 have k1:Kept R w w1:=by rw[hw];exact (Kept.refl R w).drewN n
 have HE1:Hid (Env w1):=by show Env w1;rw[hw];exact (a0d HE).drewN n
 have c0:=h1.c0;have c1:=h1.c1;have c2:=h1.c2;have f2:=h1.f2;have cr:=h1.rows nx hlt;have hl:=h1.len;clear hw;go_wp2
 go_quiet ((go_at_call 140;exact Calls.quiet_of (a7Z _ _ ((a0d HE1).drewN _) (a0d HSZ))))
 go_wp2;go_ret;exact⟨rfl,(h1.drewN _).bad,(k1.drewN _).setCell _ _⟩
theorem b1r(L M:Nat)(lo hi:Int)(R A:Nat)(ws:List ByteArray)(nx:Nat)(wr:Bool)(w:World)(h:RS w R A ws nx wr)(cl:w.cell? ⟨L,0,none⟩=some (.int .i64 lo))(cm:w.cell? ⟨M,0,none⟩=some (.int .i64 hi))(hm:a1b ws.length nx wr=true)(hlt:nx<ws.length)(hb:a0K ws[nx] lo hi=true):
  Calls Tryz.prog 135 #[.pointer (some ⟨R,0,none⟩),.func (.func 191) #[] #[.pointer (some ⟨L,0,none⟩),.pointer (some ⟨M,0,none⟩)]] w fun e w'=>e=.returned (.int .i64 (Txt.a2f ws[nx].data.toList))/\RS w' R A ws (nx+1) wr/\Kept R w w':=by
 have hib:(nx:Int)<(ws.length:Int):=by omega
 have hsz:ws[nx].size<=160:=h.short _ (zg hlt);have HSZ:=hide hsz;clear hsz
 go_enter Tryz.func135,Tryz.ntmps135
 go_wp2_with fail
 refine (a0X R A ws nx wr w h).mono ?_;rintro e w1 ⟨rfl,n,hw⟩;have h1:RS w1 R A ws nx wr:=by rw[hw];exact h.drewN n
 have k1:Kept R w w1:=by rw[hw];exact (Kept.refl R w).drewN n
 have cl1:Hid (w1.cell? ⟨L,0,none⟩=some (.int .i64 lo)):=by show w1.cell? _=_;rw[hw];exact cl
 have cm1:Hid (w1.cell? ⟨M,0,none⟩=some (.int .i64 hi)):=by show w1.cell? _=_;rw[hw];exact cm
 clear cl cm;have c0:=h1.c0;have c1:=h1.c1;have f1:=h1.f1;have cr:=h1.rows nx hlt;have hl:=h1.len;clear hw;go_wp2
 go_quiet ((go_at_call 191;exact Calls.quiet_of (b0o _ L M lo hi _ (a0d HSZ) (a0d cl1) (a0d cm1))))
 go_wp2;go_ret;exact⟨rfl,(h1.drewN _).step hlt,(k1.drewN _).setCell _ _⟩
theorem b1s(L M:Nat)(lo hi:Int)(R A:Nat)(ws:List ByteArray)(nx:Nat)(wr:Bool)(w:World)(h:RS w R A ws nx wr)(cl:w.cell? ⟨L,0,none⟩=some (.int .i64 lo))(cm:w.cell? ⟨M,0,none⟩=some (.int .i64 hi))(hm:a1b ws.length nx wr=true)(hlt:nx<ws.length)(hb:a0K ws[nx] lo hi=false):
  Calls Tryz.prog 135 #[.pointer (some ⟨R,0,none⟩),.func (.func 191) #[] #[.pointer (some ⟨L,0,none⟩),.pointer (some ⟨M,0,none⟩)]] w fun e w'=>e=.returned (.int .i64 (0))/\RS w' R A ws nx true/\Kept R w w':=by
 have hib:(nx:Int)<(ws.length:Int):=by omega
 have hsz:ws[nx].size<=160:=h.short _ (zg hlt);have HSZ:=hide hsz;clear hsz
 go_enter Tryz.func135,Tryz.ntmps135
 go_wp2_with fail
 refine (a0X R A ws nx wr w h).mono ?_;rintro e w1 ⟨rfl,n,hw⟩;have h1:RS w1 R A ws nx wr:=by rw[hw];exact h.drewN n
 have k1:Kept R w w1:=by rw[hw];exact (Kept.refl R w).drewN n
 have cl1:Hid (w1.cell? ⟨L,0,none⟩=some (.int .i64 lo)):=by show w1.cell? _=_;rw[hw];exact cl
 have cm1:Hid (w1.cell? ⟨M,0,none⟩=some (.int .i64 hi)):=by show w1.cell? _=_;rw[hw];exact cm
 clear cl cm;have c0:=h1.c0;have c1:=h1.c1;have c2:=h1.c2;have f2:=h1.f2;have cr:=h1.rows nx hlt;have hl:=h1.len;clear hw;go_wp2
 go_quiet ((go_at_call 191;exact Calls.quiet_of (b0o _ L M lo hi _ (a0d HSZ) (a0d cl1) (a0d cm1))))
 go_wp2;go_ret;exact⟨rfl,(h1.drewN _).bad,(k1.drewN _).setCell _ _⟩
theorem b4r(f:Value)(R A:Nat)(ws:List ByteArray)(nx:Nat)(wr:Bool)(w:World)(h:RS w R A ws nx wr)(hm:a1b ws.length nx wr=false):
  Calls Tryz.prog 130 #[.pointer (some ⟨R,0,none⟩),f] w fun e w'=>e=.returned (.string ⟨#[]⟩)/\RS w' R A ws nx true/\Kept R w w':=by
 go_enter Tryz.func130,Tryz.ntmps130
 go_wp2_with fail
 refine (a0X R A ws nx wr w h).mono ?_;rintro e w1 ⟨rfl,n,hw⟩;have h1:RS w1 R A ws nx wr:=by rw[hw];exact h.drewN n
 have k1:Kept R w w1:=by rw[hw];exact (Kept.refl R w).drewN n
 have c2:=h1.c2;have f2:=h1.f2;clear hw;go_wp2;go_ret;exact⟨rfl,h1.bad,k1.setCell _ _⟩
theorem b4u(R A:Nat)(ws:List ByteArray)(nx:Nat)(wr:Bool)(w:World)(h:RS w R A ws nx wr)(hm:a1b ws.length nx wr=true)(hlt:nx<ws.length)(hb:Txt.a1j ws[nx].data.toList=true):
  Calls Tryz.prog 130 #[.pointer (some ⟨R,0,none⟩),.func (.func 131) #[] #[]] w fun e w'=>e=.returned (.string (b4S ws[nx]))/\RS w' R A ws (nx+1) wr/\Kept R w w':=by
 have hi:(nx:Int)<(ws.length:Int):=by omega
 have hi0:(0:Int)<=(nx:Int):=Int.natCast_nonneg _;have hsz:ws[nx].size<=160:=h.short _ (zg hlt);have HSZ:=hide hsz;clear hsz
 go_enter Tryz.func130,Tryz.ntmps130
 go_wp2_with fail
 refine (a0X R A ws nx wr w h).mono ?_;rintro e w1 ⟨rfl,n,hw⟩;have h1:RS w1 R A ws nx wr:=by rw[hw];exact h.drewN n
 have k1:Kept R w w1:=by rw[hw];exact (Kept.refl R w).drewN n
 have c0:=h1.c0;have c1:=h1.c1;have cr:=h1.rows nx hlt;have hl:=h1.len;clear hw
 go_wp2_with fail
 go_region_held3 (fun w'=>w'.cell? ⟨R,0,none⟩=some (.slice (some ⟨A,0,none⟩) ws.length ws.length)/\w'.cell? ⟨R,1,none⟩=some (.int .i64 nx)/\w'.cell? ⟨A,nx,none⟩=some (.string ws[nx]))
  (first
   |go_keep
   |(
    go_split_ands
    refine⟨?_,?_,?_⟩
    ·exact cell_later hbf (by assumption)
    ·exact cell_later hbf (by assumption)
    ·exact cell_later hbf (by assumption)))
  ((go_at_call 131;refine (a8a _ _ (a0d HSZ)).mono ?_;rintro e w4 ⟨rfl,hbf⟩))
 have hbf':Below w1.heap.size w1 w4:=⟨hbf.os,hbf.tape,hbf.output,hbf.size,hbf.block⟩;have h4:=h1.of_below hbf';have k4:=k1.trans (Kept.of_below hbf');have d1:=h4.c1;have d2:=h4.c2;have g1:=h4.f1;have g2:=h4.f2;clear c0 c1 cr;go_wp2;go_ret;exact⟨rfl,h4.step hlt,k4.setCell _ _⟩
theorem b4v(R A:Nat)(ws:List ByteArray)(nx:Nat)(wr:Bool)(w:World)(h:RS w R A ws nx wr)(hm:a1b ws.length nx wr=true)(hlt:nx<ws.length)(hb:Txt.a1j ws[nx].data.toList=false):
  Calls Tryz.prog 130 #[.pointer (some ⟨R,0,none⟩),.func (.func 131) #[] #[]] w fun e w'=>e=.returned (.string ⟨#[]⟩)/\RS w' R A ws nx true/\Kept R w w':=by
 have hi:(nx:Int)<(ws.length:Int):=by omega
 have hi0:(0:Int)<=(nx:Int):=Int.natCast_nonneg _;have hsz:ws[nx].size<=160:=h.short _ (zg hlt);have HSZ:=hide hsz;clear hsz
 go_enter Tryz.func130,Tryz.ntmps130
 go_wp2_with fail
 refine (a0X R A ws nx wr w h).mono ?_;rintro e w1 ⟨rfl,n,hw⟩;have h1:RS w1 R A ws nx wr:=by rw[hw];exact h.drewN n
 have k1:Kept R w w1:=by rw[hw];exact (Kept.refl R w).drewN n
 have c0:=h1.c0;have c1:=h1.c1;have cr:=h1.rows nx hlt;have hl:=h1.len;clear hw
 go_wp2_with fail
 go_region_held3 (fun w'=>w'.cell? ⟨R,0,none⟩=some (.slice (some ⟨A,0,none⟩) ws.length ws.length)/\w'.cell? ⟨R,1,none⟩=some (.int .i64 nx)/\w'.cell? ⟨A,nx,none⟩=some (.string ws[nx]))
  (first
   |go_keep
   |(
    go_split_ands
    refine⟨?_,?_,?_⟩
    ·exact cell_later hbf (by assumption)
    ·exact cell_later hbf (by assumption)
    ·exact cell_later hbf (by assumption)))
  ((go_at_call 131;refine (a8a _ _ (a0d HSZ)).mono ?_;rintro e w4 ⟨rfl,hbf⟩))
 have hbf':Below w1.heap.size w1 w4:=⟨hbf.os,hbf.tape,hbf.output,hbf.size,hbf.block⟩;have h4:=h1.of_below hbf';have k4:=k1.trans (Kept.of_below hbf');have d1:=h4.c1;have d2:=h4.c2;have g1:=h4.f1;have g2:=h4.f2;clear c0 c1 cr;go_wp2;go_ret;exact⟨rfl,h4.bad,k4.setCell _ _⟩
theorem a8I(h:a1b ws.length nx wr=false):tkB ws nx wr B=false:=by simp[tkB,h]
theorem a7h{b:Bool}(h:a1b ws.length nx wr=true)(hlt:nx<ws.length)(hb:B ws[nx]=b):tkB ws nx wr B=b:=by
 rw[tkB,h,a5f ws nx hlt,hb,Bool.true_and]
theorem b4t(R A:Nat)(ws:List ByteArray)(nx:Nat)(wr:Bool)(w:World)(h:RS w R A ws nx wr):
  Calls Tryz.prog 135 #[.pointer (some ⟨R,0,none⟩),.func (.func 139) #[] #[]] w fun e w'=>e=.returned (.int .i64 (tkV ws nx wr (fun s=>Txt.isNum s.data.toList) (fun s=>Txt.a2f s.data.toList)))/\RS w' R A ws (tkN ws nx wr (fun s=>Txt.isNum s.data.toList)) (tkW ws nx wr (fun s=>Txt.isNum s.data.toList))/\Kept R w w':=by
 cases hm:a1b ws.length nx wr
 ·have t:=a8I (B:=(fun s=>Txt.isNum s.data.toList)) hm;rw[tkV,tkN,tkW,t];exact a3s _ R A ws nx wr w h hm
 ·have hlt:=a4q hm
  cases hb:(fun s=>Txt.isNum s.data.toList) ws[nx]
  ·have t:=a7h (B:=(fun s=>Txt.isNum s.data.toList)) hm hlt hb;rw[tkV,tkN,tkW,t];exact b7O R A ws nx wr w h hm hlt (small (h.short _ (zg hlt))) hb
  ·have t:=a7h (B:=(fun s=>Txt.isNum s.data.toList)) hm hlt hb;rw[tkV,tkN,tkW,t,a5f ws nx hlt];exact b7N R A ws nx wr w h hm hlt (small (h.short _ (zg hlt))) hb
theorem a7W(R A:Nat)(ws:List ByteArray)(nx:Nat)(wr:Bool)(w:World)(h:RS w R A ws nx wr)(he:Env w):
  Calls Tryz.prog 135 #[.pointer (some ⟨R,0,none⟩),.func (.func 136) #[] #[]] w fun e w'=>e=.returned (.int .i64 (tkV ws nx wr Txt.a2y b0a))/\RS w' R A ws (tkN ws nx wr Txt.a2y) (tkW ws nx wr Txt.a2y)/\Kept R w w':=by
 cases hm:a1b ws.length nx wr
 ·have t:=a8I (B:=Txt.a2y) hm;rw[tkV,tkN,tkW,t];exact a3s _ R A ws nx wr w h hm
 ·have hlt:=a4q hm
  cases hb:Txt.a2y ws[nx]
  ·have t:=a7h (B:=Txt.a2y) hm hlt hb;rw[tkV,tkN,tkW,t];exact b4x R A ws nx wr w h he hm hlt hb
  ·have t:=a7h (B:=Txt.a2y) hm hlt hb;rw[tkV,tkN,tkW,t,a5f ws nx hlt];exact b4w R A ws nx wr w h he hm hlt hb
theorem b0c(R A:Nat)(ws:List ByteArray)(nx:Nat)(wr:Bool)(w:World)(h:RS w R A ws nx wr):
  Calls Tryz.prog 135 #[.pointer (some ⟨R,0,none⟩),.func (.func 137) #[] #[]] w fun e w'=>e=.returned (.int .i64 (tkV ws nx wr Txt.a3a Txt.a6J))/\RS w' R A ws (tkN ws nx wr Txt.a3a) (tkW ws nx wr Txt.a3a)/\Kept R w w':=by
 cases hm:a1b ws.length nx wr
 ·have t:=a8I (B:=Txt.a3a) hm;rw[tkV,tkN,tkW,t];exact a3s _ R A ws nx wr w h hm
 ·have hlt:=a4q hm
  cases hb:Txt.a3a ws[nx]
  ·have t:=a7h (B:=Txt.a3a) hm hlt hb;rw[tkV,tkN,tkW,t];exact b1v R A ws nx wr w h hm hlt hb
  ·have t:=a7h (B:=Txt.a3a) hm hlt hb;rw[tkV,tkN,tkW,t,a5f ws nx hlt];exact b1u R A ws nx wr w h hm hlt hb
theorem a7V(R A:Nat)(ws:List ByteArray)(nx:Nat)(wr:Bool)(w:World)(h:RS w R A ws nx wr)(he:Env w):
  Calls Tryz.prog 135 #[.pointer (some ⟨R,0,none⟩),.func (.func 140) #[] #[]] w fun e w'=>e=.returned (.int .i64 (tkV ws nx wr a0n a1J))/\RS w' R A ws (tkN ws nx wr a0n) (tkW ws nx wr a0n)/\Kept R w w':=by
 cases hm:a1b ws.length nx wr
 ·have t:=a8I (B:=a0n) hm;rw[tkV,tkN,tkW,t];exact a3s _ R A ws nx wr w h hm
 ·have hlt:=a4q hm
  cases hb:a0n ws[nx]
  ·have t:=a7h (B:=a0n) hm hlt hb;rw[tkV,tkN,tkW,t];exact b4q R A ws nx wr w h he hm hlt hb
  ·have t:=a7h (B:=a0n) hm hlt hb;rw[tkV,tkN,tkW,t,a5f ws nx hlt];exact b4p R A ws nx wr w h he hm hlt hb
theorem b0b(L M:Nat)(lo hi:Int)(R A:Nat)(ws:List ByteArray)(nx:Nat)(wr:Bool)(w:World)(h:RS w R A ws nx wr)(cl:w.cell? ⟨L,0,none⟩=some (.int .i64 lo))(cm:w.cell? ⟨M,0,none⟩=some (.int .i64 hi)):
  Calls Tryz.prog 135 #[.pointer (some ⟨R,0,none⟩),.func (.func 191) #[] #[.pointer (some ⟨L,0,none⟩),.pointer (some ⟨M,0,none⟩)]] w fun e w'=>e=.returned (.int .i64 (tkV ws nx wr (fun s=>a0K s lo hi) (fun s=>Txt.a2f s.data.toList)))/\RS w' R A ws (tkN ws nx wr (fun s=>a0K s lo hi)) (tkW ws nx wr (fun s=>a0K s lo hi))/\Kept R w w':=by
 cases hm:a1b ws.length nx wr
 ·have t:=a8I (B:=(fun s=>a0K s lo hi)) hm;rw[tkV,tkN,tkW,t];exact a3s _ R A ws nx wr w h hm
 ·have hlt:=a4q hm
  cases hb:(fun s=>a0K s lo hi) ws[nx]
  ·have t:=a7h (B:=(fun s=>a0K s lo hi)) hm hlt hb;rw[tkV,tkN,tkW,t];exact b1s L M lo hi R A ws nx wr w h cl cm hm hlt hb
  ·have t:=a7h (B:=(fun s=>a0K s lo hi)) hm hlt hb;rw[tkV,tkN,tkW,t,a5f ws nx hlt];exact b1r L M lo hi R A ws nx wr w h cl cm hm hlt hb
def tkS(ws:List ByteArray)(nx:Nat)(wr:Bool):ByteArray:=if tkB ws nx wr (fun s=>Txt.a1j s.data.toList) then b4S (ws.getD nx ByteArray.empty) else ⟨#[]⟩
theorem b2E(R A:Nat)(ws:List ByteArray)(nx:Nat)(wr:Bool)(w:World)(h:RS w R A ws nx wr):
  Calls Tryz.prog 130 #[.pointer (some ⟨R,0,none⟩),.func (.func 131) #[] #[]] w fun e w'=>e=.returned (.string (tkS ws nx wr))/\RS w' R A ws (tkN ws nx wr (fun s=>Txt.a1j s.data.toList)) (tkW ws nx wr (fun s=>Txt.a1j s.data.toList))/\Kept R w w':=by
 cases hm:a1b ws.length nx wr
 ·have t:=a8I (B:=fun s=>Txt.a1j s.data.toList) hm;rw[tkS,tkN,tkW,t];exact b4r _ R A ws nx wr w h hm
 ·have hlt:=a4q hm
  cases hb:Txt.a1j ws[nx].data.toList
  ·have t:=a7h (B:=fun s=>Txt.a1j s.data.toList) hm hlt hb;rw[tkS,tkN,tkW,t];exact b4v R A ws nx wr w h hm hlt hb
  ·have t:=a7h (B:=fun s=>Txt.a1j s.data.toList) hm hlt hb;rw[tkS,tkN,tkW,t,a5f ws nx hlt];exact b4u R A ws nx wr w h hm hlt hb
theorem a4n(lo hi:Int)(R A:Nat)(ws:List ByteArray)(nx:Nat)(wr:Bool)(w:World)(h:RS w R A ws nx wr):
  Calls Tryz.prog 132 #[.pointer (some ⟨R,0,none⟩),.int .i64 lo,.int .i64 hi] w fun e w'=>e=.returned (.int .i64 (tkV ws nx wr (fun s=>a0K s lo hi) (fun s=>Txt.a2f s.data.toList)))/\RS w' R A ws (tkN ws nx wr (fun s=>a0K s lo hi)) (tkW ws nx wr (fun s=>a0K s lo hi))/\Kept R w w':=by
 go_enter Tryz.func132,Tryz.ntmps132
 go_wp2_with fail
 obtain⟨X,hX⟩:∃ X,X=(w.alloc (.cells #[.int .i64 lo] 3)).alloc (.cells #[.int .i64 hi] 3):=⟨_,rfl⟩;rw[<- hX];have hb:Below w.heap.size w X:=by rw[hX];exact ((zr _ _).alloc (zq _) _).alloc (by simp) _
 have cl:X.cell? ⟨w.heap.size,0,none⟩=some (.int .i64 lo):=by rw[hX];simp
 have cm:X.cell? ⟨w.heap.size+1,0,none⟩=some (.int .i64 hi):=by rw[hX];simp
 clear hX;refine (b0b w.heap.size (w.heap.size+1) lo hi R A ws nx wr X (h.of_below hb) cl cm).mono ?_;rintro e w1 ⟨rfl,h1,k1⟩;have kk:=(Kept.of_below (R:=R) hb).trans k1;go_wp2;go_ret;exact⟨rfl,h1,kk⟩
theorem a3v(R A:Nat)(ws:List ByteArray)(nx:Nat)(wr:Bool)(w:World)(h:RS w R A ws nx wr):
  Calls Tryz.prog 83 #[.pointer (some ⟨R,0,none⟩)] w fun e w'=>e=.returned (.string (tkS ws nx wr))/\RS w' R A ws (tkN ws nx wr (fun s=>Txt.a1j s.data.toList)) (tkW ws nx wr (fun s=>Txt.a1j s.data.toList))/\Kept R w w':=by
 go_enter Tryz.func83,Tryz.ntmps83
 go_wp2_with fail
 refine (b2E R A ws nx wr w h).mono ?_;rintro e w1 ⟨rfl,h1,k1⟩;go_wp2;go_ret;exact⟨rfl,h1,k1⟩
theorem b9J(R A:Nat)(ws:List ByteArray)(nx:Nat)(wr:Bool)(w:World)(h:RS w R A ws nx wr):
  Calls Tryz.prog 88 #[.pointer (some ⟨R,0,none⟩)] w fun e w'=>e=.returned (.int .i64 (tkV ws nx wr (fun s=>Txt.isNum s.data.toList) (fun s=>Txt.a2f s.data.toList)))/\RS w' R A ws (tkN ws nx wr (fun s=>Txt.isNum s.data.toList)) (tkW ws nx wr (fun s=>Txt.isNum s.data.toList))/\Kept R w w':=by
 go_enter Tryz.func88,Tryz.ntmps88
 go_wp2_with fail
 refine (b4t R A ws nx wr w h).mono ?_;rintro e w1 ⟨rfl,h1,k1⟩;go_wp2;go_ret;exact⟨rfl,h1,k1⟩
theorem a5v(R A:Nat)(ws:List ByteArray)(nx:Nat)(wr:Bool)(w:World)(h:RS w R A ws nx wr):
  Calls Tryz.prog 84 #[.pointer (some ⟨R,0,none⟩)] w fun e w'=>e=.returned (.int .i64 (tkV ws nx wr (fun s=>a0K s 1 9) (fun s=>Txt.a2f s.data.toList)))/\RS w' R A ws (tkN ws nx wr (fun s=>a0K s 1 9)) (tkW ws nx wr (fun s=>a0K s 1 9))/\Kept R w w':=by
 go_enter Tryz.func84,Tryz.ntmps84
 go_wp2_with fail
 refine (a4n 1 9 R A ws nx wr w h).mono ?_;rintro e w1 ⟨rfl,h1,k1⟩;go_wp2;go_ret;exact⟨rfl,h1,k1⟩
theorem a2S(R A:Nat)(ws:List ByteArray)(nx:Nat)(wr:Bool)(w:World)(h:RS w R A ws nx wr):
  Calls Tryz.prog 86 #[.pointer (some ⟨R,0,none⟩)] w fun e w'=>e=.returned (.int .i64 (tkV ws nx wr (fun s=>a0K s 1 1048320) (fun s=>Txt.a2f s.data.toList)))/\RS w' R A ws (tkN ws nx wr (fun s=>a0K s 1 1048320)) (tkW ws nx wr (fun s=>a0K s 1 1048320))/\Kept R w w':=by
 go_enter Tryz.func86,Tryz.ntmps86
 go_wp2_with fail
 refine (a4n 1 1048320 R A ws nx wr w h).mono ?_;rintro e w1 ⟨rfl,h1,k1⟩;go_wp2;go_ret;exact⟨rfl,h1,k1⟩
theorem a7v(R A:Nat)(ws:List ByteArray)(nx:Nat)(wr:Bool)(w:World)(h:RS w R A ws nx wr):
  Calls Tryz.prog 192 #[.pointer (some ⟨R,0,none⟩)] w fun e w'=>e=.returned (.int .i64 (tkV ws nx wr (fun s=>a0K s 1 99) (fun s=>Txt.a2f s.data.toList)))/\RS w' R A ws (tkN ws nx wr (fun s=>a0K s 1 99)) (tkW ws nx wr (fun s=>a0K s 1 99))/\Kept R w w':=by
 go_enter Tryz.func192,Tryz.ntmps192
 go_wp2_with fail
 refine (a4n 1 99 R A ws nx wr w h).mono ?_;rintro e w1 ⟨rfl,h1,k1⟩;go_wp2;go_ret;exact⟨rfl,h1,k1⟩
theorem RS.other(h:RS w R A ws nx wr)(hR:b≠R)(hA:0<ws.length->b≠A):RS (w.setCell ⟨b,o,none⟩ v) R A ws nx wr:=by
 have g:∀ j:Nat,(w.setCell ⟨b,o,none⟩ v).cell? ⟨R,j,none⟩=w.cell? ⟨R,j,none⟩:=fun j=>World.cell?_setCell_far w ⟨b,o,none⟩ ⟨R,j,none⟩ v hR
 refine⟨(g 0).trans h.c0,(g 1).trans h.c1,(g 2).trans h.c2,(zF ..).trans h.f1,(zF ..).trans h.f2,h.ne,fun i hi=>?_,h.len,h.c6c,h.short⟩;exact (World.cell?_setCell_far w ⟨b,o,none⟩ ⟨A,i,none⟩ v (hA (by omega))).trans (h.rows i hi)
theorem RS.lt(h:RS w R A ws nx wr):R<w.heap.size/\(0<ws.length->A<w.heap.size) :=
 ⟨World.block_lt_of_cell? _ ⟨R,0,none⟩ h.c0,fun hl=>World.block_lt_of_cell? _ ⟨A,0,none⟩ (h.rows 0 hl)⟩
theorem Kept.setNew(h:Kept R w w')(hb:w.heap.size<=b)(v:Value):Kept R w (w'.setCell ⟨b,o,none⟩ v) :=
 ⟨(Below.setCell (B:=0) (Below.refl 0 w') (p:=⟨b,o,none⟩) (zN _) v).os.trans h.os,(Below.setCell (B:=0) (Below.refl 0 w') (p:=⟨b,o,none⟩) (zN _) v).tape.trans h.tape,(Below.setCell (B:=0) (Below.refl 0 w') (p:=⟨b,o,none⟩) (zN _) v).output.trans h.output,Nat.le_trans h.size (Below.setCell (B:=0) (Below.refl 0 w') (p:=⟨b,o,none⟩) (zN _) v).size,fun k hk hr=>(Below.heap_setCell w' ⟨b,o,none⟩ v k (show k≠b by omega)).trans (h.block k hk hr)⟩
theorem Kept.frozen(h:Kept R w w')(hne:b≠R)(hb:b<w.heap.size):w'.frozen? ⟨b,o,none⟩=w.frozen? ⟨b,o,none⟩:=World.frozen?_of_block (w:=w) (h.block b hb hne)
def tN2(ws:List ByteArray)(nx:Nat)(wr:Bool)(B C:ByteArray->Bool):Nat:=tkN ws (tkN ws nx wr B) (tkW ws nx wr B) C
def tW2(ws:List ByteArray)(nx:Nat)(wr:Bool)(B C:ByteArray->Bool):Bool:=tkW ws (tkN ws nx wr B) (tkW ws nx wr B) C
theorem a6F(R A:Nat)(ws:List ByteArray)(nx:Nat)(wr:Bool)(w:World)(h:RS w R A ws nx wr)(he:Env w)(hR:10<=R):
  Calls Tryz.prog 90 #[.pointer (some ⟨R,0,none⟩)] w fun e w'=>e=.returned (.agg #[.int .i64 (tkV ws nx wr a0n a1J),.int .i64 (tkV ws (tkN ws nx wr a0n) (tkW ws nx wr a0n) a0n a1J)])/\RS w' R A ws (tN2 ws nx wr a0n a0n) (tW2 ws nx wr a0n a0n)/\Kept R w w':=by
 have HE:=hide he;clear he
 go_enter Tryz.func90,Tryz.ntmps90
 go_wp2_with fail
 obtain⟨hRl,hAl⟩:=h.lt;obtain⟨X,hX⟩:∃ X,X=w.alloc (.cells #[.int .i64 0,.int .i64 0] 60):=⟨_,rfl⟩;rw[<- hX];have hb:Below w.heap.size w X:=by rw[hX];exact (zr _ _).alloc (zq _) _
 have x0:X.cell? ⟨w.heap.size,0,none⟩=some (.int .i64 0):=by rw[hX];simp
 have x1:X.cell? ⟨w.heap.size,1,none⟩=some (.int .i64 0):=by rw[hX];simp
 have xf:∀ j:Nat,X.frozen? ⟨w.heap.size,j,none⟩=false:=fun j=>by rw[hX];simp
 have xs:w.heap.size<X.heap.size:=by rw[hX];simp
 clear hX;have eX:=(a0d HE).later hb;refine (a7V R A ws nx wr X (h.of_below hb) eX).mono ?_;rintro e w1 ⟨rfl,h1,k1⟩;have e1:=eX.kept k1 hR
 go_wp2_with fail
 refine (a7V R A ws _ _ w1 h1 e1).mono ?_;rintro e w2 ⟨rfl,h2,k2⟩;have k12:=k1.trans k2;have y0:=k12.cell (b:=w.heap.size) (o:=0) (by omega) x0;have y1:=k12.cell (b:=w.heap.size) (o:=1) (by omega) x1;have yf:∀ j:Nat,w2.frozen? ⟨w.heap.size,j,none⟩=false:=fun j=>(k12.frozen (by omega) xs).trans (xf j)
 have kk:=(Kept.of_below (R:=R) hb).trans k12;have H2:=hide h2;clear h1 h2 e1 eX x0 x1 xf;go_wp2;refine bodyPost_ret (v:=.agg #[.int .i64 (tkV ws nx wr a0n a1J),.int .i64 (tkV ws (tkN ws nx wr a0n) (tkW ws nx wr a0n) a0n a1J)]) (by simp[results,Tryz.results90,go_sem,y0,y1]) rfl ⟨rfl,?_,?_⟩
 ·exact ((a0d H2).other (by omega) (fun hl=>by have:=hAl hl;omega)).other (by omega) (fun hl=>by have:=hAl hl;omega)
 ·exact (kk.setNew (zq _) _).setNew (zq _) _
def nmB(s:ByteArray):Bool:=Txt.a1j s.data.toList
def unB(s:ByteArray):Bool:=a0K s 1 9
def nvF(s:ByteArray):Int:=Txt.a2f s.data.toList
def stp(ws:List ByteArray)(B:ByteArray->Bool)(st:Nat × Bool):Nat × Bool:=(tkN ws st.1 st.2 B,tkW ws st.1 st.2 B)
def a0M(ws:List ByteArray)(Bs:List (ByteArray->Bool))(st:Nat × Bool):Nat × Bool:=Bs.foldl (fun st B=>stp ws B st) st
def a2F(ws:List ByteArray)(st:Nat × Bool):ByteArray:=tkS ws st.1 st.2
def a0v(ws:List ByteArray)(st:Nat × Bool)(B:ByteArray->Bool)(V:ByteArray->Int):Int:=tkV ws st.1 st.2 B V
theorem a7w(R A:Nat)(ws:List ByteArray)(st:Nat × Bool)(w:World)(h:RS w R A ws st.1 st.2)(he:Env w)(hR:10<=R):
  Calls Tryz.prog 85 #[.pointer (some ⟨R,0,none⟩)] w fun e w' =>
   e=.returned (.agg #[.string (a2F ws st),.int .i64 (a0v ws (a0M ws [nmB] st) unB nvF),.int .i64 (a0v ws (a0M ws [nmB,unB] st) a0n a1J),.int .i64 (a0v ws (a0M ws [nmB,unB,a0n] st) a0n a1J)]) /\
   RS w' R A ws (a0M ws [nmB,unB,a0n,a0n] st).1 (a0M ws [nmB,unB,a0n,a0n] st).2/\Kept R w w':=by
 have HE:=hide he;clear he
 go_enter Tryz.func85,Tryz.ntmps85
 go_wp2_with fail
 obtain⟨hRl,hAl⟩:=h.lt;obtain⟨X,hX⟩:∃ X,X=w.alloc (.cells #[.string ⟨#[]⟩,.int .i64 0,.int .i64 0,.int .i64 0] 151):=⟨_,rfl⟩;rw[<- hX];have hb:Below w.heap.size w X:=by rw[hX];exact (zr _ _).alloc (zq _) _
 have x0:X.cell? ⟨w.heap.size,0,none⟩=some (.string ⟨#[]⟩):=by rw[hX];simp
 have x1:X.cell? ⟨w.heap.size,1,none⟩=some (.int .i64 0):=by rw[hX];simp
 have x2:X.cell? ⟨w.heap.size,2,none⟩=some (.int .i64 0):=by rw[hX];simp
 have x3:X.cell? ⟨w.heap.size,3,none⟩=some (.int .i64 0):=by rw[hX];simp
 have xf:∀ j:Nat,X.frozen? ⟨w.heap.size,j,none⟩=false:=fun j=>by rw[hX];simp
 have xs:w.heap.size<X.heap.size:=by rw[hX];simp
 clear hX;have eX:=(a0d HE).later hb;refine (a3v R A ws st.1 st.2 X (h.of_below hb)).mono ?_;rintro e w1 ⟨rfl,h1,k1⟩;have e1:=eX.kept k1 hR
 go_wp2_with fail
 refine (a5v R A ws _ _ w1 h1).mono ?_;rintro e w2 ⟨rfl,h2,k2⟩;have e2:=e1.kept k2 hR
 go_wp2_with fail
 refine (a6F R A ws _ _ w2 h2 e2 hR).mono ?_;rintro e w3 ⟨rfl,h3,k3⟩;have k13:=(k1.trans k2).trans k3;have y0:=k13.cell (b:=w.heap.size) (o:=0) (by omega) x0;have y1:=k13.cell (b:=w.heap.size) (o:=1) (by omega) x1;have y2:=k13.cell (b:=w.heap.size) (o:=2) (by omega) x2;have y3:=k13.cell (b:=w.heap.size) (o:=3) (by omega) x3;have yf:∀ j:Nat,w3.frozen? ⟨w.heap.size,j,none⟩=false:=fun j=>(k13.frozen (by omega) xs).trans (xf j)
 have kk:=(Kept.of_below (R:=R) hb).trans k13;have H3:=hide h3;clear h1 h2 h3 e1 e2 eX x0 x1 x2 x3 xf;go_wp2;refine bodyPost_ret (v:=.agg #[.string (a2F ws st),.int .i64 (a0v ws (a0M ws [nmB] st) unB nvF),.int .i64 (a0v ws (a0M ws [nmB,unB] st) a0n a1J),.int .i64 (a0v ws (a0M ws [nmB,unB,a0n] st) a0n a1J)]) (by simp[results,Tryz.results85,go_sem,y0,y1,y2,y3];exact⟨rfl,rfl,rfl,rfl⟩) rfl ⟨rfl,?_,?_⟩
 ·exact ((((a0d H3).other (by omega) (fun hl=>by have:=hAl hl;omega)).other (by omega) (fun hl=>by have:=hAl hl;omega)).other (by omega) (fun hl=>by have:=hAl hl;omega)).other (by omega) (fun hl=>by have:=hAl hl;omega)
 ·exact (((kk.setNew (zq _) _).setNew (zq _) _).setNew (zq _) _).setNew (zq _) _
theorem b9H(R A:Nat)(ws:List ByteArray)(st:Nat × Bool)(w:World)(h:RS w R A ws st.1 st.2)(hm:a1b ws.length (a0M ws [nmB] st).1 (a0M ws [nmB] st).2=false):
  Calls Tryz.prog 89 #[.pointer (some ⟨R,0,none⟩)] w fun e w' =>
   e=.returned (.agg #[.string (a2F ws st),.bool false,.int .i64 0,.int .i64 0])/\RS w' R A ws (a0M ws [nmB] st).1 (a0M ws [nmB] st).2/\Kept R w w':=by
 go_enter Tryz.func89,Tryz.ntmps89
 go_wp2_with fail
 obtain⟨hRl,hAl⟩:=h.lt;obtain⟨X,hX⟩:∃ X,X=w.alloc (.cells #[.string ⟨#[]⟩,.bool false,.int .i64 0,.int .i64 0] 170):=⟨_,rfl⟩;rw[<- hX];have hb:Below w.heap.size w X:=by rw[hX];exact (zr _ _).alloc (zq _) _
 have x0:X.cell? ⟨w.heap.size,0,none⟩=some (.string ⟨#[]⟩):=by rw[hX];simp
 have x1:X.cell? ⟨w.heap.size,1,none⟩=some (.bool false):=by rw[hX];simp
 have x2:X.cell? ⟨w.heap.size,2,none⟩=some (.int .i64 0):=by rw[hX];simp
 have x3:X.cell? ⟨w.heap.size,3,none⟩=some (.int .i64 0):=by rw[hX];simp
 have xf:∀ j:Nat,X.frozen? ⟨w.heap.size,j,none⟩=false:=fun j=>by rw[hX];simp
 have xs:w.heap.size<X.heap.size:=by rw[hX];simp
 clear hX;refine (a3v R A ws st.1 st.2 X (h.of_below hb)).mono ?_;rintro e w1 ⟨rfl,h1,k1⟩;have z1:=k1.size
 go_wp2_with fail
 obtain⟨Y,hY⟩:∃ Y,Y=w1.alloc (.cells #[.string (tkS ws st.1 st.2),.bool false,.int .i64 0,.int .i64 0] 170):=⟨_,rfl⟩;rw[<- hY];have hbY:Below w1.heap.size w1 Y:=by rw[hY];exact (zr _ _).alloc (zq _) _
 have v0:Y.cell? ⟨w1.heap.size,0,none⟩=some (.string (tkS ws st.1 st.2)):=by rw[hY];simp
 have v1:Y.cell? ⟨w1.heap.size,1,none⟩=some (.bool false):=by rw[hY];simp
 have v2:Y.cell? ⟨w1.heap.size,2,none⟩=some (.int .i64 0):=by rw[hY];simp
 have v3:Y.cell? ⟨w1.heap.size,3,none⟩=some (.int .i64 0):=by rw[hY];simp
 have ys:w1.heap.size<Y.heap.size:=by rw[hY];simp
 clear hY;have kY:=k1.trans (Kept.of_below (R:=R) hbY);have y0:=kY.cell (b:=w.heap.size) (o:=0) (by omega) x0;have y1:=kY.cell (b:=w.heap.size) (o:=1) (by omega) x1;have y2:=kY.cell (b:=w.heap.size) (o:=2) (by omega) x2;have y3:=kY.cell (b:=w.heap.size) (o:=3) (by omega) x3;have yf:∀ j:Nat,Y.frozen? ⟨w.heap.size,j,none⟩=false:=fun j=>(kY.frozen (by omega) xs).trans (xf j)
 have hY1:=h1.of_below hbY;refine (a0X R A ws _ _ Y hY1).mono ?_;rintro e w2 ⟨rfl,n,rfl⟩;have HM:Hid (a1b ws.length (tkN ws st.1 st.2 fun s=>Txt.a1j s.data.toList) (tkW ws st.1 st.2 fun s=>Txt.a1j s.data.toList)=false):=hm;rw[HM.out];have kk:=(Kept.of_below (R:=R) hb).trans kY;have H1:=hide hY1;clear h1 hY1 x0 x1 x2 x3 xf hm;go_wp2;refine bodyPost_ret (v:=.agg #[.string (a2F ws st),.bool false,.int .i64 0,.int .i64 0]) (by simp[results,Tryz.results89,go_sem,y0,y1,y2,y3];rfl) rfl ⟨rfl,?_,?_⟩
 ·exact (((((a0d H1).drewN _).other (by omega) (fun hl=>by have:=hAl hl;omega)).other (by omega) (fun hl=>by have:=hAl hl;omega)).other (by omega) (fun hl=>by have:=hAl hl;omega)).other (by omega) (fun hl=>by have:=hAl hl;omega)
 ·exact ((((kk.drewN _).setNew (zq _) _).setNew (zq _) _).setNew (zq _) _).setNew (zq _) _
end Go.Proofs.YtfigmlfdnickmaaGreatDoor
