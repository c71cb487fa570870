import Derived.Test.YtfigmlfdnickmaaGreatDoorL05
import Derived.Deep.RegionHeld3
import Derived.Deep.AppendLies
import Derived.Deep.RegionHeld
set_option maxRecDepth 100000
set_option maxHeartbeats 8000000
variable{wr:Bool}{s:ByteArray}{B:ByteArray->Bool}{fr mi mn pc ti un:Int}{ws:List ByteArray}{acc:List Int}{l:List UInt8}{A P R b d k n nx o p:Nat}{col:Nat->Option Go.Proofs.YtfigmlfdnickmaaGreatDoor.Col}{v:Nat->Go.Value}{r:Go.Proofs.YtfigmlfdnickmaaGreatDoor.Raw}{w w' wx:Go.World}
namespace Go.Proofs.YtfigmlfdnickmaaGreatDoor
open Go.RowKit
theorem c1x(x:Nat)(w:World):
  Calls Tryz.prog 81 #[.int .i32 x] w fun e w'=>e=.returned (.bool (x==32))/\∃ q,w'=w.drewN q:=by
 go_enter Tryz.func81,Tryz.ntmps81
 go_wp2;go_ret;refine⟨a2a ?_,0,rfl⟩;rw[Bool.eq_iff_iff];simp;omega
theorem b5j(args:Array Value)(w:World):Sem.run Tryz.prog (callFunc 81 args) w=.ok (.enter 81 args) w:=by kernel_rfl
theorem b9v(s:ByteArray)(w:World)(hs:s.size<=160):
  Calls Tryz.prog 61 #[.string s] w fun e w'=>∃ A,e=.returned (.slice (some ⟨A,0,none⟩) (Txt.a1v s).length (Txt.a1v s).length)/\w.heap.size<=A /\
   w'.ownsRow w.heap.size 9 1 (.slice (some ⟨A,0,none⟩) (Txt.a1v s).length (Txt.a1v s).length) (Txt.a1v s).length ((Txt.a1v s).map Value.string)/\Below w.heap.size w w':=by
 have hp:PredAtRunes Tryz.prog 81 #[] (fun r=>r==32) w:=fun W x _ _=>c1x x W
 have HP:=hide hp;clear hp
 go_enter Tryz.func61,Tryz.ntmps61
 go_wp2_with fail
 refine (Tryz.strings_FieldsFunc_runes 81 #[] b5j (fun r=>r==32) s w (by omega) (a0d HP)).mono ?_;rintro e w' ⟨A,rfl,hA,ho,hb⟩;rw[Txt.b3C] at ho ⊢;go_wp2;go_ret;exact⟨A,rfl,hA,ho,hb⟩
theorem toList_data(b:ByteArray):b.toList=b.data.toList:=Lib.toList_data b
theorem d4z{b:ByteArray}(h:b.toList.isEmpty=true):b.size=0:=by
 rw[toList_data,List.isEmpty_iff] at h;rw[<- Txt.a1d,h];rfl
theorem d1p{b:ByteArray}(h:b.toList.isEmpty=false):b.size≠0:=by
 intro e;rw[toList_data,List.isEmpty_eq_false_iff] at h;exact h (List.eq_nil_of_length_eq_zero (by rw[Txt.a1d];exact e))
theorem d0U{base e size:Nat}{v:Value}{xs:List Value}(h:w.ownsRow base e size v n xs)(hk:v.ownBlock=some k):base<=k:=by
 rcases h.2 with ⟨rfl,_⟩|⟨g,cap,cur,rfl,hb,_⟩
 ·simp[Value.ownBlock] at hk
 ·simp[Value.ownBlock] at hk;omega
theorem e4B:(Tryz.prog.info? 9).map (fun i=>(i.zero,i.size,i.bytes))=some (some (.string ⟨#[]⟩),1,16):=by kernel_rfl
theorem e3b(s:ByteArray)(w:World)(hs:s.size<=160):
  Calls Tryz.prog 59 #[.string s] w fun e w'=>∃ v,e=.returned v/\w'.ownsRow w.heap.size 9 1 v (Txt.a1v s).length ((Txt.a1v s).map Value.string)/\Below w.heap.size w w':=by
 obtain⟨i0,hi,hz0,hz1,hz2⟩:=info_parts e4B
 go_enter Tryz.func59,Tryz.ntmps59
 go_wp2
 go_loopw [3,4,5] (fun v c i wr=>∃ k:Nat,k<=s.size/\i=.int .i64 k/\c=.string (Txt.a8z s k)/\wr.ownsRow w.heap.size 9 1 v (Txt.b7w s k).length ((Txt.b7w s k).map Value.string)/\Below w.heap.size w wr) (fun _ _ i _=>s.size-(intOf i).toNat)
 case atStart=>exact⟨0,Nat.zero_le _,rfl,rfl,World.ownsRow_nil _ _ _ _,Below.refl _ _⟩
 case round =>
  obtain⟨k,hk,rfl,rfl,hown,hnx⟩:=hrel;have cz:=Txt.b7k s k
  by_cases hlt:k<s.size
  ·by_cases hb:Txt.a0V s k=32
   ·have hb':((s[k].toNat:Int)==32)=true:=beq_iff_eq.2 (by rw[<- Txt.a2W];exact hb);have HB:=hide (Txt.b3O s k hk hb);clear hb
    cases he:(Txt.a8z s k).toList.isEmpty
    ·have HE:Hid ((Txt.a8z s k).size≠0):=(d1p he);have hal:=Txt.b5J s k
     go_wp2_with (first
      |(at_builtin;refine wpList_append_own _ rfl _ _ 26 rfl w.heap.size 9 i0 (.string ⟨#[]⟩) 1 16 Tryz.underlying26 hi hz0 hz1 hz2 rfl (by decide) _ _ _ rfl (hown.alloc _) ⟨wr.heap.size,0,none⟩ 1 1 [.string (Txt.a8z s k)] rfl rfl ?c1 ?c2 ?c3 ?c4 ?c5 ?_)
      |go_in)
     case c1=>exact cell_one_new _ _ _
     case c2=>intro u hu;simp at hu;subst hu;rfl
     case c3=>unfold maxLen;omega
     case c4=>omega
     case c5=>have:=hnx.size;simp;omega
     intro v' w1 hown' hgrow _;go_wp2;refine⟨⟨k+1,by omega,by go_num,by rw[(a0d HB).1],?_,?_⟩,by simp[intOf];omega⟩
     ·rw[(a0d HB).2,if_neg HE.out,List.map_append,List.length_append];exact hown'
     ·refine (hnx.alloc hnx.size _).grown hgrow (by have:=hnx.size;simp;omega) (fun k hk=>?_);exact d0U hown hk
    ·have HE:Hid ((Txt.a8z s k).size=0):=(d4z he);go_wp2;exact⟨⟨k+1,by omega,by go_num,by rw[(a0d HB).1],by rw[(a0d HB).2,if_pos HE.out,List.append_nil];exact hown,hnx⟩,by simp[intOf];omega⟩
   ·have hb':((s[k].toNat:Int)==32)=false:=beq_eq_false_iff_ne.2 (by rw[<- Txt.a2W];exact hb);have HB:=hide (Txt.b7l s k hb);clear hb;go_wp2;exact⟨⟨k+1,by omega,by go_num,by rw[(a0d HB).1],by rw[(a0d HB).2];exact hown,hnx⟩,by simp[intOf];omega⟩
  ·obtain rfl:k=s.size:=by omega
   have HW:=hide (Txt.b2t s)
   cases he:(Txt.a8z s s.size).toList.isEmpty
   ·have HE:Hid ((Txt.a8z s s.size).size≠0):=(d1p he);have hal:=Txt.b5J s s.size
    go_wp2_with (first
     |(at_builtin;refine wpList_append_own _ rfl _ _ 26 rfl w.heap.size 9 i0 (.string ⟨#[]⟩) 1 16 Tryz.underlying26 hi hz0 hz1 hz2 rfl (by decide) _ _ _ rfl (hown.alloc _) ⟨wr.heap.size,0,none⟩ 1 1 [.string (Txt.a8z s s.size)] rfl rfl ?c1 ?c2 ?c3 ?c4 ?c5 ?_)
     |go_in)
    case c1=>exact cell_one_new _ _ _
    case c2=>intro u hu;simp at hu;subst hu;rfl
    case c3=>unfold maxLen;omega
    case c4=>omega
    case c5=>have:=hnx.size;simp;omega
    intro v' w1 hown' hgrow _;go_wp2;go_ret;refine⟨v',rfl,?_,?_⟩
    ·rw[a0d HW,if_neg HE.out,List.map_append,List.length_append];exact hown'
    ·refine (hnx.alloc hnx.size _).grown hgrow (by have:=hnx.size;simp;omega) (fun k hk=>?_);exact d0U hown hk
   ·have HE:Hid ((Txt.a8z s s.size).size=0):=(d4z he);go_wp2;go_ret;exact⟨_,rfl,by rw[a0d HW,if_pos HE.out,List.append_nil];exact hown,hnx⟩
def a3C(k:Nat):List UInt8:=match k with|0=>[109,111]|1=>[116,117]|2=>[119,101]|3=>[116,104]|4=>[102,114]|5=>[115,97]|_=>[115,117]
theorem b4j(hk:k<7)(h:(l==a3C k)=true)(hn:∀ j,j<k->(l==a3C j)=false):Txt.wdL l=k:=by
 have e:=beq_iff_eq.1 h;subst e;rcases (show k=0\/k=1\/k=2\/k=3\/k=4\/k=5\/k=6 by omega) with rfl|rfl|rfl|rfl|rfl|rfl|rfl <;> decide
theorem c4q(hn:∀ j,j<7->(l==a3C j)=false):Txt.wdL l=-1:=by
 have h0:=hn 0 (by omega);have h1:=hn 1 (by omega);have h2:=hn 2 (by omega);have h3:=hn 3 (by omega);have h4:=hn 4 (by omega);have h5:=hn 5 (by omega);have h6:=hn 6 (by omega);simp only[a3C] at h0 h1 h2 h3 h4 h5 h6;simp[Txt.wdL,h0,h1,h2,h3,h4,h5,h6]
theorem a3m(hn:∀ j,j<k->(l==a3C j)=false)(h:(l==a3C k)=false):∀ j,j<k+1->(l==a3C j)=false:=fun j hj=>by
 by_cases e:j=k
 ·subst e;exact h
 ·exact hn j (by omega)
def wdV(s:ByteArray):Int:=if 0<=Txt.wdL s.data.toList then Txt.wdL s.data.toList else 0
def wdB(s:ByteArray):Bool:=decide (0<=Txt.wdL s.data.toList)
theorem a8Y(s:ByteArray)(w:World)(he:Env w):
  Calls Tryz.prog 246 #[.string s] w fun e w'=>e=.returned (.tuple #[.int .i64 (wdV s),.bool (wdB s)])/\w'=w:=by
 have m0:=he.mo;have m1:=he.tu;have m2:=he.we;have m3:=he.th;have m4:=he.fr;have m5:=he.sa;have m6:=he.su;have HL:=hide (toList_data s);clear he
 go_enter Tryz.func246,Tryz.ntmps246
 go_wp2
 go_loop [4,5] (fun _ i=>∃ k:Nat,k<=7/\i=.int .i64 k/\∀ j,j<k->(s.data.toList==a3C j)=false) (fun _ i=>7-(intOf i).toNat)
 case atStart=>exact⟨0,by omega,rfl,fun j hj=>absurd hj (by omega)⟩
 case round =>
  obtain⟨k,hk,rfl,hn⟩:=hrel;have HN:=hide hn;clear hn;rcases (show k=0\/k=1\/k=2\/k=3\/k=4\/k=5\/k=6\/k=7 by omega) with rfl|rfl|rfl|rfl|rfl|rfl|rfl|rfl
  ·cases hq:([109,111]==s.toList)
   ·have HQ:Hid ((s.data.toList==a3C 0)=false):=by
     show (s.data.toList==a3C 0)=false;rw[<- a0d HL,Bool.beq_comm];exact hq
    go_wp2
    go_round
    case rel=>exact⟨1,by omega,by go_num,a3m (a0d HN) HQ.out⟩
    case measure=>simp[intOf]
   ·have HQ:Hid (Txt.wdL s.data.toList=0):=b4j (k:=0) (by omega) (by rw[<- a0d HL,Bool.beq_comm];exact hq) (a0d HN);go_wp2;go_ret2;exact⟨a0A (by rw[wdV,HQ.out];rfl) (by rw[wdB,HQ.out];rfl),rfl⟩
  ·cases hq:([116,117]==s.toList)
   ·have HQ:Hid ((s.data.toList==a3C 1)=false):=by
     show (s.data.toList==a3C 1)=false;rw[<- a0d HL,Bool.beq_comm];exact hq
    go_wp2
    go_round
    case rel=>exact⟨2,by omega,by go_num,a3m (a0d HN) HQ.out⟩
    case measure=>simp[intOf]
   ·have HQ:Hid (Txt.wdL s.data.toList=1):=b4j (k:=1) (by omega) (by rw[<- a0d HL,Bool.beq_comm];exact hq) (a0d HN);go_wp2;go_ret2;exact⟨a0A (by rw[wdV,HQ.out];rfl) (by rw[wdB,HQ.out];rfl),rfl⟩
  ·cases hq:([119,101]==s.toList)
   ·have HQ:Hid ((s.data.toList==a3C 2)=false):=by
     show (s.data.toList==a3C 2)=false;rw[<- a0d HL,Bool.beq_comm];exact hq
    go_wp2
    go_round
    case rel=>exact⟨3,by omega,by go_num,a3m (a0d HN) HQ.out⟩
    case measure=>simp[intOf]
   ·have HQ:Hid (Txt.wdL s.data.toList=2):=b4j (k:=2) (by omega) (by rw[<- a0d HL,Bool.beq_comm];exact hq) (a0d HN);go_wp2;go_ret2;exact⟨a0A (by rw[wdV,HQ.out];rfl) (by rw[wdB,HQ.out];rfl),rfl⟩
  ·cases hq:([116,104]==s.toList)
   ·have HQ:Hid ((s.data.toList==a3C 3)=false):=by
     show (s.data.toList==a3C 3)=false;rw[<- a0d HL,Bool.beq_comm];exact hq
    go_wp2
    go_round
    case rel=>exact⟨4,by omega,by go_num,a3m (a0d HN) HQ.out⟩
    case measure=>simp[intOf]
   ·have HQ:Hid (Txt.wdL s.data.toList=3):=b4j (k:=3) (by omega) (by rw[<- a0d HL,Bool.beq_comm];exact hq) (a0d HN);go_wp2;go_ret2;exact⟨a0A (by rw[wdV,HQ.out];rfl) (by rw[wdB,HQ.out];rfl),rfl⟩
  ·cases hq:([102,114]==s.toList)
   ·have HQ:Hid ((s.data.toList==a3C 4)=false):=by
     show (s.data.toList==a3C 4)=false;rw[<- a0d HL,Bool.beq_comm];exact hq
    go_wp2
    go_round
    case rel=>exact⟨5,by omega,by go_num,a3m (a0d HN) HQ.out⟩
    case measure=>simp[intOf]
   ·have HQ:Hid (Txt.wdL s.data.toList=4):=b4j (k:=4) (by omega) (by rw[<- a0d HL,Bool.beq_comm];exact hq) (a0d HN);go_wp2;go_ret2;exact⟨a0A (by rw[wdV,HQ.out];rfl) (by rw[wdB,HQ.out];rfl),rfl⟩
  ·cases hq:([115,97]==s.toList)
   ·have HQ:Hid ((s.data.toList==a3C 5)=false):=by
     show (s.data.toList==a3C 5)=false;rw[<- a0d HL,Bool.beq_comm];exact hq
    go_wp2
    go_round
    case rel=>exact⟨6,by omega,by go_num,a3m (a0d HN) HQ.out⟩
    case measure=>simp[intOf]
   ·have HQ:Hid (Txt.wdL s.data.toList=5):=b4j (k:=5) (by omega) (by rw[<- a0d HL,Bool.beq_comm];exact hq) (a0d HN);go_wp2;go_ret2;exact⟨a0A (by rw[wdV,HQ.out];rfl) (by rw[wdB,HQ.out];rfl),rfl⟩
  ·cases hq:([115,117]==s.toList)
   ·have HQ:Hid ((s.data.toList==a3C 6)=false):=by
     show (s.data.toList==a3C 6)=false;rw[<- a0d HL,Bool.beq_comm];exact hq
    go_wp2
    go_round
    case rel=>exact⟨7,by omega,by go_num,a3m (a0d HN) HQ.out⟩
    case measure=>simp[intOf]
   ·have HQ:Hid (Txt.wdL s.data.toList=6):=b4j (k:=6) (by omega) (by rw[<- a0d HL,Bool.beq_comm];exact hq) (a0d HN);go_wp2;go_ret2;exact⟨a0A (by rw[wdV,HQ.out];rfl) (by rw[wdB,HQ.out];rfl),rfl⟩
  ·have HQ:Hid (Txt.wdL s.data.toList=-1):=c4q (a0d HN);go_wp2;go_ret2;exact⟨a0A (by rw[wdV,HQ.out];rfl) (by rw[wdB,HQ.out];rfl),rfl⟩
theorem e5W(s:ByteArray)(w:World):
  Calls Tryz.prog 190 #[.string s] w fun e w'=>e=.returned (.int .i64 (Txt.wdL s.data.toList))/\Below w.heap.size w w':=by
 have HL:=hide (toList_data s);have HB:Hid (∀ o,Below w.heap.size w (w.alloc o)):=fun o=>(zr _ _).alloc (zq _) o
 go_enter Tryz.func190,Tryz.ntmps190
 go_wp2
 go_loop [4] (fun i=>∃ k:Nat,k<=7/\i=.int .i64 k/\∀ j,j<k->(s.data.toList==a3C j)=false) (fun i=>7-(intOf i).toNat)
 case atStart=>exact⟨0,by omega,rfl,fun j hj=>absurd hj (by omega)⟩
 case round =>
  obtain⟨k,hk,rfl,hn⟩:=hrel;have HN:=hide hn;clear hn;rcases (show k=0\/k=1\/k=2\/k=3\/k=4\/k=5\/k=6\/k=7 by omega) with rfl|rfl|rfl|rfl|rfl|rfl|rfl|rfl
  ·cases hq:(s.toList==[109,111])
   ·have HQ:Hid ((s.data.toList==a3C 0)=false):=by
     show (s.data.toList==a3C 0)=false;rw[<- a0d HL];exact hq
    go_wp2
    go_round
    case rel=>exact⟨1,by omega,by go_num,a3m (a0d HN) HQ.out⟩
    case measure=>simp[intOf]
   ·have HQ:Hid (Txt.wdL s.data.toList=0):=b4j (k:=0) (by omega) (by rw[<- a0d HL];exact hq) (a0d HN);go_wp2;go_ret;exact⟨a3w (by rw[HQ.out]),HB.out _⟩
  ·cases hq:(s.toList==[116,117])
   ·have HQ:Hid ((s.data.toList==a3C 1)=false):=by
     show (s.data.toList==a3C 1)=false;rw[<- a0d HL];exact hq
    go_wp2
    go_round
    case rel=>exact⟨2,by omega,by go_num,a3m (a0d HN) HQ.out⟩
    case measure=>simp[intOf]
   ·have HQ:Hid (Txt.wdL s.data.toList=1):=b4j (k:=1) (by omega) (by rw[<- a0d HL];exact hq) (a0d HN);go_wp2;go_ret;exact⟨a3w (by rw[HQ.out]),HB.out _⟩
  ·cases hq:(s.toList==[119,101])
   ·have HQ:Hid ((s.data.toList==a3C 2)=false):=by
     show (s.data.toList==a3C 2)=false;rw[<- a0d HL];exact hq
    go_wp2
    go_round
    case rel=>exact⟨3,by omega,by go_num,a3m (a0d HN) HQ.out⟩
    case measure=>simp[intOf]
   ·have HQ:Hid (Txt.wdL s.data.toList=2):=b4j (k:=2) (by omega) (by rw[<- a0d HL];exact hq) (a0d HN);go_wp2;go_ret;exact⟨a3w (by rw[HQ.out]),HB.out _⟩
  ·cases hq:(s.toList==[116,104])
   ·have HQ:Hid ((s.data.toList==a3C 3)=false):=by
     show (s.data.toList==a3C 3)=false;rw[<- a0d HL];exact hq
    go_wp2
    go_round
    case rel=>exact⟨4,by omega,by go_num,a3m (a0d HN) HQ.out⟩
    case measure=>simp[intOf]
   ·have HQ:Hid (Txt.wdL s.data.toList=3):=b4j (k:=3) (by omega) (by rw[<- a0d HL];exact hq) (a0d HN);go_wp2;go_ret;exact⟨a3w (by rw[HQ.out]),HB.out _⟩
  ·cases hq:(s.toList==[102,114])
   ·have HQ:Hid ((s.data.toList==a3C 4)=false):=by
     show (s.data.toList==a3C 4)=false;rw[<- a0d HL];exact hq
    go_wp2
    go_round
    case rel=>exact⟨5,by omega,by go_num,a3m (a0d HN) HQ.out⟩
    case measure=>simp[intOf]
   ·have HQ:Hid (Txt.wdL s.data.toList=4):=b4j (k:=4) (by omega) (by rw[<- a0d HL];exact hq) (a0d HN);go_wp2;go_ret;exact⟨a3w (by rw[HQ.out]),HB.out _⟩
  ·cases hq:(s.toList==[115,97])
   ·have HQ:Hid ((s.data.toList==a3C 5)=false):=by
     show (s.data.toList==a3C 5)=false;rw[<- a0d HL];exact hq
    go_wp2
    go_round
    case rel=>exact⟨6,by omega,by go_num,a3m (a0d HN) HQ.out⟩
    case measure=>simp[intOf]
   ·have HQ:Hid (Txt.wdL s.data.toList=5):=b4j (k:=5) (by omega) (by rw[<- a0d HL];exact hq) (a0d HN);go_wp2;go_ret;exact⟨a3w (by rw[HQ.out]),HB.out _⟩
  ·cases hq:(s.toList==[115,117])
   ·have HQ:Hid ((s.data.toList==a3C 6)=false):=by
     show (s.data.toList==a3C 6)=false;rw[<- a0d HL];exact hq
    go_wp2
    go_round
    case rel=>exact⟨7,by omega,by go_num,a3m (a0d HN) HQ.out⟩
    case measure=>simp[intOf]
   ·have HQ:Hid (Txt.wdL s.data.toList=6):=b4j (k:=6) (by omega) (by rw[<- a0d HL];exact hq) (a0d HN);go_wp2;go_ret;exact⟨a3w (by rw[HQ.out]),HB.out _⟩
  ·have HQ:Hid (Txt.wdL s.data.toList=-1):=c4q (a0d HN);go_wp2;go_ret;exact⟨a3w (by rw[HQ.out]),HB.out _⟩
structure DS(w:World)(b:Nat)(acc:List Int):Prop where
 c0:w.cell? ⟨b,0,none⟩=some (.bool (isd acc 0))
 c1:w.cell? ⟨b,1,none⟩=some (.bool (isd acc 1))
 c2:w.cell? ⟨b,2,none⟩=some (.bool (isd acc 2))
 c3:w.cell? ⟨b,3,none⟩=some (.bool (isd acc 3))
 c4:w.cell? ⟨b,4,none⟩=some (.bool (isd acc 4))
 c5:w.cell? ⟨b,5,none⟩=some (.bool (isd acc 5))
 c6:w.cell? ⟨b,6,none⟩=some (.bool (isd acc 6))
 f:∀ j:Nat,w.frozen? ⟨b,j,none⟩=false
theorem DS.later(h:DS w b acc)(hb:Below w.heap.size w wx):DS wx b acc :=
 ⟨cell_later hb h.c0,cell_later hb h.c1,cell_later hb h.c2,cell_later hb h.c3,cell_later hb h.c4,cell_later hb h.c5,cell_later hb h.c6,fun j=>(hb.frozen (p:=⟨b,j,none⟩) (show b<w.heap.size from World.block_lt_of_cell? _ ⟨b,0,none⟩ h.c0)).trans (h.f j)⟩
theorem DS.at(h:DS w b acc)(d:Int)(h0:0<=d)(h6:d<7):w.cell? ⟨b,d.toNat,none⟩=some (.bool (isd acc d)):=by
 rcases (show d=0\/d=1\/d=2\/d=3\/d=4\/d=5\/d=6 by omega) with rfl|rfl|rfl|rfl|rfl|rfl|rfl
 ·exact h.c0
 ·exact h.c1
 ·exact h.c2
 ·exact h.c3
 ·exact h.c4
 ·exact h.c5
 ·exact h.c6
theorem a8U(d:Int)(h0:0<=d){u:Value}(hk:w.cell? ⟨b,k,none⟩=some (.bool (isd acc k)))(_hu:u=.bool true):(w.setCell ⟨b,d.toNat,none⟩ (.bool true)).cell? ⟨b,k,none⟩=some (.bool (isd (d :: acc) k)):=by
 by_cases e:d.toNat=k
 ·have ed:d=(k:Int):=by omega
  rw[e,World.cell?_setCell_same _ _ _ hk];simp[isd,ed]
 ·rw[World.cell?_setCell_other _ _ _ _ (by simp),hk];have ne:(k:Int)≠d:=by omega
  simp[isd,ne]
theorem DS.set(h:DS w b acc)(d:Int)(h0:0<=d):DS (w.setCell ⟨b,d.toNat,none⟩ (.bool true)) b (d :: acc) :=
 ⟨a8U (k:=0) d h0 h.c0 rfl,a8U (k:=1) d h0 h.c1 rfl,a8U (k:=2) d h0 h.c2 rfl,a8U (k:=3) d h0 h.c3 rfl,a8U (k:=4) d h0 h.c4 rfl,a8U (k:=5) d h0 h.c5 rfl,a8U (k:=6) d h0 h.c6 rfl,fun j=>(zF ..).trans (h.f j)⟩
theorem c3s{b':Nat}{v:Value}(h:DS w b acc)(_hne:b'≠b):DS (w.setCell ⟨b',o,none⟩ v) b acc:=by
 have g:∀ j:Nat,(w.setCell ⟨b',o,none⟩ v).cell? ⟨b,j,none⟩=w.cell? ⟨b,j,none⟩:=fun j=>zS _ _ _ _ (by simp)
 exact⟨(g 0).trans h.c0,(g 1).trans h.c1,(g 2).trans h.c2,(g 3).trans h.c3,(g 4).trans h.c4,(g 5).trans h.c5,(g 6).trans h.c6,fun j=>(zF ..).trans (h.f j)⟩
def a3E(acc:List Int):Value:=.agg #[.bool (isd acc 0),.bool (isd acc 1),.bool (isd acc 2),.bool (isd acc 3),.bool (isd acc 4),.bool (isd acc 5),.bool (isd acc 6)]
def g1I(s:ByteArray)(k:Nat)(acc:List Int):Prop :=
 (3*k<s.size/\Txt.onW s=Txt.onC (s.data.toList.drop (3*k)) acc)\/(3*k=s.size+1/\Txt.onW s=some acc)
theorem e0F(s:ByteArray)(k:Nat)(h:s.size % 3=2)(hk:3*k<s.size):
  (3*k+2=s.size/\s.data.toList.drop (3*k)=Txt.part s (3*k) (3*k+2)/\(Txt.part s (3*k) (3*k+2)).length=2) \/
  (3*k+3<s.size/\∃ a b c,s.data.toList.drop (3*k)=a :: b :: c :: s.data.toList.drop (3*(k+1))/\Txt.part s (3*k) (3*k+2)=[a,b]/\(c.toNat:Int)=Txt.a0V s (3*k+2)):=by
 have hl:=Txt.a1d s
 have hp:Txt.part s (3*k) (3*k+2)=(s.data.toList.drop (3*k)).take 2:=by
  unfold Txt.part;rw[Txt.a3g,List.drop_take];congr 1;omega
 by_cases h2:3*k+2=s.size
 ·left;have e:(s.data.toList.drop (3*k)).length=2:=by rw[List.length_drop];omega
  refine⟨h2,?_,?_⟩
  ·rw[hp,List.take_of_length_le (by omega)]
  ·rw[hp,List.length_take];omega
 ·right;have hlt:3*k+3<s.size:=by omega
  refine⟨hlt,s.data.toList[3*k]'(by omega),s.data.toList[3*k+1]'(by omega),s.data.toList[3*k+2]'(by omega),?_,?_,?_⟩
  ·rw[List.drop_eq_getElem_cons (by omega),List.drop_eq_getElem_cons (i:=3*k+1) (by omega),List.drop_eq_getElem_cons (i:=3*k+1+1) (by omega),show 3*k+1+1+1=3*(k+1) from by omega]
  ·rw[hp,List.drop_eq_getElem_cons (by omega),List.drop_eq_getElem_cons (i:=3*k+1) (by omega)];rfl
  ·unfold Txt.a0V;rw[List.getD_eq_getElem?_getD,List.getElem?_eq_getElem (by omega)];rfl
theorem f1q(s:ByteArray)(h:s.size % 3=2):g1I s 0 []:=.inl ⟨by omega,rfl⟩
theorem f8F(h:g1I s k acc)(h3:s.size % 3=2)(hk:3*k<s.size)(hd:Txt.wdL (Txt.part s (3*k) (3*k+2))<0\/isd acc (Txt.wdL (Txt.part s (3*k) (3*k+2)))=true\/(3*k+2<s.size/\Txt.a0V s (3*k+2)≠44)):Txt.onW s=none:=by
 rcases h with ⟨_,h⟩|⟨h,_⟩
 ·rw[h]
  have bad:Txt.wdL (Txt.part s (3*k) (3*k+2))<0\/isd acc (Txt.wdL (Txt.part s (3*k) (3*k+2)))=true->Txt.a4D acc (Txt.wdL (Txt.part s (3*k) (3*k+2)))=none:=fun q=>by
   unfold Txt.a4D;rw[if_neg];rintro ⟨q1,q2⟩;rcases q with q|q
   ·omega
   ·unfold isd at q;rw[q] at q2;cases q2
  rcases e0F s k h3 hk with ⟨e1,e2,e3⟩|⟨e1,a,b,c,e2,e3,e4⟩
  ·rw[e2];rcases hd with hd|hd|hd
   all_goals first|omega|skip
   all_goals
    obtain⟨x,y,hxy⟩:∃ x y,Txt.part s (3*k) (3*k+2)=[x,y]:=by
     match hm:Txt.part s (3*k) (3*k+2),e3 with
     |[x,y],_=>exact⟨x,y,rfl⟩
    have:=bad (by first|exact .inl hd|exact .inr hd);rw[hxy] at this ⊢;exact this
  ·rw[e2,Txt.onC]
   split
   ·rename_i hc
    rcases hd with hd|hd|hd
    ·have:=bad (.inl hd);rw[e3] at this;rw[this];rfl
    ·have:=bad (.inr hd);rw[e3] at this;rw[this];rfl
    ·subst hc;exfalso;apply hd.2;rw[<- e4];rfl
   ·rfl
 ·omega
theorem f4y(h:g1I s k acc)(h3:s.size % 3=2)(hk:3*k<s.size)(h0:0<=Txt.wdL (Txt.part s (3*k) (3*k+2)))(hm:isd acc (Txt.wdL (Txt.part s (3*k) (3*k+2)))=false)(hs:3*k+2<s.size->Txt.a0V s (3*k+2)=44):g1I s (k+1) (Txt.wdL (Txt.part s (3*k) (3*k+2)) :: acc):=by
 have st:Txt.a4D acc (Txt.wdL (Txt.part s (3*k) (3*k+2)))=some (Txt.wdL (Txt.part s (3*k) (3*k+2)) :: acc):=by
  unfold Txt.a4D;rw[if_pos ⟨h0,hm⟩]
 rcases h with ⟨_,h⟩|⟨h,_⟩
 ·rcases e0F s k h3 hk with ⟨e1,e2,e3⟩|⟨e1,a,b,c,e2,e3,e4⟩
  ·right;refine⟨by omega,?_⟩;rw[h,e2]
   obtain⟨x,y,hxy⟩:∃ x y,Txt.part s (3*k) (3*k+2)=[x,y]:=by
    match hm:Txt.part s (3*k) (3*k+2),e3 with
    |[x,y],_=>exact⟨x,y,rfl⟩
   rw[hxy] at st ⊢;exact st
  ·left;refine⟨by omega,?_⟩
   have hc:c=44:=by
    have:=hs (by omega);rw[<- e4] at this;exact UInt8.toNat_inj.1 (by simpa using (by omega:(c.toNat)=44))
   rw[h,e2,Txt.onC,if_pos hc,<- e3,st];rfl
 ·omega
theorem g0u(s:ByteArray)(w:World)(hm:s.size<=160):
  Calls Tryz.prog 129 #[.string s] w fun e w'=>(∃ acc,e=.returned (.tuple #[a3E acc,.bool (Txt.onB s)])/\(Txt.onB s=true->Txt.onW s=some acc))/\Below w.heap.size w w':=by
 by_cases h3:s.size % 3=2
 ·have h3':(((s.size:Int) % 3) != 2)=false:=b5z (by omega)
  go_enter Tryz.func129,Tryz.ntmps129
  go_wp2;obtain⟨W,hW⟩:∃ W,W=(w.alloc (.cells #[.bool false,.bool false,.bool false,.bool false,.bool false,.bool false,.bool false] 159)).alloc (.cells #[.bool false,.bool false,.bool false,.bool false,.bool false,.bool false,.bool false] 159):=⟨_,rfl⟩;rw[<- hW];have hB:Below w.heap.size w W:=by rw[hW];exact ((zr _ _).alloc (zq _) _).alloc (by simp) _
  have hZ:w.heap.size+2=W.heap.size:=by rw[hW];simp
  have dR:DS W w.heap.size []:=by
   rw[hW];refine⟨?_,?_,?_,?_,?_,?_,?_,fun j=>?_⟩ <;> simp[isd]
  have dD:DS W (w.heap.size+1) []:=by
   rw[hW];refine⟨?_,?_,?_,?_,?_,?_,?_,fun j=>?_⟩ <;> simp[isd]
  clear hW
  go_loopw [5,6] (fun i _ wx=>∃ (k:Nat) (acc:List Int),3*k<=s.size+1/\i=.int .i64 ((3*k:Nat):Int)/\g1I s k acc/\DS wx (w.heap.size+1) acc/\DS wx w.heap.size []/\Below w.heap.size w wx/\w.heap.size+2<=wx.heap.size) (fun i _ _=>s.size+3-(intOf i).toNat)
  case atStart=>exact⟨0,[],by omega,rfl,f1q s h3,dD,dR,hB,by omega⟩
  case round =>
   obtain⟨k,acc,hk,rfl,hat,hD,hR,hnx,hsz⟩:=hrel
   by_cases hlt:3*k<s.size
   ·have hd:=Txt.c3Q (Txt.part s (3*k) (3*k+2));have HAT:=hide hat;clear hat
    go_wp2_with fail
    refine (e5W _ _).mono ?_;rintro e w1 ⟨rfl,hbw⟩;rw[show (s.extract (3*k) (3*k+2)).data.toList=Txt.part s (3*k) (3*k+2) from rfl];have hb1:Below w.heap.size w w1:=hnx.trans (hbw.mono hnx.size);have hs1:w.heap.size+2<=w1.heap.size:=Nat.le_trans hsz hbw.size;have hD1:=hD.later hbw;have hR1:=hR.later hbw;have q0:=hD1.c0;have q1:=hD1.c1;have q2:=hD1.c2;have q3:=hD1.c3;have q4:=hD1.c4;have q5:=hD1.c5;have q6:=hD1.c6;have r0:=hR1.c0;have r1:=hR1.c1;have r2:=hR1.c2;have r3:=hR1.c3;have r4:=hR1.c4;have r5:=hR1.c5;have r6:=hR1.c6;have fR:=hR1.f;have fD:=hD1.f;obtain⟨d,hdd⟩:∃ d,d=Txt.wdL (Txt.part s (3*k) (3*k+2)):=⟨_,rfl⟩;have HBAD:=hide (fun q=>f8F (a0d HAT) h3 hlt q);have HNEXT:=hide (fun q1 q2 q3=>f4y (a0d HAT) h3 hlt q1 q2 q3);rw[<- hdd] at hd HBAD HNEXT ⊢;clear hdd hD hR hnx hsz hbw hB hZ dR dD
    by_cases hneg:d<0
    ·have HN:Hid (Txt.onB s=false):=by show Txt.onB s=false;unfold Txt.onB;rw[a0d HBAD (.inl hneg)];rfl
     go_wp2;refine bodyPost_ret (v:=.tuple #[a3E acc,.bool false]) (by simp[results,Tryz.results129,go_sem,a3E,r0,r1,r2,r3,r4,r5,r6]) rfl ⟨⟨acc,?_,?_⟩,?_⟩
     ·rw[HN.out]
     ·intro h;rw[HN.out] at h;cases h
     ·exact (((((((hb1.setCell (zq _) _).setCell (zq _) _).setCell (zq _) _).setCell (zq _) _).setCell (zq _) _).setCell (zq _) _).setCell (zq _) _)
    ·have hc:=hD1.at d (by omega) (by omega)
     cases hmk:isd acc d
     ·rw[hmk] at hc
      by_cases h2:3*k+2<s.size
      ·cases hsep:(((s[3*k+2]'h2).toNat:Int) != 44)
       ·have HX:Hid (g1I s (k+1) (d :: acc)):=a0d HNEXT (by omega) hmk (fun _=>by
         rw[Txt.a2W s _ h2];simpa using hsep)
        go_wp2;refine⟨⟨k+1,d :: acc,by omega,by go_num,HX.out,?_,?_,?_,?_⟩,by simp[intOf];omega⟩
        ·exact hD1.set d (by omega)
        ·exact c3s hR1 (by omega)
        ·exact hb1.setCell (by simp) _
        ·simp;omega
       ·have HN:Hid (Txt.onB s=false):=by
         show Txt.onB s=false;unfold Txt.onB;rw[a0d HBAD (.inr (.inr ⟨h2,by rw[Txt.a2W s _ h2];simpa using hsep⟩))];rfl
        go_wp2;refine bodyPost_ret (v:=.tuple #[a3E acc,.bool false]) (by simp[results,Tryz.results129,go_sem,a3E,r0,r1,r2,r3,r4,r5,r6]) rfl ⟨⟨acc,?_,?_⟩,?_⟩
        ·rw[HN.out]
        ·intro h;rw[HN.out] at h;cases h
        ·exact (((((((hb1.setCell (zq _) _).setCell (zq _) _).setCell (zq _) _).setCell (zq _) _).setCell (zq _) _).setCell (zq _) _).setCell (zq _) _)
      ·have HX:Hid (g1I s (k+1) (d :: acc)):=a0d HNEXT (by omega) hmk (fun h=>absurd h h2);go_wp2;refine⟨⟨k+1,d :: acc,by omega,by go_num,HX.out,?_,?_,?_,?_⟩,by simp[intOf];omega⟩
       ·exact hD1.set d (by omega)
       ·exact c3s hR1 (by omega)
       ·exact hb1.setCell (by simp) _
       ·simp;omega
     ·rw[hmk] at hc;have HN:Hid (Txt.onB s=false):=by show Txt.onB s=false;unfold Txt.onB;rw[a0d HBAD (.inr (.inl hmk))];rfl
      go_wp2;refine bodyPost_ret (v:=.tuple #[a3E acc,.bool false]) (by simp[results,Tryz.results129,go_sem,a3E,r0,r1,r2,r3,r4,r5,r6]) rfl ⟨⟨acc,?_,?_⟩,?_⟩
      ·rw[HN.out]
      ·intro h;rw[HN.out] at h;cases h
      ·exact (((((((hb1.setCell (zq _) _).setCell (zq _) _).setCell (zq _) _).setCell (zq _) _).setCell (zq _) _).setCell (zq _) _).setCell (zq _) _)
   ·have HF:Hid (Txt.onW s=some acc):=by
     rcases hat with ⟨h,_⟩|⟨_,h⟩
     ·omega
     ·exact h
    have HN:Hid (Txt.onB s=true):=by show Txt.onB s=true;unfold Txt.onB;rw[HF.out];rfl
    clear hat;have q0:=hD.c0;have q1:=hD.c1;have q2:=hD.c2;have q3:=hD.c3;have q4:=hD.c4;have q5:=hD.c5;have q6:=hD.c6;have r0:=hR.c0;have r1:=hR.c1;have r2:=hR.c2;have r3:=hR.c3;have r4:=hR.c4;have r5:=hR.c5;have r6:=hR.c6;have fR:=hR.f;go_wp2;refine bodyPost_ret (v:=.tuple #[a3E acc,.bool true]) (by simp[results,Tryz.results129,go_sem,a3E,r0,r1,r2,r3,r4,r5,r6]) rfl ⟨⟨acc,?_,?_⟩,?_⟩
    ·rw[HN.out]
    ·intro _;exact HF.out
    ·exact (((((((hnx.setCell (zq _) _).setCell (zq _) _).setCell (zq _) _).setCell (zq _) _).setCell (zq _) _).setCell (zq _) _).setCell (zq _) _)
 ·have h3':(((s.size:Int) % 3) != 2)=true:=b5y (by omega)
  have HN:Hid (Txt.onB s=false):=by
   show Txt.onB s=false;unfold Txt.onB
   cases ho:Txt.onW s with
   |none=>rfl
   |some r=>have:=Txt.f4x _ _ _ ho;rw[Txt.a1d] at this;omega
  clear h3
  go_enter Tryz.func129,Tryz.ntmps129
  go_wp2;refine bodyPost_ret (v:=.tuple #[a3E [],.bool false]) (by simp[results,Tryz.results129,go_sem,a3E,isd]) rfl ⟨⟨[],?_,?_⟩,?_⟩
  ·rw[HN.out]
  ·intro h;rw[HN.out] at h;cases h
  ·exact ((zr _ _).alloc (zq _) _).alloc (by simp) _
def pcs(s:ByteArray):List ByteArray:=Lib.splitB ⟨#[44]⟩ 0 (Lib.countB s ⟨#[44]⟩) s
theorem b9O(s:ByteArray):(pcs s).length=Lib.countB s ⟨#[44]⟩+1:=Lib.splitB_all ⟨#[44]⟩ (by decide) 0 _ s rfl
theorem c6b(s:ByteArray):Txt.onP ((pcs s).map (·.data.toList)) []=Txt.onW s:=Txt.b9L s
theorem b5r(s:ByteArray)(h:s.size<=160):(pcs s).length<=161:=by
 rw[b9O];have:=Lib.countB_le ⟨#[44]⟩ (by decide) s.size s (zq _);omega
theorem b7Y(w:World)(l:List ByteArray)(t:TypeId)(j:Nat)(x:ByteArray)(h:l[j]?=some x):(w.alloc (.cells (l.map Value.string).toArray t)).cell? ⟨w.heap.size,j,none⟩=some (.string x):=by
 rw[World.cell?_alloc_at _ _ _ _ rfl];simp[h]
def b2W(s:ByteArray)(k:Nat)(acc:List Int):Prop:=Txt.onW s=Txt.onP (((pcs s).map (·.data.toList)).drop k) acc
theorem b0D(h:b2W s k acc)(hk:k<(pcs s).length):Txt.onW s=(Txt.a4D acc (Txt.wdL (pcs s)[k].data.toList)).bind (Txt.onP (((pcs s).map (·.data.toList)).drop (k+1))):=by
 rw[h,List.drop_eq_getElem_cons (by simpa using hk)];simp[Txt.onP]
theorem b9X(h:b2W s k acc)(hk:k<(pcs s).length)(hd:Txt.wdL (pcs s)[k].data.toList<0\/isd acc (Txt.wdL (pcs s)[k].data.toList)=true):Txt.onB s=false:=by
 have e:=b0D h hk
 have bad:Txt.a4D acc (Txt.wdL (pcs s)[k].data.toList)=none:=by
  unfold Txt.a4D;rw[if_neg];rintro ⟨q1,q2⟩;rcases hd with q|q
  ·omega
  ·unfold isd at q;rw[q] at q2;cases q2
 rw[bad] at e;unfold Txt.onB;rw[e];rfl
theorem b8a(h:b2W s k acc)(hk:k<(pcs s).length)(h0:0<=Txt.wdL (pcs s)[k].data.toList)(hm:isd acc (Txt.wdL (pcs s)[k].data.toList)=false):b2W s (k+1) (Txt.wdL (pcs s)[k].data.toList :: acc):=by
 have e:=b0D h hk
 have st:Txt.a4D acc (Txt.wdL (pcs s)[k].data.toList)=some (Txt.wdL (pcs s)[k].data.toList :: acc):=by
  unfold Txt.a4D;rw[if_pos ⟨h0,hm⟩]
 rw[st] at e;exact e
theorem b9W(h:b2W s k acc)(hk:(pcs s).length<=k):Txt.onW s=some acc:=by
 unfold b2W at h;rw[List.drop_of_length_le (by simpa using hk)] at h;exact h
theorem b0z(s:ByteArray)(w:World)(he:Env w)(hm:s.size<=160):
  Calls Tryz.prog 194 #[.string s] w fun e w'=>(∃ acc,e=.returned (.tuple #[a3E acc,.bool (Txt.onB s)])/\(Txt.onB s=true->Txt.onW s=some acc))/\Below w.heap.size w w':=by
 obtain⟨mx,hmx⟩:=he.c5L;have HE:=hide he;have hz:=he.size;clear he;have hcs:=b5r s hm
 go_enter Tryz.func194,Tryz.ntmps194
 go_wp2_with fail
 obtain⟨W,hW⟩:∃ W,W=(w.alloc (.cells #[.bool false,.bool false,.bool false,.bool false,.bool false,.bool false,.bool false] 160)).alloc (.cells #[.bool false,.bool false,.bool false,.bool false,.bool false,.bool false,.bool false] 160):=⟨_,rfl⟩;rw[<- hW];have hB:Below w.heap.size w W:=by rw[hW];exact ((zr _ _).alloc (zq _) _).alloc (by simp) _
 have hZ:w.heap.size+2=W.heap.size:=by rw[hW];simp
 have dR:DS W w.heap.size []:=by
  rw[hW];refine⟨?_,?_,?_,?_,?_,?_,?_,fun j=>?_⟩ <;> simp[isd]
 have dD:DS W (w.heap.size+1) []:=by
  rw[hW];refine⟨?_,?_,?_,?_,?_,?_,?_,fun j=>?_⟩ <;> simp[isd]
 have hmW:=cell_later hB hmx;clear hW;refine (Tryz.strings_Split s ⟨#[44]⟩ mx W (by omega) hmW (by decide)).mono ?_;rintro e w1 ⟨rfl,hw1⟩;have hP:∀ j x,(pcs s)[j]?=some x->w1.cell? ⟨W.heap.size,j,none⟩=some (.string x):=fun j x hx=>by rw[hw1];exact b7Y W (pcs s) _ j x hx
 have hb1:Below W.heap.size W w1:=by rw[hw1];exact (zr _ _).alloc (zq _) _
 have hZ1:W.heap.size<w1.heap.size:=by rw[hw1];simp
 clear hw1;rw[show Lib.countB s ⟨#[44]⟩+1=(pcs s).length from (b9O s).symm];have HP:=hide hP;have HEW:=hide (((a0d HE).later hB).later hb1);have dR1:=dR.later hb1;have dD1:=dD.later hb1;have hbw:Below w.heap.size w w1:=hB.trans (hb1.mono (by omega));clear hP dR dD hB hmW hmx HEW;go_wp2
 go_loopw [6,7,8,12] (fun _ _ _ i wx=>∃ (k:Nat) (acc:List Int),k<=(pcs s).length/\i=.int .i64 k/\b2W s k acc/\DS wx (w.heap.size+1) acc/\DS wx w.heap.size []/\Below w.heap.size w wx/\w1.heap.size<=wx.heap.size/\(∀ j x,(pcs s)[j]?=some x->wx.cell? ⟨W.heap.size,j,none⟩=some (.string x))) (fun _ _ _ i _=>(pcs s).length-(intOf i).toNat)
 case atStart=>exact⟨0,[],Nat.zero_le _,rfl,(c6b s).symm,dD1,dR1,hbw,Nat.le_refl _,a0d HP⟩
 case round =>
  obtain⟨k,acc,hk,rfl,hat,hD,hR,hnx,hsz,hpc⟩:=hrel;have HPC:=hide hpc;clear hpc;have hEr:=hide ((a0d HE).later hnx)
  by_cases hlt:k<(pcs s).length
  ·have hc:=a0d HPC k (pcs s)[k] (by simp[hlt]);have hi:(k:Int)<((pcs s).length:Int):=by omega
   have q0:=hD.c0;have q1:=hD.c1;have q2:=hD.c2;have q3:=hD.c3;have q4:=hD.c4;have q5:=hD.c5;have q6:=hD.c6;have r0:=hR.c0;have r1:=hR.c1;have r2:=hR.c2;have r3:=hR.c3;have r4:=hR.c4;have r5:=hR.c5;have r6:=hR.c6;have fR:=hR.f;have fD:=hD.f;have hd:=Txt.c3Q (pcs s)[k].data.toList;have HBAD:=hide (fun q=>b9X hat hlt q);have HNEXT:=hide (fun q1 q2=>b8a hat hlt q1 q2);clear hat
   go_wp2_with fail
   refine (a8Y _ _ (a0d hEr)).mono ?_;rintro e w2 ⟨rfl,rfl⟩;obtain⟨d,hdd⟩:∃ d,d=Txt.wdL (pcs s)[k].data.toList:=⟨_,rfl⟩;have HV:Hid (wdV (pcs s)[k]=if 0<=d then d else 0):=by show wdV (pcs s)[k]=_;rw[hdd];rfl
   have HW:Hid (wdB (pcs s)[k]=decide (0<=d)):=by show wdB (pcs s)[k]=_;rw[hdd];rfl
   rw[<- hdd] at hd HBAD HNEXT;clear hdd
   by_cases hneg:d<0
   ·have HN:Hid (Txt.onB s=false):=a0d HBAD (.inl hneg);have HW2:Hid (wdB (pcs s)[k]=false):=HW.out.trans (decide_eq_false (by omega));rw[HW2.out];go_wp2;refine bodyPost_ret (v:=.tuple #[a3E [],.bool false]) (by simp[results,Tryz.results194,go_sem,a3E,isd,r0,r1,r2,r3,r4,r5,r6]) rfl ⟨⟨[],?_,?_⟩,?_⟩
    ·rw[HN.out]
    ·intro h;rw[HN.out] at h;cases h
    ·exact (((((((hnx.setCell (zq _) _).setCell (zq _) _).setCell (zq _) _).setCell (zq _) _).setCell (zq _) _).setCell (zq _) _).setCell (zq _) _)
   ·have HV2:Hid (wdV (pcs s)[k]=d):=HV.out.trans (if_pos (by omega));have HW2:Hid (wdB (pcs s)[k]=true):=HW.out.trans (decide_eq_true (by omega));rw[HV2.out,HW2.out];have hcd:=hD.at d (by omega) (by omega)
    cases hmk:isd acc d
    ·rw[hmk] at hcd;have HX:Hid (b2W s (k+1) (d :: acc)):=a0d HNEXT (by omega) hmk;go_wp2;refine⟨⟨k+1,d :: acc,by omega,by go_num,HX.out,?_,?_,?_,?_,?_⟩,by simp[intOf];omega⟩
     ·exact hD.set d (by omega)
     ·exact c3s hR (by omega)
     ·exact hnx.setCell (by simp) _
     ·simp;omega
     ·intro j x hx;exact (zS _ _ _ _ (by simp)).trans (a0d HPC j x hx)
    ·rw[hmk] at hcd;have HN:Hid (Txt.onB s=false):=a0d HBAD (.inr hmk);go_wp2;refine bodyPost_ret (v:=.tuple #[a3E [],.bool false]) (by simp[results,Tryz.results194,go_sem,a3E,isd,r0,r1,r2,r3,r4,r5,r6]) rfl ⟨⟨[],?_,?_⟩,?_⟩
     ·rw[HN.out]
     ·intro h;rw[HN.out] at h;cases h
     ·exact (((((((hnx.setCell (zq _) _).setCell (zq _) _).setCell (zq _) _).setCell (zq _) _).setCell (zq _) _).setCell (zq _) _).setCell (zq _) _)
  ·have HF:Hid (Txt.onW s=some acc):=b9W hat (by omega);have HN:Hid (Txt.onB s=true):=by show Txt.onB s=true;unfold Txt.onB;rw[HF.out];rfl
   clear hat;have q0:=hD.c0;have q1:=hD.c1;have q2:=hD.c2;have q3:=hD.c3;have q4:=hD.c4;have q5:=hD.c5;have q6:=hD.c6;have r0:=hR.c0;have r1:=hR.c1;have r2:=hR.c2;have r3:=hR.c3;have r4:=hR.c4;have r5:=hR.c5;have r6:=hR.c6;have fR:=hR.f;go_wp2;refine bodyPost_ret (v:=.tuple #[a3E acc,.bool true]) (by simp[results,Tryz.results194,go_sem,a3E,r0,r1,r2,r3,r4,r5,r6]) rfl ⟨⟨acc,?_,?_⟩,?_⟩
   ·rw[HN.out]
   ·intro _;exact HF.out
   ·exact (((((((hnx.setCell (zq _) _).setCell (zq _) _).setCell (zq _) _).setCell (zq _) _).setCell (zq _) _).setCell (zq _) _).setCell (zq _) _)
theorem Env.kept(h:Env w)(k:Kept R w w')(hR:10<=R):Env w':=by
 have hb:Below 10 w w':=k.below hR h.size;have hc:∀ (b o:Nat) (v:Value),b<10->w.cell? ⟨b,o,none⟩=some v->w'.cell? ⟨b,o,none⟩=some v:=fun b o v hb' e=>(hb.cell (p:=⟨b,o,none⟩) hb').trans e
 obtain⟨m,hm⟩:=h.c5L;obtain⟨c0,c1,c2,c3,c4,c5,c6,c7,c8,c9,c10,c11⟩:=h.tab;refine⟨⟨hc _ _ _ (by omega) c0,hc _ _ _ (by omega) c1,hc _ _ _ (by omega) c2,hc _ _ _ (by omega) c3,hc _ _ _ (by omega) c4,hc _ _ _ (by omega) c5,hc _ _ _ (by omega) c6,hc _ _ _ (by omega) c7,hc _ _ _ (by omega) c8,hc _ _ _ (by omega) c9,hc _ _ _ (by omega) c10,hc _ _ _ (by omega) c11⟩,⟨m,hc _ _ _ (by omega) hm⟩,?_,Nat.le_trans h.size k.size,hc _ _ _ (by omega) h.mo,hc _ _ _ (by omega) h.tu,hc _ _ _ (by omega) h.we,hc _ _ _ (by omega) h.th,hc _ _ _ (by omega) h.fr,hc _ _ _ (by omega) h.sa,hc _ _ _ (by omega) h.su⟩;have hp:=h.pow;unfold Lib.TabIs World.var? at hp ⊢;simp only[c6q,Option.bind_some] at hp ⊢;rw[hb.block 0 (by omega)];exact hp
def a0K(s:ByteArray)(lo hi:Int):Bool:=Txt.isNum s.data.toList && decide (lo<=Txt.a2f s.data.toList) && decide (Txt.a2f s.data.toList<=hi)
theorem b0o(s:ByteArray)(L M:Nat)(lo hi:Int)(w:World)(hs:s.size<=160)(cl:w.cell? ⟨L,0,none⟩=some (.int .i64 lo))(cm:w.cell? ⟨M,0,none⟩=some (.int .i64 hi)):
  Calls Tryz.prog 191 #[.string s,.pointer (some ⟨L,0,none⟩),.pointer (some ⟨M,0,none⟩)] w fun e w'=>e=.returned (.tuple #[.int .i64 (Txt.a2f s.data.toList),.bool (a0K s lo hi)])/\∃ n,w'=w.drewN n:=by
 have hm:s.size<=maxLen:=by unfold maxLen;omega
 cases hn:Txt.isNum s.data.toList
 ·go_enter Tryz.func191,Tryz.ntmps191
  go_wp2_with fail
  refine (a0m s w hm).mono ?_;rintro e w1 ⟨rfl,rfl⟩;rw[hn];go_wp2
  go_quiet (fail)
  go_wp2;go_ret2;exact⟨a0A rfl (by simp[a0K,hn]),_,rfl⟩
 ·by_cases g1:lo<=Txt.a2f s.data.toList
  ·by_cases g2:Txt.a2f s.data.toList<=hi
   ·go_enter Tryz.func191,Tryz.ntmps191
    go_wp2_with fail
    refine (a0m s w hm).mono ?_;rintro e w1 ⟨rfl,rfl⟩;rw[hn];go_wp2
    go_quiet (fail)
    go_wp2;go_ret2;exact⟨a0A rfl (by simp[a0K,hn,g1,g2]),_,rfl⟩
   ·have g2':decide (Txt.a2f s.data.toList<=hi)=false:=decide_eq_false g2
    go_enter Tryz.func191,Tryz.ntmps191
    go_wp2_with fail
    refine (a0m s w hm).mono ?_;rintro e w1 ⟨rfl,rfl⟩;rw[hn];go_wp2
    go_quiet (fail)
    go_wp2;go_ret2;exact⟨a0A rfl (by simp[a0K,hn,g1,g2']),_,rfl⟩
  ·have g1':decide (lo<=Txt.a2f s.data.toList)=false:=decide_eq_false g1
   go_enter Tryz.func191,Tryz.ntmps191
   go_wp2_with fail
   refine (a0m s w hm).mono ?_;rintro e w1 ⟨rfl,rfl⟩;rw[hn];go_wp2
   go_quiet (fail)
   go_wp2;go_ret2;exact⟨a0A rfl (by simp[a0K,hn,g1']),_,rfl⟩
theorem b4w(R A:Nat)(ws:List ByteArray)(nx:Nat)(wr:Bool)(w:World)(h:RS w R A ws nx wr)(he:Env w)(hm:a1b ws.length nx wr=true)(hlt:nx<ws.length)(hb:Txt.a2y ws[nx]=true):
  Calls Tryz.prog 135 #[.pointer (some ⟨R,0,none⟩),.func (.func 136) #[] #[]] w fun e w'=>e=.returned (.int .i64 (b0a ws[nx]))/\RS w' R A ws (nx+1) wr/\Kept R w w':=by
 have hi:(nx:Int)<(ws.length:Int):=by omega
 have hsz:ws[nx].size<=160:=h.short _ (zg hlt);have HSZ:=hide hsz;clear hsz;have HE:=hide he;clear he
 go_enter Tryz.func135,Tryz.ntmps135
 go_wp2_with fail
 refine (a0X R A ws nx wr w h).mono ?_;rintro e w1 ⟨rfl,n,hw⟩;have h1:RS w1 R A ws nx wr:=by rw[hw];exact h.drewN n
 have k1:Kept R w w1:=by rw[hw];exact (Kept.refl R w).drewN n
 have HE1:Hid (Env w1):=by show Env w1;rw[hw];exact (a0d HE).drewN n
 have c0:=h1.c0;have c1:=h1.c1;have f1:=h1.f1;have cr:=h1.rows nx hlt;have hl:=h1.len;clear hw;go_wp2
 go_quiet ((go_at_call 136;exact Calls.quiet_of_same (a8b _ _ ((a0d HE1).drewN _).tab (a0d HSZ))))
 go_wp2;go_ret;exact⟨rfl,(h1.drewN _).step hlt,(k1.drewN _).setCell _ _⟩
theorem b4x(R A:Nat)(ws:List ByteArray)(nx:Nat)(wr:Bool)(w:World)(h:RS w R A ws nx wr)(he:Env w)(hm:a1b ws.length nx wr=true)(hlt:nx<ws.length)(hb:Txt.a2y ws[nx]=false):
  Calls Tryz.prog 135 #[.pointer (some ⟨R,0,none⟩),.func (.func 136) #[] #[]] w fun e w'=>e=.returned (.int .i64 (0))/\RS w' R A ws nx true/\Kept R w w':=by
 have hi:(nx:Int)<(ws.length:Int):=by omega
 have hsz:ws[nx].size<=160:=h.short _ (zg hlt);have HSZ:=hide hsz;clear hsz;have HE:=hide he;clear he
 go_enter Tryz.func135,Tryz.ntmps135
 go_wp2_with fail
 refine (a0X R A ws nx wr w h).mono ?_;rintro e w1 ⟨rfl,n,hw⟩;have h1:RS w1 R A ws nx wr:=by rw[hw];exact h.drewN n
 have k1:Kept R w w1:=by rw[hw];exact (Kept.refl R w).drewN n
 have HE1:Hid (Env w1):=by show Env w1;rw[hw];exact (a0d HE).drewN n
 have c0:=h1.c0;have c1:=h1.c1;have c2:=h1.c2;have f2:=h1.f2;have cr:=h1.rows nx hlt;have hl:=h1.len;clear hw;go_wp2
 go_quiet ((go_at_call 136;exact Calls.quiet_of_same (a8b _ _ ((a0d HE1).drewN _).tab (a0d HSZ))))
 go_wp2;go_ret;exact⟨rfl,(h1.drewN _).bad,(k1.drewN _).setCell _ _⟩
theorem small(h:n<=160):n<=maxLen:=by unfold maxLen;omega
theorem b1u(R A:Nat)(ws:List ByteArray)(nx:Nat)(wr:Bool)(w:World)(h:RS w R A ws nx wr)(hm:a1b ws.length nx wr=true)(hlt:nx<ws.length)(hb:Txt.a3a ws[nx]=true):
  Calls Tryz.prog 135 #[.pointer (some ⟨R,0,none⟩),.func (.func 137) #[] #[]] w fun e w'=>e=.returned (.int .i64 (Txt.a6J ws[nx]))/\RS w' R A ws (nx+1) wr/\Kept R w w':=by
 have hi:(nx:Int)<(ws.length:Int):=by omega
 have hsz:ws[nx].size<=160:=h.short _ (zg hlt);have HSZ:=hide hsz;clear hsz
 go_enter Tryz.func135,Tryz.ntmps135
 go_wp2_with fail
 refine (a0X R A ws nx wr w h).mono ?_;rintro e w1 ⟨rfl,n,hw⟩;have h1:RS w1 R A ws nx wr:=by rw[hw];exact h.drewN n
 have k1:Kept R w w1:=by rw[hw];exact (Kept.refl R w).drewN n
 have c0:=h1.c0;have c1:=h1.c1;have f1:=h1.f1;have cr:=h1.rows nx hlt;have hl:=h1.len;clear hw;go_wp2
 go_quiet ((go_at_call 137;exact Calls.quiet_of_same (a2m _ _ (small (a0d HSZ)))))
 go_wp2;go_ret;exact⟨rfl,(h1.drewN _).step hlt,(k1.drewN _).setCell _ _⟩
theorem b1v(R A:Nat)(ws:List ByteArray)(nx:Nat)(wr:Bool)(w:World)(h:RS w R A ws nx wr)(hm:a1b ws.length nx wr=true)(hlt:nx<ws.length)(hb:Txt.a3a ws[nx]=false):
  Calls Tryz.prog 135 #[.pointer (some ⟨R,0,none⟩),.func (.func 137) #[] #[]] w fun e w'=>e=.returned (.int .i64 (0))/\RS w' R A ws nx true/\Kept R w w':=by
 have hi:(nx:Int)<(ws.length:Int):=by omega
 have hsz:ws[nx].size<=160:=h.short _ (zg hlt);have HSZ:=hide hsz;clear hsz
 go_enter Tryz.func135,Tryz.ntmps135
 go_wp2_with fail
 refine (a0X R A ws nx wr w h).mono ?_;rintro e w1 ⟨rfl,n,hw⟩;have h1:RS w1 R A ws nx wr:=by rw[hw];exact h.drewN n
 have k1:Kept R w w1:=by rw[hw];exact (Kept.refl R w).drewN n
 have c0:=h1.c0;have c1:=h1.c1;have c2:=h1.c2;have f2:=h1.f2;have cr:=h1.rows nx hlt;have hl:=h1.len;clear hw;go_wp2
 go_quiet ((go_at_call 137;exact Calls.quiet_of_same (a2m _ _ (small (a0d HSZ)))))
 go_wp2;go_ret;exact⟨rfl,(h1.drewN _).bad,(k1.drewN _).setCell _ _⟩
theorem b4p(R A:Nat)(ws:List ByteArray)(nx:Nat)(wr:Bool)(w:World)(h:RS w R A ws nx wr)(he:Env w)(hm:a1b ws.length nx wr=true)(hlt:nx<ws.length)(hb:a0n ws[nx]=true):
  Calls Tryz.prog 135 #[.pointer (some ⟨R,0,none⟩),.func (.func 140) #[] #[]] w fun e w'=>e=.returned (.int .i64 (a1J ws[nx]))/\RS w' R A ws (nx+1) wr/\Kept R w w':=by
 have hi:(nx:Int)<(ws.length:Int):=by omega
 have hsz:ws[nx].size<=160:=h.short _ (zg hlt);have HSZ:=hide hsz;clear hsz;have HE:=hide he;clear he
 go_enter Tryz.func135,Tryz.ntmps135
 go_wp2_with fail
 refine (a0X R A ws nx wr w h).mono ?_;rintro e w1 ⟨rfl,n,hw⟩;have h1:RS w1 R A ws nx wr:=by rw[hw];exact h.drewN n
 have k1:Kept R w w1:=by rw[hw];exact (Kept.refl R w).drewN n
 have HE1:Hid (Env w1):=by show Env w1;rw[hw];exact (a0d HE).drewN n
 have c0:=h1.c0;have c1:=h1.c1;have f1:=h1.f1;have cr:=h1.rows nx hlt;have hl:=h1.len;clear hw;go_wp2
 go_quiet ((go_at_call 140;exact Calls.quiet_of (a7Z _ _ ((a0d HE1).drewN _) (a0d HSZ))))
 go_wp2;go_ret;exact⟨rfl,(h1.drewN _).step hlt,(k1.drewN _).setCell _ _⟩
theorem b4q(R A:Nat)(ws:List ByteArray)(nx:Nat)(wr:Bool)(w:World)(h:RS w R A ws nx wr)(he:Env w)(hm:a1b ws.length nx wr=true)(hlt:nx<ws.length)(hb:a0n ws[nx]=false):
  Calls Tryz.prog 135 #[.pointer (some ⟨R,0,none⟩),.func (.func 140) #[] #[]] w fun e w'=>e=.returned (.int .i64 (0))/\RS w' R A ws nx true/\Kept R w w':=by
 have hi:(nx:Int)<(ws.length:Int):=by omega
 have hsz:ws[nx].size<=160:=h.short _ (zg hlt);have HSZ:=hide hsz;clear hsz;have HE:=hide he;clear he
 go_enter Tryz.func135,Tryz.ntmps135
 go_wp2_with fail
 refine (a0X R A ws nx wr w h).mono ?_;rintro e w1 ⟨rfl,n,hw⟩;have h1:RS w1 R A ws nx wr:=by rw[hw];exact h.drewN n
 have k1:Kept R w w1:=by rw[hw];exact (Kept.refl R w).drewN n
 have HE1:Hid (Env w1):=by show Env w1;rw[hw];exact (a0d HE).drewN n
 have c0:=h1.c0;have c1:=h1.c1;have c2:=h1.c2;have f2:=h1.f2;have cr:=h1.rows nx hlt;have hl:=h1.len;clear hw;go_wp2
 go_quiet ((go_at_call 140;exact Calls.quiet_of (a7Z _ _ ((a0d HE1).drewN _) (a0d HSZ))))
 go_wp2;go_ret;exact⟨rfl,(h1.drewN _).bad,(k1.drewN _).setCell _ _⟩
theorem b1r(L M:Nat)(lo hi:Int)(R A:Nat)(ws:List ByteArray)(nx:Nat)(wr:Bool)(w:World)(h:RS w R A ws nx wr)(cl:w.cell? ⟨L,0,none⟩=some (.int .i64 lo))(cm:w.cell? ⟨M,0,none⟩=some (.int .i64 hi))(hm:a1b ws.length nx wr=true)(hlt:nx<ws.length)(hb:a0K ws[nx] lo hi=true):
  Calls Tryz.prog 135 #[.pointer (some ⟨R,0,none⟩),.func (.func 191) #[] #[.pointer (some ⟨L,0,none⟩),.pointer (some ⟨M,0,none⟩)]] w fun e w'=>e=.returned (.int .i64 (Txt.a2f ws[nx].data.toList))/\RS w' R A ws (nx+1) wr/\Kept R w w':=by
 have hib:(nx:Int)<(ws.length:Int):=by omega
 have hsz:ws[nx].size<=160:=h.short _ (zg hlt);have HSZ:=hide hsz;clear hsz
 go_enter Tryz.func135,Tryz.ntmps135
 go_wp2_with fail
 refine (a0X R A ws nx wr w h).mono ?_;rintro e w1 ⟨rfl,n,hw⟩;have h1:RS w1 R A ws nx wr:=by rw[hw];exact h.drewN n
 have k1:Kept R w w1:=by rw[hw];exact (Kept.refl R w).drewN n
 have cl1:Hid (w1.cell? ⟨L,0,none⟩=some (.int .i64 lo)):=by show w1.cell? _=_;rw[hw];exact cl
 have cm1:Hid (w1.cell? ⟨M,0,none⟩=some (.int .i64 hi)):=by show w1.cell? _=_;rw[hw];exact cm
 clear cl cm;have c0:=h1.c0;have c1:=h1.c1;have f1:=h1.f1;have cr:=h1.rows nx hlt;have hl:=h1.len;clear hw;go_wp2
 go_quiet ((go_at_call 191;exact Calls.quiet_of (b0o _ L M lo hi _ (a0d HSZ) (a0d cl1) (a0d cm1))))
 go_wp2;go_ret;exact⟨rfl,(h1.drewN _).step hlt,(k1.drewN _).setCell _ _⟩
theorem b1s(L M:Nat)(lo hi:Int)(R A:Nat)(ws:List ByteArray)(nx:Nat)(wr:Bool)(w:World)(h:RS w R A ws nx wr)(cl:w.cell? ⟨L,0,none⟩=some (.int .i64 lo))(cm:w.cell? ⟨M,0,none⟩=some (.int .i64 hi))(hm:a1b ws.length nx wr=true)(hlt:nx<ws.length)(hb:a0K ws[nx] lo hi=false):
  Calls Tryz.prog 135 #[.pointer (some ⟨R,0,none⟩),.func (.func 191) #[] #[.pointer (some ⟨L,0,none⟩),.pointer (some ⟨M,0,none⟩)]] w fun e w'=>e=.returned (.int .i64 (0))/\RS w' R A ws nx true/\Kept R w w':=by
 have hib:(nx:Int)<(ws.length:Int):=by omega
 have hsz:ws[nx].size<=160:=h.short _ (zg hlt);have HSZ:=hide hsz;clear hsz
 go_enter Tryz.func135,Tryz.ntmps135
 go_wp2_with fail
 refine (a0X R A ws nx wr w h).mono ?_;rintro e w1 ⟨rfl,n,hw⟩;have h1:RS w1 R A ws nx wr:=by rw[hw];exact h.drewN n
 have k1:Kept R w w1:=by rw[hw];exact (Kept.refl R w).drewN n
 have cl1:Hid (w1.cell? ⟨L,0,none⟩=some (.int .i64 lo)):=by show w1.cell? _=_;rw[hw];exact cl
 have cm1:Hid (w1.cell? ⟨M,0,none⟩=some (.int .i64 hi)):=by show w1.cell? _=_;rw[hw];exact cm
 clear cl cm;have c0:=h1.c0;have c1:=h1.c1;have c2:=h1.c2;have f2:=h1.f2;have cr:=h1.rows nx hlt;have hl:=h1.len;clear hw;go_wp2
 go_quiet ((go_at_call 191;exact Calls.quiet_of (b0o _ L M lo hi _ (a0d HSZ) (a0d cl1) (a0d cm1))))
 go_wp2;go_ret;exact⟨rfl,(h1.drewN _).bad,(k1.drewN _).setCell _ _⟩
theorem b4r(f:Value)(R A:Nat)(ws:List ByteArray)(nx:Nat)(wr:Bool)(w:World)(h:RS w R A ws nx wr)(hm:a1b ws.length nx wr=false):
  Calls Tryz.prog 130 #[.pointer (some ⟨R,0,none⟩),f] w fun e w'=>e=.returned (.string ⟨#[]⟩)/\RS w' R A ws nx true/\Kept R w w':=by
 go_enter Tryz.func130,Tryz.ntmps130
 go_wp2_with fail
 refine (a0X R A ws nx wr w h).mono ?_;rintro e w1 ⟨rfl,n,hw⟩;have h1:RS w1 R A ws nx wr:=by rw[hw];exact h.drewN n
 have k1:Kept R w w1:=by rw[hw];exact (Kept.refl R w).drewN n
 have c2:=h1.c2;have f2:=h1.f2;clear hw;go_wp2;go_ret;exact⟨rfl,h1.bad,k1.setCell _ _⟩
theorem b4u(R A:Nat)(ws:List ByteArray)(nx:Nat)(wr:Bool)(w:World)(h:RS w R A ws nx wr)(hm:a1b ws.length nx wr=true)(hlt:nx<ws.length)(hb:Txt.a1j ws[nx].data.toList=true):
  Calls Tryz.prog 130 #[.pointer (some ⟨R,0,none⟩),.func (.func 131) #[] #[]] w fun e w'=>e=.returned (.string (b4S ws[nx]))/\RS w' R A ws (nx+1) wr/\Kept R w w':=by
 have hi:(nx:Int)<(ws.length:Int):=by omega
 have hi0:(0:Int)<=(nx:Int):=Int.natCast_nonneg _;have hsz:ws[nx].size<=160:=h.short _ (zg hlt);have HSZ:=hide hsz;clear hsz
 go_enter Tryz.func130,Tryz.ntmps130
 go_wp2_with fail
 refine (a0X R A ws nx wr w h).mono ?_;rintro e w1 ⟨rfl,n,hw⟩;have h1:RS w1 R A ws nx wr:=by rw[hw];exact h.drewN n
 have k1:Kept R w w1:=by rw[hw];exact (Kept.refl R w).drewN n
 have c0:=h1.c0;have c1:=h1.c1;have cr:=h1.rows nx hlt;have hl:=h1.len;clear hw
 go_wp2_with fail
 go_region_held3 (fun w'=>w'.cell? ⟨R,0,none⟩=some (.slice (some ⟨A,0,none⟩) ws.length ws.length)/\w'.cell? ⟨R,1,none⟩=some (.int .i64 nx)/\w'.cell? ⟨A,nx,none⟩=some (.string ws[nx]))
  (first
   |go_keep
   |(
    go_split_ands
    refine⟨?_,?_,?_⟩
    ·exact cell_later hbf (by assumption)
    ·exact cell_later hbf (by assumption)
    ·exact cell_later hbf (by assumption)))
  ((go_at_call 131;refine (a8a _ _ (a0d HSZ)).mono ?_;rintro e w4 ⟨rfl,hbf⟩))
 have hbf':Below w1.heap.size w1 w4:=⟨hbf.os,hbf.tape,hbf.output,hbf.size,hbf.block⟩;have h4:=h1.of_below hbf';have k4:=k1.trans (Kept.of_below hbf');have d1:=h4.c1;have d2:=h4.c2;have g1:=h4.f1;have g2:=h4.f2;clear c0 c1 cr;go_wp2;go_ret;exact⟨rfl,h4.step hlt,k4.setCell _ _⟩
theorem b4v(R A:Nat)(ws:List ByteArray)(nx:Nat)(wr:Bool)(w:World)(h:RS w R A ws nx wr)(hm:a1b ws.length nx wr=true)(hlt:nx<ws.length)(hb:Txt.a1j ws[nx].data.toList=false):
  Calls Tryz.prog 130 #[.pointer (some ⟨R,0,none⟩),.func (.func 131) #[] #[]] w fun e w'=>e=.returned (.string ⟨#[]⟩)/\RS w' R A ws nx true/\Kept R w w':=by
 have hi:(nx:Int)<(ws.length:Int):=by omega
 have hi0:(0:Int)<=(nx:Int):=Int.natCast_nonneg _;have hsz:ws[nx].size<=160:=h.short _ (zg hlt);have HSZ:=hide hsz;clear hsz
 go_enter Tryz.func130,Tryz.ntmps130
 go_wp2_with fail
 refine (a0X R A ws nx wr w h).mono ?_;rintro e w1 ⟨rfl,n,hw⟩;have h1:RS w1 R A ws nx wr:=by rw[hw];exact h.drewN n
 have k1:Kept R w w1:=by rw[hw];exact (Kept.refl R w).drewN n
 have c0:=h1.c0;have c1:=h1.c1;have cr:=h1.rows nx hlt;have hl:=h1.len;clear hw
 go_wp2_with fail
 go_region_held3 (fun w'=>w'.cell? ⟨R,0,none⟩=some (.slice (some ⟨A,0,none⟩) ws.length ws.length)/\w'.cell? ⟨R,1,none⟩=some (.int .i64 nx)/\w'.cell? ⟨A,nx,none⟩=some (.string ws[nx]))
  (first
   |go_keep
   |(
    go_split_ands
    refine⟨?_,?_,?_⟩
    ·exact cell_later hbf (by assumption)
    ·exact cell_later hbf (by assumption)
    ·exact cell_later hbf (by assumption)))
  ((go_at_call 131;refine (a8a _ _ (a0d HSZ)).mono ?_;rintro e w4 ⟨rfl,hbf⟩))
 have hbf':Below w1.heap.size w1 w4:=⟨hbf.os,hbf.tape,hbf.output,hbf.size,hbf.block⟩;have h4:=h1.of_below hbf';have k4:=k1.trans (Kept.of_below hbf');have d1:=h4.c1;have d2:=h4.c2;have g1:=h4.f1;have g2:=h4.f2;clear c0 c1 cr;go_wp2;go_ret;exact⟨rfl,h4.bad,k4.setCell _ _⟩
theorem a8I(h:a1b ws.length nx wr=false):tkB ws nx wr B=false:=by simp[tkB,h]
theorem a7h{b:Bool}(h:a1b ws.length nx wr=true)(hlt:nx<ws.length)(hb:B ws[nx]=b):tkB ws nx wr B=b:=by
 rw[tkB,h,a5f ws nx hlt,hb,Bool.true_and]
theorem b4t(R A:Nat)(ws:List ByteArray)(nx:Nat)(wr:Bool)(w:World)(h:RS w R A ws nx wr):
  Calls Tryz.prog 135 #[.pointer (some ⟨R,0,none⟩),.func (.func 139) #[] #[]] w fun e w'=>e=.returned (.int .i64 (tkV ws nx wr (fun s=>Txt.isNum s.data.toList) (fun s=>Txt.a2f s.data.toList)))/\RS w' R A ws (tkN ws nx wr (fun s=>Txt.isNum s.data.toList)) (tkW ws nx wr (fun s=>Txt.isNum s.data.toList))/\Kept R w w':=by
 cases hm:a1b ws.length nx wr
 ·have t:=a8I (B:=(fun s=>Txt.isNum s.data.toList)) hm;rw[tkV,tkN,tkW,t];exact a3s _ R A ws nx wr w h hm
 ·have hlt:=a4q hm
  cases hb:(fun s=>Txt.isNum s.data.toList) ws[nx]
  ·have t:=a7h (B:=(fun s=>Txt.isNum s.data.toList)) hm hlt hb;rw[tkV,tkN,tkW,t];exact b7O R A ws nx wr w h hm hlt (small (h.short _ (zg hlt))) hb
  ·have t:=a7h (B:=(fun s=>Txt.isNum s.data.toList)) hm hlt hb;rw[tkV,tkN,tkW,t,a5f ws nx hlt];exact b7N R A ws nx wr w h hm hlt (small (h.short _ (zg hlt))) hb
theorem a7W(R A:Nat)(ws:List ByteArray)(nx:Nat)(wr:Bool)(w:World)(h:RS w R A ws nx wr)(he:Env w):
  Calls Tryz.prog 135 #[.pointer (some ⟨R,0,none⟩),.func (.func 136) #[] #[]] w fun e w'=>e=.returned (.int .i64 (tkV ws nx wr Txt.a2y b0a))/\RS w' R A ws (tkN ws nx wr Txt.a2y) (tkW ws nx wr Txt.a2y)/\Kept R w w':=by
 cases hm:a1b ws.length nx wr
 ·have t:=a8I (B:=Txt.a2y) hm;rw[tkV,tkN,tkW,t];exact a3s _ R A ws nx wr w h hm
 ·have hlt:=a4q hm
  cases hb:Txt.a2y ws[nx]
  ·have t:=a7h (B:=Txt.a2y) hm hlt hb;rw[tkV,tkN,tkW,t];exact b4x R A ws nx wr w h he hm hlt hb
  ·have t:=a7h (B:=Txt.a2y) hm hlt hb;rw[tkV,tkN,tkW,t,a5f ws nx hlt];exact b4w R A ws nx wr w h he hm hlt hb
theorem b0c(R A:Nat)(ws:List ByteArray)(nx:Nat)(wr:Bool)(w:World)(h:RS w R A ws nx wr):
  Calls Tryz.prog 135 #[.pointer (some ⟨R,0,none⟩),.func (.func 137) #[] #[]] w fun e w'=>e=.returned (.int .i64 (tkV ws nx wr Txt.a3a Txt.a6J))/\RS w' R A ws (tkN ws nx wr Txt.a3a) (tkW ws nx wr Txt.a3a)/\Kept R w w':=by
 cases hm:a1b ws.length nx wr
 ·have t:=a8I (B:=Txt.a3a) hm;rw[tkV,tkN,tkW,t];exact a3s _ R A ws nx wr w h hm
 ·have hlt:=a4q hm
  cases hb:Txt.a3a ws[nx]
  ·have t:=a7h (B:=Txt.a3a) hm hlt hb;rw[tkV,tkN,tkW,t];exact b1v R A ws nx wr w h hm hlt hb
  ·have t:=a7h (B:=Txt.a3a) hm hlt hb;rw[tkV,tkN,tkW,t,a5f ws nx hlt];exact b1u R A ws nx wr w h hm hlt hb
theorem a7V(R A:Nat)(ws:List ByteArray)(nx:Nat)(wr:Bool)(w:World)(h:RS w R A ws nx wr)(he:Env w):
  Calls Tryz.prog 135 #[.pointer (some ⟨R,0,none⟩),.func (.func 140) #[] #[]] w fun e w'=>e=.returned (.int .i64 (tkV ws nx wr a0n a1J))/\RS w' R A ws (tkN ws nx wr a0n) (tkW ws nx wr a0n)/\Kept R w w':=by
 cases hm:a1b ws.length nx wr
 ·have t:=a8I (B:=a0n) hm;rw[tkV,tkN,tkW,t];exact a3s _ R A ws nx wr w h hm
 ·have hlt:=a4q hm
  cases hb:a0n ws[nx]
  ·have t:=a7h (B:=a0n) hm hlt hb;rw[tkV,tkN,tkW,t];exact b4q R A ws nx wr w h he hm hlt hb
  ·have t:=a7h (B:=a0n) hm hlt hb;rw[tkV,tkN,tkW,t,a5f ws nx hlt];exact b4p R A ws nx wr w h he hm hlt hb
theorem b0b(L M:Nat)(lo hi:Int)(R A:Nat)(ws:List ByteArray)(nx:Nat)(wr:Bool)(w:World)(h:RS w R A ws nx wr)(cl:w.cell? ⟨L,0,none⟩=some (.int .i64 lo))(cm:w.cell? ⟨M,0,none⟩=some (.int .i64 hi)):
  Calls Tryz.prog 135 #[.pointer (some ⟨R,0,none⟩),.func (.func 191) #[] #[.pointer (some ⟨L,0,none⟩),.pointer (some ⟨M,0,none⟩)]] w fun e w'=>e=.returned (.int .i64 (tkV ws nx wr (fun s=>a0K s lo hi) (fun s=>Txt.a2f s.data.toList)))/\RS w' R A ws (tkN ws nx wr (fun s=>a0K s lo hi)) (tkW ws nx wr (fun s=>a0K s lo hi))/\Kept R w w':=by
 cases hm:a1b ws.length nx wr
 ·have t:=a8I (B:=(fun s=>a0K s lo hi)) hm;rw[tkV,tkN,tkW,t];exact a3s _ R A ws nx wr w h hm
 ·have hlt:=a4q hm
  cases hb:(fun s=>a0K s lo hi) ws[nx]
  ·have t:=a7h (B:=(fun s=>a0K s lo hi)) hm hlt hb;rw[tkV,tkN,tkW,t];exact b1s L M lo hi R A ws nx wr w h cl cm hm hlt hb
  ·have t:=a7h (B:=(fun s=>a0K s lo hi)) hm hlt hb;rw[tkV,tkN,tkW,t,a5f ws nx hlt];exact b1r L M lo hi R A ws nx wr w h cl cm hm hlt hb
def tkS(ws:List ByteArray)(nx:Nat)(wr:Bool):ByteArray:=if tkB ws nx wr (fun s=>Txt.a1j s.data.toList) then b4S (ws.getD nx ByteArray.empty) else ⟨#[]⟩
theorem b2E(R A:Nat)(ws:List ByteArray)(nx:Nat)(wr:Bool)(w:World)(h:RS w R A ws nx wr):
  Calls Tryz.prog 130 #[.pointer (some ⟨R,0,none⟩),.func (.func 131) #[] #[]] w fun e w'=>e=.returned (.string (tkS ws nx wr))/\RS w' R A ws (tkN ws nx wr (fun s=>Txt.a1j s.data.toList)) (tkW ws nx wr (fun s=>Txt.a1j s.data.toList))/\Kept R w w':=by
 cases hm:a1b ws.length nx wr
 ·have t:=a8I (B:=fun s=>Txt.a1j s.data.toList) hm;rw[tkS,tkN,tkW,t];exact b4r _ R A ws nx wr w h hm
 ·have hlt:=a4q hm
  cases hb:Txt.a1j ws[nx].data.toList
  ·have t:=a7h (B:=fun s=>Txt.a1j s.data.toList) hm hlt hb;rw[tkS,tkN,tkW,t];exact b4v R A ws nx wr w h hm hlt hb
  ·have t:=a7h (B:=fun s=>Txt.a1j s.data.toList) hm hlt hb;rw[tkS,tkN,tkW,t,a5f ws nx hlt];exact b4u R A ws nx wr w h hm hlt hb
theorem a4n(lo hi:Int)(R A:Nat)(ws:List ByteArray)(nx:Nat)(wr:Bool)(w:World)(h:RS w R A ws nx wr):
  Calls Tryz.prog 132 #[.pointer (some ⟨R,0,none⟩),.int .i64 lo,.int .i64 hi] w fun e w'=>e=.returned (.int .i64 (tkV ws nx wr (fun s=>a0K s lo hi) (fun s=>Txt.a2f s.data.toList)))/\RS w' R A ws (tkN ws nx wr (fun s=>a0K s lo hi)) (tkW ws nx wr (fun s=>a0K s lo hi))/\Kept R w w':=by
 go_enter Tryz.func132,Tryz.ntmps132
 go_wp2_with fail
 obtain⟨X,hX⟩:∃ X,X=(w.alloc (.cells #[.int .i64 lo] 3)).alloc (.cells #[.int .i64 hi] 3):=⟨_,rfl⟩;rw[<- hX];have hb:Below w.heap.size w X:=by rw[hX];exact ((zr _ _).alloc (zq _) _).alloc (by simp) _
 have cl:X.cell? ⟨w.heap.size,0,none⟩=some (.int .i64 lo):=by rw[hX];simp
 have cm:X.cell? ⟨w.heap.size+1,0,none⟩=some (.int .i64 hi):=by rw[hX];simp
 clear hX;refine (b0b w.heap.size (w.heap.size+1) lo hi R A ws nx wr X (h.of_below hb) cl cm).mono ?_;rintro e w1 ⟨rfl,h1,k1⟩;have kk:=(Kept.of_below (R:=R) hb).trans k1;go_wp2;go_ret;exact⟨rfl,h1,kk⟩
theorem a3v(R A:Nat)(ws:List ByteArray)(nx:Nat)(wr:Bool)(w:World)(h:RS w R A ws nx wr):
  Calls Tryz.prog 83 #[.pointer (some ⟨R,0,none⟩)] w fun e w'=>e=.returned (.string (tkS ws nx wr))/\RS w' R A ws (tkN ws nx wr (fun s=>Txt.a1j s.data.toList)) (tkW ws nx wr (fun s=>Txt.a1j s.data.toList))/\Kept R w w':=by
 go_enter Tryz.func83,Tryz.ntmps83
 go_wp2_with fail
 refine (b2E R A ws nx wr w h).mono ?_;rintro e w1 ⟨rfl,h1,k1⟩;go_wp2;go_ret;exact⟨rfl,h1,k1⟩
theorem b9J(R A:Nat)(ws:List ByteArray)(nx:Nat)(wr:Bool)(w:World)(h:RS w R A ws nx wr):
  Calls Tryz.prog 88 #[.pointer (some ⟨R,0,none⟩)] w fun e w'=>e=.returned (.int .i64 (tkV ws nx wr (fun s=>Txt.isNum s.data.toList) (fun s=>Txt.a2f s.data.toList)))/\RS w' R A ws (tkN ws nx wr (fun s=>Txt.isNum s.data.toList)) (tkW ws nx wr (fun s=>Txt.isNum s.data.toList))/\Kept R w w':=by
 go_enter Tryz.func88,Tryz.ntmps88
 go_wp2_with fail
 refine (b4t R A ws nx wr w h).mono ?_;rintro e w1 ⟨rfl,h1,k1⟩;go_wp2;go_ret;exact⟨rfl,h1,k1⟩
theorem a5v(R A:Nat)(ws:List ByteArray)(nx:Nat)(wr:Bool)(w:World)(h:RS w R A ws nx wr):
  Calls Tryz.prog 84 #[.pointer (some ⟨R,0,none⟩)] w fun e w'=>e=.returned (.int .i64 (tkV ws nx wr (fun s=>a0K s 1 9) (fun s=>Txt.a2f s.data.toList)))/\RS w' R A ws (tkN ws nx wr (fun s=>a0K s 1 9)) (tkW ws nx wr (fun s=>a0K s 1 9))/\Kept R w w':=by
 go_enter Tryz.func84,Tryz.ntmps84
 go_wp2_with fail
 refine (a4n 1 9 R A ws nx wr w h).mono ?_;rintro e w1 ⟨rfl,h1,k1⟩;go_wp2;go_ret;exact⟨rfl,h1,k1⟩
theorem a2S(R A:Nat)(ws:List ByteArray)(nx:Nat)(wr:Bool)(w:World)(h:RS w R A ws nx wr):
  Calls Tryz.prog 86 #[.pointer (some ⟨R,0,none⟩)] w fun e w'=>e=.returned (.int .i64 (tkV ws nx wr (fun s=>a0K s 1 1048320) (fun s=>Txt.a2f s.data.toList)))/\RS w' R A ws (tkN ws nx wr (fun s=>a0K s 1 1048320)) (tkW ws nx wr (fun s=>a0K s 1 1048320))/\Kept R w w':=by
 go_enter Tryz.func86,Tryz.ntmps86
 go_wp2_with fail
 refine (a4n 1 1048320 R A ws nx wr w h).mono ?_;rintro e w1 ⟨rfl,h1,k1⟩;go_wp2;go_ret;exact⟨rfl,h1,k1⟩
theorem a7v(R A:Nat)(ws:List ByteArray)(nx:Nat)(wr:Bool)(w:World)(h:RS w R A ws nx wr):
  Calls Tryz.prog 192 #[.pointer (some ⟨R,0,none⟩)] w fun e w'=>e=.returned (.int .i64 (tkV ws nx wr (fun s=>a0K s 1 99) (fun s=>Txt.a2f s.data.toList)))/\RS w' R A ws (tkN ws nx wr (fun s=>a0K s 1 99)) (tkW ws nx wr (fun s=>a0K s 1 99))/\Kept R w w':=by
 go_enter Tryz.func192,Tryz.ntmps192
 go_wp2_with fail
 refine (a4n 1 99 R A ws nx wr w h).mono ?_;rintro e w1 ⟨rfl,h1,k1⟩;go_wp2;go_ret;exact⟨rfl,h1,k1⟩
theorem RS.other{v:Value}(h:RS w R A ws nx wr)(hR:b≠R)(hA:0<ws.length->b≠A):RS (w.setCell ⟨b,o,none⟩ v) R A ws nx wr:=by
 have g:∀ j:Nat,(w.setCell ⟨b,o,none⟩ v).cell? ⟨R,j,none⟩=w.cell? ⟨R,j,none⟩:=fun j=>World.cell?_setCell_far w ⟨b,o,none⟩ ⟨R,j,none⟩ v hR
 refine⟨(g 0).trans h.c0,(g 1).trans h.c1,(g 2).trans h.c2,(zF ..).trans h.f1,(zF ..).trans h.f2,h.ne,fun i hi=>?_,h.len,h.c6c,h.short⟩;exact (World.cell?_setCell_far w ⟨b,o,none⟩ ⟨A,i,none⟩ v (hA (by omega))).trans (h.rows i hi)
theorem RS.lt(h:RS w R A ws nx wr):R<w.heap.size/\(0<ws.length->A<w.heap.size) :=
 ⟨World.block_lt_of_cell? _ ⟨R,0,none⟩ h.c0,fun hl=>World.block_lt_of_cell? _ ⟨A,0,none⟩ (h.rows 0 hl)⟩
theorem Kept.setNew(h:Kept R w w')(hb:w.heap.size<=b)(v:Value):Kept R w (w'.setCell ⟨b,o,none⟩ v) :=
 ⟨(Below.setCell (B:=0) (Below.refl 0 w') (p:=⟨b,o,none⟩) (zN _) v).os.trans h.os,(Below.setCell (B:=0) (Below.refl 0 w') (p:=⟨b,o,none⟩) (zN _) v).tape.trans h.tape,(Below.setCell (B:=0) (Below.refl 0 w') (p:=⟨b,o,none⟩) (zN _) v).output.trans h.output,Nat.le_trans h.size (Below.setCell (B:=0) (Below.refl 0 w') (p:=⟨b,o,none⟩) (zN _) v).size,fun k hk hr=>(Below.heap_setCell w' ⟨b,o,none⟩ v k (show k≠b by omega)).trans (h.block k hk hr)⟩
theorem Kept.frozen(h:Kept R w w')(hne:b≠R)(hb:b<w.heap.size):w'.frozen? ⟨b,o,none⟩=w.frozen? ⟨b,o,none⟩:=World.frozen?_of_block (w:=w) (h.block b hb hne)
def tN2(ws:List ByteArray)(nx:Nat)(wr:Bool)(B C:ByteArray->Bool):Nat:=tkN ws (tkN ws nx wr B) (tkW ws nx wr B) C
def tW2(ws:List ByteArray)(nx:Nat)(wr:Bool)(B C:ByteArray->Bool):Bool:=tkW ws (tkN ws nx wr B) (tkW ws nx wr B) C
theorem a6F(R A:Nat)(ws:List ByteArray)(nx:Nat)(wr:Bool)(w:World)(h:RS w R A ws nx wr)(he:Env w)(hR:10<=R):
  Calls Tryz.prog 90 #[.pointer (some ⟨R,0,none⟩)] w fun e w'=>e=.returned (.agg #[.int .i64 (tkV ws nx wr a0n a1J),.int .i64 (tkV ws (tkN ws nx wr a0n) (tkW ws nx wr a0n) a0n a1J)])/\RS w' R A ws (tN2 ws nx wr a0n a0n) (tW2 ws nx wr a0n a0n)/\Kept R w w':=by
 have HE:=hide he;clear he
 go_enter Tryz.func90,Tryz.ntmps90
 go_wp2_with fail
 obtain⟨hRl,hAl⟩:=h.lt;obtain⟨X,hX⟩:∃ X,X=w.alloc (.cells #[.int .i64 0,.int .i64 0] 60):=⟨_,rfl⟩;rw[<- hX];have hb:Below w.heap.size w X:=by rw[hX];exact (zr _ _).alloc (zq _) _
 have x0:X.cell? ⟨w.heap.size,0,none⟩=some (.int .i64 0):=by rw[hX];simp
 have x1:X.cell? ⟨w.heap.size,1,none⟩=some (.int .i64 0):=by rw[hX];simp
 have xf:∀ j:Nat,X.frozen? ⟨w.heap.size,j,none⟩=false:=fun j=>by rw[hX];simp
 have xs:w.heap.size<X.heap.size:=by rw[hX];simp
 clear hX;have eX:=(a0d HE).later hb;refine (a7V R A ws nx wr X (h.of_below hb) eX).mono ?_;rintro e w1 ⟨rfl,h1,k1⟩;have e1:=eX.kept k1 hR
 go_wp2_with fail
 refine (a7V R A ws _ _ w1 h1 e1).mono ?_;rintro e w2 ⟨rfl,h2,k2⟩;have k12:=k1.trans k2;have y0:=k12.cell (b:=w.heap.size) (o:=0) (by omega) x0;have y1:=k12.cell (b:=w.heap.size) (o:=1) (by omega) x1;have yf:∀ j:Nat,w2.frozen? ⟨w.heap.size,j,none⟩=false:=fun j=>(k12.frozen (by omega) xs).trans (xf j)
 have kk:=(Kept.of_below (R:=R) hb).trans k12;have H2:=hide h2;clear h1 h2 e1 eX x0 x1 xf;go_wp2;refine bodyPost_ret (v:=.agg #[.int .i64 (tkV ws nx wr a0n a1J),.int .i64 (tkV ws (tkN ws nx wr a0n) (tkW ws nx wr a0n) a0n a1J)]) (by simp[results,Tryz.results90,go_sem,y0,y1]) rfl ⟨rfl,?_,?_⟩
 ·exact ((a0d H2).other (by omega) (fun hl=>by have:=hAl hl;omega)).other (by omega) (fun hl=>by have:=hAl hl;omega)
 ·exact (kk.setNew (zq _) _).setNew (zq _) _
def nmB(s:ByteArray):Bool:=Txt.a1j s.data.toList
def unB(s:ByteArray):Bool:=a0K s 1 9
def nvF(s:ByteArray):Int:=Txt.a2f s.data.toList
def stp(ws:List ByteArray)(B:ByteArray->Bool)(st:Nat × Bool):Nat × Bool:=(tkN ws st.1 st.2 B,tkW ws st.1 st.2 B)
def a0M(ws:List ByteArray)(Bs:List (ByteArray->Bool))(st:Nat × Bool):Nat × Bool:=Bs.foldl (fun st B=>stp ws B st) st
def a2F(ws:List ByteArray)(st:Nat × Bool):ByteArray:=tkS ws st.1 st.2
def a0v(ws:List ByteArray)(st:Nat × Bool)(B:ByteArray->Bool)(V:ByteArray->Int):Int:=tkV ws st.1 st.2 B V
theorem a7w(R A:Nat)(ws:List ByteArray)(st:Nat × Bool)(w:World)(h:RS w R A ws st.1 st.2)(he:Env w)(hR:10<=R):
  Calls Tryz.prog 85 #[.pointer (some ⟨R,0,none⟩)] w fun e w' =>
   e=.returned (.agg #[.string (a2F ws st),.int .i64 (a0v ws (a0M ws [nmB] st) unB nvF),.int .i64 (a0v ws (a0M ws [nmB,unB] st) a0n a1J),.int .i64 (a0v ws (a0M ws [nmB,unB,a0n] st) a0n a1J)]) /\
   RS w' R A ws (a0M ws [nmB,unB,a0n,a0n] st).1 (a0M ws [nmB,unB,a0n,a0n] st).2/\Kept R w w':=by
 have HE:=hide he;clear he
 go_enter Tryz.func85,Tryz.ntmps85
 go_wp2_with fail
 obtain⟨hRl,hAl⟩:=h.lt;obtain⟨X,hX⟩:∃ X,X=w.alloc (.cells #[.string ⟨#[]⟩,.int .i64 0,.int .i64 0,.int .i64 0] 151):=⟨_,rfl⟩;rw[<- hX];have hb:Below w.heap.size w X:=by rw[hX];exact (zr _ _).alloc (zq _) _
 have x0:X.cell? ⟨w.heap.size,0,none⟩=some (.string ⟨#[]⟩):=by rw[hX];simp
 have x1:X.cell? ⟨w.heap.size,1,none⟩=some (.int .i64 0):=by rw[hX];simp
 have x2:X.cell? ⟨w.heap.size,2,none⟩=some (.int .i64 0):=by rw[hX];simp
 have x3:X.cell? ⟨w.heap.size,3,none⟩=some (.int .i64 0):=by rw[hX];simp
 have xf:∀ j:Nat,X.frozen? ⟨w.heap.size,j,none⟩=false:=fun j=>by rw[hX];simp
 have xs:w.heap.size<X.heap.size:=by rw[hX];simp
 clear hX;have eX:=(a0d HE).later hb;refine (a3v R A ws st.1 st.2 X (h.of_below hb)).mono ?_;rintro e w1 ⟨rfl,h1,k1⟩;have e1:=eX.kept k1 hR
 go_wp2_with fail
 refine (a5v R A ws _ _ w1 h1).mono ?_;rintro e w2 ⟨rfl,h2,k2⟩;have e2:=e1.kept k2 hR
 go_wp2_with fail
 refine (a6F R A ws _ _ w2 h2 e2 hR).mono ?_;rintro e w3 ⟨rfl,h3,k3⟩;have k13:=(k1.trans k2).trans k3;have y0:=k13.cell (b:=w.heap.size) (o:=0) (by omega) x0;have y1:=k13.cell (b:=w.heap.size) (o:=1) (by omega) x1;have y2:=k13.cell (b:=w.heap.size) (o:=2) (by omega) x2;have y3:=k13.cell (b:=w.heap.size) (o:=3) (by omega) x3;have yf:∀ j:Nat,w3.frozen? ⟨w.heap.size,j,none⟩=false:=fun j=>(k13.frozen (by omega) xs).trans (xf j)
 have kk:=(Kept.of_below (R:=R) hb).trans k13;have H3:=hide h3;clear h1 h2 h3 e1 e2 eX x0 x1 x2 x3 xf;go_wp2;refine bodyPost_ret (v:=.agg #[.string (a2F ws st),.int .i64 (a0v ws (a0M ws [nmB] st) unB nvF),.int .i64 (a0v ws (a0M ws [nmB,unB] st) a0n a1J),.int .i64 (a0v ws (a0M ws [nmB,unB,a0n] st) a0n a1J)]) (by simp[results,Tryz.results85,go_sem,y0,y1,y2,y3];exact⟨rfl,rfl,rfl,rfl⟩) rfl ⟨rfl,?_,?_⟩
 ·exact ((((a0d H3).other (by omega) (fun hl=>by have:=hAl hl;omega)).other (by omega) (fun hl=>by have:=hAl hl;omega)).other (by omega) (fun hl=>by have:=hAl hl;omega)).other (by omega) (fun hl=>by have:=hAl hl;omega)
 ·exact (((kk.setNew (zq _) _).setNew (zq _) _).setNew (zq _) _).setNew (zq _) _
theorem b9H(R A:Nat)(ws:List ByteArray)(st:Nat × Bool)(w:World)(h:RS w R A ws st.1 st.2)(hm:a1b ws.length (a0M ws [nmB] st).1 (a0M ws [nmB] st).2=false):
  Calls Tryz.prog 89 #[.pointer (some ⟨R,0,none⟩)] w fun e w' =>
   e=.returned (.agg #[.string (a2F ws st),.bool false,.int .i64 0,.int .i64 0])/\RS w' R A ws (a0M ws [nmB] st).1 (a0M ws [nmB] st).2/\Kept R w w':=by
 go_enter Tryz.func89,Tryz.ntmps89
 go_wp2_with fail
 obtain⟨hRl,hAl⟩:=h.lt;obtain⟨X,hX⟩:∃ X,X=w.alloc (.cells #[.string ⟨#[]⟩,.bool false,.int .i64 0,.int .i64 0] 170):=⟨_,rfl⟩;rw[<- hX];have hb:Below w.heap.size w X:=by rw[hX];exact (zr _ _).alloc (zq _) _
 have x0:X.cell? ⟨w.heap.size,0,none⟩=some (.string ⟨#[]⟩):=by rw[hX];simp
 have x1:X.cell? ⟨w.heap.size,1,none⟩=some (.bool false):=by rw[hX];simp
 have x2:X.cell? ⟨w.heap.size,2,none⟩=some (.int .i64 0):=by rw[hX];simp
 have x3:X.cell? ⟨w.heap.size,3,none⟩=some (.int .i64 0):=by rw[hX];simp
 have xf:∀ j:Nat,X.frozen? ⟨w.heap.size,j,none⟩=false:=fun j=>by rw[hX];simp
 have xs:w.heap.size<X.heap.size:=by rw[hX];simp
 clear hX;refine (a3v R A ws st.1 st.2 X (h.of_below hb)).mono ?_;rintro e w1 ⟨rfl,h1,k1⟩;have z1:=k1.size
 go_wp2_with fail
 obtain⟨Y,hY⟩:∃ Y,Y=w1.alloc (.cells #[.string (tkS ws st.1 st.2),.bool false,.int .i64 0,.int .i64 0] 170):=⟨_,rfl⟩;rw[<- hY];have hbY:Below w1.heap.size w1 Y:=by rw[hY];exact (zr _ _).alloc (zq _) _
 have v0:Y.cell? ⟨w1.heap.size,0,none⟩=some (.string (tkS ws st.1 st.2)):=by rw[hY];simp
 have v1:Y.cell? ⟨w1.heap.size,1,none⟩=some (.bool false):=by rw[hY];simp
 have v2:Y.cell? ⟨w1.heap.size,2,none⟩=some (.int .i64 0):=by rw[hY];simp
 have v3:Y.cell? ⟨w1.heap.size,3,none⟩=some (.int .i64 0):=by rw[hY];simp
 have ys:w1.heap.size<Y.heap.size:=by rw[hY];simp
 clear hY;have kY:=k1.trans (Kept.of_below (R:=R) hbY);have y0:=kY.cell (b:=w.heap.size) (o:=0) (by omega) x0;have y1:=kY.cell (b:=w.heap.size) (o:=1) (by omega) x1;have y2:=kY.cell (b:=w.heap.size) (o:=2) (by omega) x2;have y3:=kY.cell (b:=w.heap.size) (o:=3) (by omega) x3;have yf:∀ j:Nat,Y.frozen? ⟨w.heap.size,j,none⟩=false:=fun j=>(kY.frozen (by omega) xs).trans (xf j)
 have hY1:=h1.of_below hbY;refine (a0X R A ws _ _ Y hY1).mono ?_;rintro e w2 ⟨rfl,n,rfl⟩;have HM:Hid (a1b ws.length (tkN ws st.1 st.2 fun s=>Txt.a1j s.data.toList) (tkW ws st.1 st.2 fun s=>Txt.a1j s.data.toList)=false):=hm;rw[HM.out];have kk:=(Kept.of_below (R:=R) hb).trans kY;have H1:=hide hY1;clear h1 hY1 x0 x1 x2 x3 xf hm;go_wp2;refine bodyPost_ret (v:=.agg #[.string (a2F ws st),.bool false,.int .i64 0,.int .i64 0]) (by simp[results,Tryz.results89,go_sem,y0,y1,y2,y3];rfl) rfl ⟨rfl,?_,?_⟩
 ·exact (((((a0d H1).drewN _).other (by omega) (fun hl=>by have:=hAl hl;omega)).other (by omega) (fun hl=>by have:=hAl hl;omega)).other (by omega) (fun hl=>by have:=hAl hl;omega)).other (by omega) (fun hl=>by have:=hAl hl;omega)
 ·exact ((((kk.drewN _).setNew (zq _) _).setNew (zq _) _).setNew (zq _) _).setNew (zq _) _
theorem b7W(R A:Nat)(ws:List ByteArray)(st:Nat × Bool)(w:World)(h:RS w R A ws st.1 st.2)(he:Env w)(hR:10<=R)(hm:a1b ws.length (a0M ws [nmB] st).1 (a0M ws [nmB] st).2=true):
  Calls Tryz.prog 89 #[.pointer (some ⟨R,0,none⟩)] w fun e w' =>
   e=.returned (.agg #[.string (a2F ws st),.bool true,.int .i64 (a0v ws (a0M ws [nmB] st) a0n a1J),.int .i64 (a0v ws (a0M ws [nmB,a0n] st) a0n a1J)])/\RS w' R A ws (a0M ws [nmB,a0n,a0n] st).1 (a0M ws [nmB,a0n,a0n] st).2/\Kept R w w':=by
 have HE:=hide he;clear he
 go_enter Tryz.func89,Tryz.ntmps89
 go_wp2_with fail
 obtain⟨hRl,hAl⟩:=h.lt;obtain⟨X,hX⟩:∃ X,X=w.alloc (.cells #[.string ⟨#[]⟩,.bool false,.int .i64 0,.int .i64 0] 170):=⟨_,rfl⟩;rw[<- hX];have hb:Below w.heap.size w X:=by rw[hX];exact (zr _ _).alloc (zq _) _
 have x0:X.cell? ⟨w.heap.size,0,none⟩=some (.string ⟨#[]⟩):=by rw[hX];simp
 have x1:X.cell? ⟨w.heap.size,1,none⟩=some (.bool false):=by rw[hX];simp
 have x2:X.cell? ⟨w.heap.size,2,none⟩=some (.int .i64 0):=by rw[hX];simp
 have x3:X.cell? ⟨w.heap.size,3,none⟩=some (.int .i64 0):=by rw[hX];simp
 have xf:∀ j:Nat,X.frozen? ⟨w.heap.size,j,none⟩=false:=fun j=>by rw[hX];simp
 have xs:w.heap.size<X.heap.size:=by rw[hX];simp
 clear hX;have eX:=(a0d HE).later hb;refine (a3v R A ws st.1 st.2 X (h.of_below hb)).mono ?_;rintro e w1 ⟨rfl,h1,k1⟩;have z1:=k1.size;have e1:=eX.kept k1 hR
 go_wp2_with fail
 obtain⟨Y,hY⟩:∃ Y,Y=w1.alloc (.cells #[.string (tkS ws st.1 st.2),.bool false,.int .i64 0,.int .i64 0] 170):=⟨_,rfl⟩;rw[<- hY];have hbY:Below w1.heap.size w1 Y:=by rw[hY];exact (zr _ _).alloc (zq _) _
 have v0:Y.cell? ⟨w1.heap.size,0,none⟩=some (.string (tkS ws st.1 st.2)):=by rw[hY];simp
 have v1:Y.cell? ⟨w1.heap.size,1,none⟩=some (.bool false):=by rw[hY];simp
 have v2:Y.cell? ⟨w1.heap.size,2,none⟩=some (.int .i64 0):=by rw[hY];simp
 have v3:Y.cell? ⟨w1.heap.size,3,none⟩=some (.int .i64 0):=by rw[hY];simp
 have vf:∀ j:Nat,Y.frozen? ⟨w1.heap.size,j,none⟩=false:=fun j=>by rw[hY];simp
 have ys:w1.heap.size<Y.heap.size:=by rw[hY];simp
 clear hY;have kY:=k1.trans (Kept.of_below (R:=R) hbY);have eY:=e1.later hbY;have hY1:=h1.of_below hbY;refine (a0X R A ws _ _ Y hY1).mono ?_;rintro e w2 ⟨rfl,n,hw2⟩;have HM:Hid (a1b ws.length (tkN ws st.1 st.2 fun s=>Txt.a1j s.data.toList) (tkW ws st.1 st.2 fun s=>Txt.a1j s.data.toList)=true):=hm;rw[HM.out];have h2:=hY1.drewN n;rw[<- hw2] at h2;have k2:Kept R X w2:=by rw[hw2];exact kY.drewN n
 have e2:Env w2:=by rw[hw2];exact eY.drewN n
 have v0:w2.cell? ⟨w1.heap.size,0,none⟩=some (.string (tkS ws st.1 st.2)):=by rw[hw2];exact v0
 have v1:w2.cell? ⟨w1.heap.size,1,none⟩=some (.bool false):=by rw[hw2];exact v1
 have v2:w2.cell? ⟨w1.heap.size,2,none⟩=some (.int .i64 0):=by rw[hw2];exact v2
 have v3:w2.cell? ⟨w1.heap.size,3,none⟩=some (.int .i64 0):=by rw[hw2];exact v3
 have vf:∀ j:Nat,w2.frozen? ⟨w1.heap.size,j,none⟩=false:=fun j=>by rw[hw2];exact vf j
 have ys2:w1.heap.size<w2.heap.size:=by rw[hw2];exact ys
 have HHM:=hide hm;clear hw2 hY1 eY kY hbY ys h1 hm;have H2:=hide h2;have HE2:=hide e2;clear h2 e2 eX e1
 go_wp2_with fail
 have ne:w1.heap.size≠R:=by omega
 have hs1:=(a0d H2).other (b:=w1.heap.size) (o:=1) (v:=.bool true) ne (fun hl=>by have:=hAl hl;omega);obtain⟨Z,hZ⟩:∃ Z,Z=w2.setCell ⟨w1.heap.size,1,none⟩ (.bool true):=⟨_,rfl⟩;rw[<- hZ] at hs1 ⊢;have u0:Z.cell? ⟨w1.heap.size,0,none⟩=some (.string (tkS ws st.1 st.2)):=by rw[hZ];exact (zS _ _ _ _ (by simp)).trans v0
 have u1:Z.cell? ⟨w1.heap.size,1,none⟩=some (.bool true):=by rw[hZ];exact zm _ _ _ v1
 have u2:Z.cell? ⟨w1.heap.size,2,none⟩=some (.int .i64 0):=by rw[hZ];exact (zS _ _ _ _ (by simp)).trans v2
 have u3:Z.cell? ⟨w1.heap.size,3,none⟩=some (.int .i64 0):=by rw[hZ];exact (zS _ _ _ _ (by simp)).trans v3
 have uf:∀ j:Nat,Z.frozen? ⟨w1.heap.size,j,none⟩=false:=fun j=>by rw[hZ];exact (zF ..).trans (vf j)
 have kZ:Kept R X Z:=by rw[hZ];exact k2.setNew (by omega) _
 have zs:w1.heap.size<Z.heap.size:=by rw[hZ];simpa using ys2
 have eZ:Env Z:=(a0d HE).kept (((Kept.of_below (R:=R) hb)).trans kZ) hR;clear hZ v0 v1 v2 v3 vf;refine (a6F R A ws _ _ Z hs1 eZ hR).mono ?_;rintro e w3 ⟨rfl,h3,k3⟩;have kk:=kZ.trans k3;have y0:=kk.cell (b:=w.heap.size) (o:=0) (by omega) x0;have y1:=kk.cell (b:=w.heap.size) (o:=1) (by omega) x1;have y2:=kk.cell (b:=w.heap.size) (o:=2) (by omega) x2;have y3:=kk.cell (b:=w.heap.size) (o:=3) (by omega) x3;have yf:∀ j:Nat,w3.frozen? ⟨w.heap.size,j,none⟩=false:=fun j=>(kk.frozen (by omega) xs).trans (xf j)
 have q0:=k3.cell (b:=w1.heap.size) (o:=0) ne u0;have q1:=k3.cell (b:=w1.heap.size) (o:=1) ne u1;have q2:=k3.cell (b:=w1.heap.size) (o:=2) ne u2;have q3:=k3.cell (b:=w1.heap.size) (o:=3) ne u3;have qf:∀ j:Nat,w3.frozen? ⟨w1.heap.size,j,none⟩=false:=fun j=>(k3.frozen ne zs).trans (uf j)
 have kt:=(Kept.of_below (R:=R) hb).trans kk;have H3:=hide h3;have n12:w.heap.size≠w1.heap.size:=by omega
 have n21:w1.heap.size≠w.heap.size:=by omega
 clear h3 hs1 eZ x0 x1 x2 x3 xf u0 u1 u2 u3 uf;go_wp2;refine bodyPost_ret (v:=.agg #[.string (a2F ws st),.bool true,.int .i64 (a0v ws (a0M ws [nmB] st) a0n a1J),.int .i64 (a0v ws (a0M ws [nmB,a0n] st) a0n a1J)]) (by simp[results,Tryz.results89,go_sem,y0,y1,y2,y3];exact⟨rfl,rfl,rfl⟩) rfl ⟨rfl,?_,?_⟩
 ·exact ((((((a0d H3).other (by omega) (fun hl=>by have:=hAl hl;omega)).other (by omega) (fun hl=>by have:=hAl hl;omega)).other (by omega) (fun hl=>by have:=hAl hl;omega)).other (by omega) (fun hl=>by have:=hAl hl;omega)).other (by omega) (fun hl=>by have:=hAl hl;omega)).other (by omega) (fun hl=>by have:=hAl hl;omega)
 ·exact (((((kt.setNew (by omega) _).setNew (by omega) _).setNew (zq _) _).setNew (zq _) _).setNew (zq _) _).setNew (zq _) _
theorem b7L(f:Value)(R A:Nat)(ws:List ByteArray)(nx:Nat)(wr:Bool)(w:World)(h:RS w R A ws nx wr)(hm:a1b ws.length nx wr=false):
  Calls Tryz.prog 193 #[.pointer (some ⟨R,0,none⟩),f] w fun e w'=>e=.returned (a3E [])/\RS w' R A ws nx true/\Kept R w w':=by
 go_enter Tryz.func193,Tryz.ntmps193
 go_wp2_with fail
 obtain⟨X,hX⟩:∃ X,X=(w.alloc (.cells #[.bool false,.bool false,.bool false,.bool false,.bool false,.bool false,.bool false] 160)).alloc (.cells #[.bool false,.bool false,.bool false,.bool false,.bool false,.bool false,.bool false] 160):=⟨_,rfl⟩;rw[<- hX];obtain⟨hRl,hAl⟩:=h.lt;have hB:Below w.heap.size w X:=by rw[hX];exact ((zr _ _).alloc (zq _) _).alloc (by simp) _
 have hZ:w.heap.size+2=X.heap.size:=by rw[hX];simp
 have dR:DS X w.heap.size []:=by
  rw[hX];refine⟨?_,?_,?_,?_,?_,?_,?_,fun j=>?_⟩ <;> simp[isd]
 have dD:DS X (w.heap.size+1) []:=by
  rw[hX];refine⟨?_,?_,?_,?_,?_,?_,?_,fun j=>?_⟩ <;> simp[isd]
 clear hX;refine (a0X R A ws nx wr X (h.of_below hB)).mono ?_;rintro e w1 ⟨rfl,n,hw⟩;have h1:RS w1 R A ws nx wr:=by rw[hw];exact (h.of_below hB).drewN n
 have k1:Kept R w w1:=by rw[hw];exact (Kept.of_below hB).drewN n
 have d1R:DS w1 w.heap.size []:=by rw[hw];exact⟨dR.c0,dR.c1,dR.c2,dR.c3,dR.c4,dR.c5,dR.c6,dR.f⟩
 have d1D:DS w1 (w.heap.size+1) []:=by rw[hw];exact⟨dD.c0,dD.c1,dD.c2,dD.c3,dD.c4,dD.c5,dD.c6,dD.f⟩
 have z1:X.heap.size=w1.heap.size:=by rw[hw];rfl
 have c2:=h1.c2;have f2:=h1.f2;clear hw dR dD;have q0:=d1D.c0;have q1:=d1D.c1;have q2:=d1D.c2;have q3:=d1D.c3;have q4:=d1D.c4;have q5:=d1D.c5;have q6:=d1D.c6;have r0:=d1R.c0;have r1:=d1R.c1;have r2:=d1R.c2;have r3:=d1R.c3;have r4:=d1R.c4;have r5:=d1R.c5;have r6:=d1R.c6;have fR:=d1R.f;have fD:=d1D.f;have n1:R≠w.heap.size:=by omega
 have n2:R≠w.heap.size+1:=by omega
 go_wp2;refine bodyPost_ret (v:=a3E []) (by simp[results,Tryz.results193,go_sem,a3E,isd,r0,r1,r2,r3,r4,r5,r6]) rfl ⟨rfl,?_,?_⟩
 ·exact (((((((h1.bad.other (by omega) (fun hl=>by have:=hAl hl;omega)).other (by omega) (fun hl=>by have:=hAl hl;omega)).other (by omega) (fun hl=>by have:=hAl hl;omega)).other (by omega) (fun hl=>by have:=hAl hl;omega)).other (by omega) (fun hl=>by have:=hAl hl;omega)).other (by omega) (fun hl=>by have:=hAl hl;omega)).other (by omega) (fun hl=>by have:=hAl hl;omega))
 ·exact (((((((k1.setCell _ _).setNew (zq _) _).setNew (zq _) _).setNew (zq _) _).setNew (zq _) _).setNew (zq _) _).setNew (zq _) _).setNew (zq _) _
theorem c3r{acc0:List Int}(acc:List Int)(h:DS w b acc0):DS (((((((w.setCell ⟨b,0,none⟩ (.bool (isd acc 0))).setCell ⟨b,1,none⟩ (.bool (isd acc 1))).setCell ⟨b,2,none⟩ (.bool (isd acc 2))).setCell ⟨b,3,none⟩ (.bool (isd acc 3))).setCell ⟨b,4,none⟩ (.bool (isd acc 4))).setCell ⟨b,5,none⟩ (.bool (isd acc 5))).setCell ⟨b,6,none⟩ (.bool (isd acc 6))) b acc:=by
 have s:∀ (x:World) (o:Nat) (v u:Value),x.cell? ⟨b,o,none⟩=some u->(x.setCell ⟨b,o,none⟩ v).cell? ⟨b,o,none⟩=some v:=fun x o v u hx=>zm x ⟨b,o,none⟩ v hx
 have o:∀ (x:World) (i j:Nat) (v:Value),i≠j->(x.setCell ⟨b,i,none⟩ v).cell? ⟨b,j,none⟩=x.cell? ⟨b,j,none⟩:=fun x i j v _=>zS _ _ _ _ (by simp)
 refine⟨?_,?_,?_,?_,?_,?_,?_,fun j=>?_⟩
 ·rw[o _ 6 0 _ (by decide),o _ 5 0 _ (by decide),o _ 4 0 _ (by decide),o _ 3 0 _ (by decide),o _ 2 0 _ (by decide),o _ 1 0 _ (by decide)];refine s _ _ _ (.bool (isd acc0 0)) ?_;exact h.c0
 ·rw[o _ 6 1 _ (by decide),o _ 5 1 _ (by decide),o _ 4 1 _ (by decide),o _ 3 1 _ (by decide),o _ 2 1 _ (by decide)];refine s _ _ _ (.bool (isd acc0 1)) ?_;rw[o _ 0 1 _ (by decide)];exact h.c1
 ·rw[o _ 6 2 _ (by decide),o _ 5 2 _ (by decide),o _ 4 2 _ (by decide),o _ 3 2 _ (by decide)];refine s _ _ _ (.bool (isd acc0 2)) ?_;rw[o _ 1 2 _ (by decide),o _ 0 2 _ (by decide)];exact h.c2
 ·rw[o _ 6 3 _ (by decide),o _ 5 3 _ (by decide),o _ 4 3 _ (by decide)];refine s _ _ _ (.bool (isd acc0 3)) ?_;rw[o _ 2 3 _ (by decide),o _ 1 3 _ (by decide),o _ 0 3 _ (by decide)];exact h.c3
 ·rw[o _ 6 4 _ (by decide),o _ 5 4 _ (by decide)];refine s _ _ _ (.bool (isd acc0 4)) ?_;rw[o _ 3 4 _ (by decide),o _ 2 4 _ (by decide),o _ 1 4 _ (by decide),o _ 0 4 _ (by decide)];exact h.c4
 ·rw[o _ 6 5 _ (by decide)];refine s _ _ _ (.bool (isd acc0 5)) ?_;rw[o _ 4 5 _ (by decide),o _ 3 5 _ (by decide),o _ 2 5 _ (by decide),o _ 1 5 _ (by decide),o _ 0 5 _ (by decide)];exact h.c5
 ·refine s _ _ _ (.bool (isd acc0 6)) ?_;rw[o _ 5 6 _ (by decide),o _ 4 6 _ (by decide),o _ 3 6 _ (by decide),o _ 2 6 _ (by decide),o _ 1 6 _ (by decide),o _ 0 6 _ (by decide)];exact h.c6
 ·simp only[World.frozen?_setCell];exact h.f j
def OnR(b:Bool)(s:ByteArray)(e:Ending):Prop:=∃ acc,e=.returned (a3E acc)/\(b=true->Txt.onW s=some acc)
theorem c7y(w:World)(b:Nat)(v0 v1 v2 v3 v4 v5 v6:Bool)(c o:Nat)(h:c≠b):(((((((w.setCell ⟨b,0,none⟩ (.bool v0)).setCell ⟨b,1,none⟩ (.bool v1)).setCell ⟨b,2,none⟩ (.bool v2)).setCell ⟨b,3,none⟩ (.bool v3)).setCell ⟨b,4,none⟩ (.bool v4)).setCell ⟨b,5,none⟩ (.bool v5)).setCell ⟨b,6,none⟩ (.bool v6)).cell? ⟨c,o,none⟩=w.cell? ⟨c,o,none⟩:=by
 have g:∀ (x:World) (j:Nat) (v:Value),(x.setCell ⟨b,j,none⟩ v).cell? ⟨c,o,none⟩=x.cell? ⟨c,o,none⟩:=fun x j v=>World.cell?_setCell_far x ⟨b,j,none⟩ ⟨c,o,none⟩ v (Ne.symm h)
 rw[g,g,g,g,g,g,g]
theorem b4s(b:Bool)(R A:Nat)(ws:List ByteArray)(nx:Nat)(wr:Bool)(w:World)(h:RS w R A ws nx wr)(he:Env w)(hm:a1b ws.length nx wr=true)(hlt:nx<ws.length)(hb:Txt.onB ws[nx]=b):
  Calls Tryz.prog 193 #[.pointer (some ⟨R,0,none⟩),.func (.func 194) #[] #[]] w fun e w'=>OnR b ws[nx] e/\RS w' R A ws (if b then nx+1 else nx) (if b then wr else true)/\Kept R w w':=by
 have hi:(nx:Int)<(ws.length:Int):=by omega
 have hi0:(0:Int)<=(nx:Int):=Int.natCast_nonneg _;have hsz:ws[nx].size<=160:=h.short _ (zg hlt);have HSZ:=hide hsz;have HE:=hide he;clear hsz he
 go_enter Tryz.func193,Tryz.ntmps193
 go_wp2_with fail
 obtain⟨X,hX⟩:∃ X,X=(w.alloc (.cells #[.bool false,.bool false,.bool false,.bool false,.bool false,.bool false,.bool false] 160)).alloc (.cells #[.bool false,.bool false,.bool false,.bool false,.bool false,.bool false,.bool false] 160):=⟨_,rfl⟩;rw[<- hX];obtain⟨hRl,hAl⟩:=h.lt;have hB:Below w.heap.size w X:=by rw[hX];exact ((zr _ _).alloc (zq _) _).alloc (by simp) _
 have hZ:w.heap.size+2=X.heap.size:=by rw[hX];simp
 have dR:DS X w.heap.size []:=by
  rw[hX];refine⟨?_,?_,?_,?_,?_,?_,?_,fun j=>?_⟩ <;> simp[isd]
 have dD:DS X (w.heap.size+1) []:=by
  rw[hX];refine⟨?_,?_,?_,?_,?_,?_,?_,fun j=>?_⟩ <;> simp[isd]
 clear hX;refine (a0X R A ws nx wr X (h.of_below hB)).mono ?_;rintro e w1 ⟨rfl,n,hw⟩;have h1:RS w1 R A ws nx wr:=by rw[hw];exact (h.of_below hB).drewN n
 have k1:Kept R w w1:=by rw[hw];exact (Kept.of_below hB).drewN n
 have d1R:DS w1 w.heap.size []:=by rw[hw];exact⟨dR.c0,dR.c1,dR.c2,dR.c3,dR.c4,dR.c5,dR.c6,dR.f⟩
 have d1D:DS w1 (w.heap.size+1) []:=by rw[hw];exact⟨dD.c0,dD.c1,dD.c2,dD.c3,dD.c4,dD.c5,dD.c6,dD.f⟩
 have z1:X.heap.size=w1.heap.size:=by rw[hw];rfl
 have HE1:Hid (Env w1):=by show Env w1;rw[hw];exact ((a0d HE).later hB).drewN n
 have c0:=h1.c0;have c1:=h1.c1;have cr:=h1.rows nx hlt;have hl:=h1.len;clear hw
 go_wp2_with fail
 have hnR:w1.heap.size≠R:=by have:=h1.lt.1;omega
 have hnA:w1.heap.size≠A:=by have:=h1.lt.2 (by omega);omega
 go_region_held3 (fun w'=>w'.cell? ⟨R,0,none⟩=some (.slice (some ⟨A,0,none⟩) ws.length ws.length)/\w'.cell? ⟨R,1,none⟩=some (.int .i64 nx)/\w'.cell? ⟨A,nx,none⟩=some (.string ws[nx]))
  (first
   |go_keep
   |(
    go_split_ands
    refine⟨?_,?_,?_⟩
    ·exact cell_later hbf (by assumption)
    ·exact cell_later hbf (by assumption)
    ·exact cell_later hbf (by assumption))
   |(
    refine⟨?_,?_,?_⟩
    ·exact cell_later ((zr _ _).alloc (zq _) _) (cell_later hbf c0)
    ·exact cell_later ((zr _ _).alloc (zq _) _) (cell_later hbf c1)
    ·exact cell_later ((zr _ _).alloc (zq _) _) (cell_later hbf cr))
   |(
    refine⟨?_,?_,?_⟩
    ·exact (kq _ _ hnR.symm).trans (cell_later hbf (cell_later ((zr _ _).alloc (zq _) _) c0))
    ·exact (kq _ _ hnR.symm).trans (cell_later hbf (cell_later ((zr _ _).alloc (zq _) _) c1))
    ·exact (kq _ _ hnA.symm).trans (cell_later hbf (cell_later ((zr _ _).alloc (zq _) _) cr))))
  ((go_at_call 194;first
   |(
    refine (b0z _ _ ?_ (a0d HSZ)).mono ?_
    ·exact (a0d HE1).later ⟨rfl,rfl,rfl,Nat.le_refl _,fun _ _=>rfl⟩
    rintro e w4 ⟨⟨acc,rfl,hacc⟩,hbf⟩
    simp only[a3E])
   |(
    refine (b0z _ _ ?_ (a0d HSZ)).mono ?_
    ·exact ((a0d HE1).later ((zr _ _).alloc (zq _) _)).later ⟨rfl,rfl,rfl,Nat.le_refl _,fun _ _=>rfl⟩
    rintro e w4 ⟨⟨acc,rfl,hacc⟩,hbf⟩;have dq:DS w4 w1.heap.size []:=DS.later (by refine⟨?_,?_,?_,?_,?_,?_,?_,fun j=>?_⟩ <;> simp[isd]) hbf;have t0:=dq.c0;have t1:=dq.c1;have t2:=dq.c2;have t3:=dq.c3;have t4:=dq.c4;have t5:=dq.c5;have t6:=dq.c6;have tf:=dq.f;have kq:=c7y w4 w1.heap.size (isd acc 0) (isd acc 1) (isd acc 2) (isd acc 3) (isd acc 4) (isd acc 5) (isd acc 6);clear dq
    simp only[a3E])))
 ·obtain⟨Z,hZZ⟩:∃ Z,Z=w4.alloc (.cells #[.bool (isd acc 0),.bool (isd acc 1),.bool (isd acc 2),.bool (isd acc 3),.bool (isd acc 4),.bool (isd acc 5),.bool (isd acc 6)] 160):=⟨_,rfl⟩;rw[<- hZZ];have hbf':Below w1.heap.size w1 w4:=⟨hbf.os,hbf.tape,hbf.output,hbf.size,hbf.block⟩;have hbz:Below w1.heap.size w1 Z:=by rw[hZZ];exact hbf'.trans ((zr _ _).alloc hbf'.size _)
  have dV:DS Z w4.heap.size acc:=by
   rw[hZZ];refine⟨?_,?_,?_,?_,?_,?_,?_,fun j=>?_⟩ <;> simp
  have hVV:w.heap.size+1<w4.heap.size:=by have:=hbf'.size;omega
  have hZR:=h1.of_below hbz;have kZ:=k1.trans (Kept.of_below (R:=R) hbz);have zR:=d1R.later hbz;have zD:=d1D.later hbz;obtain⟨V,hV⟩:∃ V,V=w4.heap.size:=⟨_,rfl⟩;rw[<- hV] at hVV dV ⊢;clear hZZ hbf' hbz hbf hV d1R d1D dR dD;rw[hb] at hacc;have HACC:=hide hacc;clear c0 c1 cr hacc h1 k1 h;have x1:=hZR.c1;have x2:=hZR.c2;have x3:=hZR.f1;have x4:=hZR.f2;have q0:=zD.c0;have q1:=zD.c1;have q2:=zD.c2;have q3:=zD.c3;have q4:=zD.c4;have q5:=zD.c5;have q6:=zD.c6;have r0:=zR.c0;have r1:=zR.c1;have r2:=zR.c2;have r3:=zR.c3;have r4:=zR.c4;have r5:=zR.c5;have r6:=zR.c6;have fR:=zR.f;have s0:=dV.c0;have s1:=dV.c1;have s2:=dV.c2;have s3:=dV.c3;have s4:=dV.c4;have s5:=dV.c5;have s6:=dV.c6;have n1:R≠w.heap.size:=by omega
  have n2:R≠w.heap.size+1:=by omega
  have n3:R≠V:=by omega
  have HZR:=hide hZR;clear hZR zR zD dV
  cases b
  ·go_wp2;refine bodyPost_ret (v:=a3E []) (by simp[results,Tryz.results193,go_sem,a3E,isd,r0,r1,r2,r3,r4,r5,r6]) rfl ⟨⟨[],rfl,fun h=>absurd h (by decide)⟩,?_,?_⟩
   ·exact ((((((((a0d HZR).bad.other (by omega) (fun hl=>by have:=hAl hl;omega)).other (by omega) (fun hl=>by have:=hAl hl;omega)).other (by omega) (fun hl=>by have:=hAl hl;omega)).other (by omega) (fun hl=>by have:=hAl hl;omega)).other (by omega) (fun hl=>by have:=hAl hl;omega)).other (by omega) (fun hl=>by have:=hAl hl;omega)).other (by omega) (fun hl=>by have:=hAl hl;omega))
   ·exact (((((((kZ.setCell _ _).setNew (zq _) _).setNew (zq _) _).setNew (zq _) _).setNew (zq _) _).setNew (zq _) _).setNew (zq _) _).setNew (zq _) _
  ·go_wp2;refine bodyPost_ret (v:=a3E acc) (by simp[results,Tryz.results193,go_sem,a3E,r0,r1,r2,r3,r4,r5,r6]) rfl ⟨⟨acc,rfl,fun _=>a0d HACC trivial⟩,?_,?_⟩
   ·exact (((((((((a0d HZR).step hlt).other (by omega) (fun hl=>by have:=hAl hl;omega)).other (by omega) (fun hl=>by have:=hAl hl;omega)).other (by omega) (fun hl=>by have:=hAl hl;omega)).other (by omega) (fun hl=>by have:=hAl hl;omega)).other (by omega) (fun hl=>by have:=hAl hl;omega)).other (by omega) (fun hl=>by have:=hAl hl;omega)).other (by omega) (fun hl=>by have:=hAl hl;omega))
   ·exact (((((((kZ.setCell _ _).setNew (zq _) _).setNew (zq _) _).setNew (zq _) _).setNew (zq _) _).setNew (zq _) _).setNew (zq _) _).setNew (zq _) _
 ·obtain⟨Z,hZZ⟩:∃ Z,Z=((((((w4.setCell ⟨w1.heap.size,0,none⟩ (.bool (isd acc 0))).setCell ⟨w1.heap.size,1,none⟩ (.bool (isd acc 1))).setCell ⟨w1.heap.size,2,none⟩ (.bool (isd acc 2))).setCell ⟨w1.heap.size,3,none⟩ (.bool (isd acc 3))).setCell ⟨w1.heap.size,4,none⟩ (.bool (isd acc 4))).setCell ⟨w1.heap.size,5,none⟩ (.bool (isd acc 5))).setCell ⟨w1.heap.size,6,none⟩ (.bool (isd acc 6)):=⟨_,rfl⟩;rw[<- hZZ];have hbf0:Below w1.heap.size (w1.alloc (.cells #[.bool false,.bool false,.bool false,.bool false,.bool false,.bool false,.bool false] 160)) w4:=⟨hbf.os,hbf.tape,hbf.output,hbf.size,fun k hk=>hbf.block k (by simp;omega)⟩;have hbf':Below w1.heap.size w1 w4:=((zr w1.heap.size w1).alloc (zq _) _).trans hbf0;clear hbf0;have hbz:Below w1.heap.size w1 Z:=by rw[hZZ];exact ((((((hbf'.setCell (zq _) _).setCell (zq _) _).setCell (zq _) _).setCell (zq _) _).setCell (zq _) _).setCell (zq _) _).setCell (zq _) _
  have dV:DS Z w1.heap.size acc:=by
   rw[hZZ];exact c3r acc (acc0:=[]) ⟨t0,t1,t2,t3,t4,t5,t6,tf⟩
  have hVV:w.heap.size+1<w1.heap.size:=by omega
  have hZR:=h1.of_below hbz;have kZ:=k1.trans (Kept.of_below (R:=R) hbz);have zR:=d1R.later hbz;have zD:=d1D.later hbz;obtain⟨V,hV⟩:∃ V,V=w1.heap.size:=⟨_,rfl⟩;rw[<- hV] at hVV dV ⊢;clear hZZ hbf' hbz hbf hV d1R d1D dR dD t0 t1 t2 t3 t4 t5 t6 tf kq;rw[hb] at hacc;have HACC:=hide hacc;clear c0 c1 cr hacc h1 k1 h;have x1:=hZR.c1;have x2:=hZR.c2;have x3:=hZR.f1;have x4:=hZR.f2;have q0:=zD.c0;have q1:=zD.c1;have q2:=zD.c2;have q3:=zD.c3;have q4:=zD.c4;have q5:=zD.c5;have q6:=zD.c6;have r0:=zR.c0;have r1:=zR.c1;have r2:=zR.c2;have r3:=zR.c3;have r4:=zR.c4;have r5:=zR.c5;have r6:=zR.c6;have fR:=zR.f;have s0:=dV.c0;have s1:=dV.c1;have s2:=dV.c2;have s3:=dV.c3;have s4:=dV.c4;have s5:=dV.c5;have s6:=dV.c6;have n1:R≠w.heap.size:=by omega
  have n2:R≠w.heap.size+1:=by omega
  have n3:R≠V:=by omega
  have HZR:=hide hZR;clear hZR zR zD dV
  cases b
  ·go_wp2;refine bodyPost_ret (v:=a3E []) (by simp[results,Tryz.results193,go_sem,a3E,isd,r0,r1,r2,r3,r4,r5,r6]) rfl ⟨⟨[],rfl,fun h=>absurd h (by decide)⟩,?_,?_⟩
   ·exact ((((((((a0d HZR).bad.other (by omega) (fun hl=>by have:=hAl hl;omega)).other (by omega) (fun hl=>by have:=hAl hl;omega)).other (by omega) (fun hl=>by have:=hAl hl;omega)).other (by omega) (fun hl=>by have:=hAl hl;omega)).other (by omega) (fun hl=>by have:=hAl hl;omega)).other (by omega) (fun hl=>by have:=hAl hl;omega)).other (by omega) (fun hl=>by have:=hAl hl;omega))
   ·exact (((((((kZ.setCell _ _).setNew (zq _) _).setNew (zq _) _).setNew (zq _) _).setNew (zq _) _).setNew (zq _) _).setNew (zq _) _).setNew (zq _) _
  ·go_wp2;refine bodyPost_ret (v:=a3E acc) (by simp[results,Tryz.results193,go_sem,a3E,r0,r1,r2,r3,r4,r5,r6]) rfl ⟨⟨acc,rfl,fun _=>a0d HACC trivial⟩,?_,?_⟩
   ·exact (((((((((a0d HZR).step hlt).other (by omega) (fun hl=>by have:=hAl hl;omega)).other (by omega) (fun hl=>by have:=hAl hl;omega)).other (by omega) (fun hl=>by have:=hAl hl;omega)).other (by omega) (fun hl=>by have:=hAl hl;omega)).other (by omega) (fun hl=>by have:=hAl hl;omega)).other (by omega) (fun hl=>by have:=hAl hl;omega)).other (by omega) (fun hl=>by have:=hAl hl;omega))
   ·exact (((((((kZ.setCell _ _).setNew (zq _) _).setNew (zq _) _).setNew (zq _) _).setNew (zq _) _).setNew (zq _) _).setNew (zq _) _).setNew (zq _) _
theorem b7M(R A:Nat)(ws:List ByteArray)(nx:Nat)(wr:Bool)(w:World)(h:RS w R A ws nx wr)(he:Env w):
  Calls Tryz.prog 193 #[.pointer (some ⟨R,0,none⟩),.func (.func 194) #[] #[]] w fun e w'=>OnR (tkB ws nx wr Txt.onB) (ws.getD nx ByteArray.empty) e/\RS w' R A ws (tkN ws nx wr Txt.onB) (tkW ws nx wr Txt.onB)/\Kept R w w':=by
 cases hm:a1b ws.length nx wr
 ·have t:=a8I (B:=Txt.onB) hm;rw[tkN,tkW,t];refine (b7L _ R A ws nx wr w h hm).mono ?_;rintro e w' ⟨rfl,h1,k1⟩;exact⟨⟨[],rfl,fun h=>absurd h (by decide)⟩,h1,k1⟩
 ·have hlt:=a4q hm;obtain⟨b,hb⟩:∃ b,Txt.onB ws[nx]=b:=⟨_,rfl⟩;have t:=a7h (B:=Txt.onB) hm hlt hb;rw[tkN,tkW,t,a5f ws nx hlt];exact b4s b R A ws nx wr w h he hm hlt hb
def rv(pc ev:Int)(acc:List Int)(fr mn mi ti un:Int):Nat->Value
 |0=>.int .i64 pc
 |1=>.int .i64 ev
 |2=>.bool (isd acc 0)
 |3=>.bool (isd acc 1)
 |4=>.bool (isd acc 2)
 |5=>.bool (isd acc 3)
 |6=>.bool (isd acc 4)
 |7=>.bool (isd acc 5)
 |8=>.bool (isd acc 6)
 |9=>.int .i64 fr
 |10=>.int .i64 mn
 |11=>.int .i64 mi
 |12=>.int .i64 ti
 |_=>.int .i64 un
structure RL(w:World)(P:Nat)(v:Nat->Value):Prop where
 c:∀ j:Nat,j<14->w.cell? ⟨P,j,none⟩=some (v j)
 f:∀ j:Nat,w.frozen? ⟨P,j,none⟩=false
theorem c1L{p:Nat->Prop}(h0:p 0)(h1:p 1)(h2:p 2)(h3:p 3)(h4:p 4)(h5:p 5)(h6:p 6)(h7:p 7)(h8:p 8)(h9:p 9)(h10:p 10)(h11:p 11)(h12:p 12)(h13:p 13):∀ j:Nat,j<14->p j
 |0,_=>h0
 |1,_=>h1
 |2,_=>h2
 |3,_=>h3
 |4,_=>h4
 |5,_=>h5
 |6,_=>h6
 |7,_=>h7
 |8,_=>h8
 |9,_=>h9
 |10,_=>h10
 |11,_=>h11
 |12,_=>h12
 |13,_=>h13
 |n+14,h=>absurd h (by omega)
theorem RL.lt(h:RL w P v):P<w.heap.size:=World.block_lt_of_cell? _ ⟨P,0,none⟩ (h.c 0 (by omega))
theorem RL.set(h:RL w P v)(j:Nat)(hj:j<14)(x:Value):RL (w.setCell ⟨P,j,none⟩ x) P (fun i=>if i=j then x else v i):=by
 refine⟨fun i hi=>?_,fun i=>(zF ..).trans (h.f i)⟩
 by_cases e:i=j
 ·subst e;rw[if_pos rfl];exact zm _ ⟨P,i,none⟩ _ (h.c i hi)
 ·rw[if_neg e];exact (zS _ _ _ _ (by simp)).trans (h.c i hi)
theorem RL.congr{v':Nat->Value}(h:RL w P v)(e:∀ j:Nat,j<14->v j=v' j):RL w P v':=⟨fun j hj=>by rw[<- e j hj];exact h.c j hj,h.f⟩
theorem RL.other{x:Value}(h:RL w P v)(hb:b≠P):RL (w.setCell ⟨b,o,none⟩ x) P v :=
 ⟨fun j hj=>(World.cell?_setCell_far w ⟨b,o,none⟩ ⟨P,j,none⟩ x hb).trans (h.c j hj),fun i=>(zF ..).trans (h.f i)⟩
theorem RL.kept(h:RL w P v)(k:Kept R w w')(hb:P≠R):RL w' P v :=
 ⟨fun j hj=>k.cell hb (h.c j hj),fun j=>(k.frozen hb h.lt).trans (h.f j)⟩
structure a4B(R P:Nat)(w w':World):Prop where
 os:w'.os=w.os
 tape:w'.tape=w.tape
 output:w'.output=w.output
 size:w.heap.size<=w'.heap.size
 block:∀ k,k<w.heap.size->k≠R->k≠P->w'.heap[k]?=w.heap[k]?
theorem Kept.two(P:Nat)(k:Kept R w w'):a4B R P w w':=⟨k.os,k.tape,k.output,k.size,fun i hi hr _=>k.block i hi hr⟩
theorem a4B.trans{a b c:World}(h:a4B R P a b)(k:a4B R P b c):a4B R P a c :=
 ⟨k.os.trans h.os,k.tape.trans h.tape,k.output.trans h.output,Nat.le_trans h.size k.size,fun i hi hr hp=>(k.block i (zL hi h.size) hr hp).trans (h.block i hi hr hp)⟩
theorem a4B.setP(h:a4B R P w w')(o:Nat)(v:Value):a4B R P w (w'.setCell ⟨P,o,none⟩ v) :=
 ⟨(Below.setCell (B:=0) (Below.refl 0 w') (p:=⟨P,o,none⟩) (zN _) v).os.trans h.os,(Below.setCell (B:=0) (Below.refl 0 w') (p:=⟨P,o,none⟩) (zN _) v).tape.trans h.tape,(Below.setCell (B:=0) (Below.refl 0 w') (p:=⟨P,o,none⟩) (zN _) v).output.trans h.output,Nat.le_trans h.size (Below.setCell (B:=0) (Below.refl 0 w') (p:=⟨P,o,none⟩) (zN _) v).size,fun k hk hr hp=>(Below.heap_setCell w' ⟨P,o,none⟩ v k hp).trans (h.block k hk hr hp)⟩
theorem a4B.setR(h:a4B R P w w')(o:Nat)(v:Value):a4B R P w (w'.setCell ⟨R,o,none⟩ v) :=
 ⟨(Below.setCell (B:=0) (Below.refl 0 w') (p:=⟨R,o,none⟩) (zN _) v).os.trans h.os,(Below.setCell (B:=0) (Below.refl 0 w') (p:=⟨R,o,none⟩) (zN _) v).tape.trans h.tape,(Below.setCell (B:=0) (Below.refl 0 w') (p:=⟨R,o,none⟩) (zN _) v).output.trans h.output,Nat.le_trans h.size (Below.setCell (B:=0) (Below.refl 0 w') (p:=⟨R,o,none⟩) (zN _) v).size,fun k hk hr hp=>(Below.heap_setCell w' ⟨R,o,none⟩ v k hr).trans (h.block k hk hr hp)⟩
theorem a4B.one{x:World}(k:Kept R w x)(h:a4B R P x w')(hp:w.heap.size<=P):Kept R w w' :=
 ⟨h.os.trans k.os,h.tape.trans k.tape,h.output.trans k.output,Nat.le_trans k.size h.size,fun i hi hr=>(h.block i (zL hi k.size) hr (by omega)).trans (k.block i hi hr)⟩
theorem Env.kept2(h:Env w)(k:a4B R P w w')(hR:10<=R)(hP:10<=P):Env w':=by
 have hb:Below 10 w w':=⟨k.os,k.tape,k.output,k.size,fun i hi=>k.block i (zL hi h.size) (by omega) (by omega)⟩;have hc:∀ (b o:Nat) (v:Value),b<10->w.cell? ⟨b,o,none⟩=some v->w'.cell? ⟨b,o,none⟩=some v:=fun b o v hb' e=>(hb.cell (p:=⟨b,o,none⟩) hb').trans e
 obtain⟨m,hm⟩:=h.c5L;obtain⟨c0,c1,c2,c3,c4,c5,c6,c7,c8,c9,c10,c11⟩:=h.tab;refine⟨⟨hc _ _ _ (by omega) c0,hc _ _ _ (by omega) c1,hc _ _ _ (by omega) c2,hc _ _ _ (by omega) c3,hc _ _ _ (by omega) c4,hc _ _ _ (by omega) c5,hc _ _ _ (by omega) c6,hc _ _ _ (by omega) c7,hc _ _ _ (by omega) c8,hc _ _ _ (by omega) c9,hc _ _ _ (by omega) c10,hc _ _ _ (by omega) c11⟩,⟨m,hc _ _ _ (by omega) hm⟩,?_,Nat.le_trans h.size k.size,hc _ _ _ (by omega) h.mo,hc _ _ _ (by omega) h.tu,hc _ _ _ (by omega) h.we,hc _ _ _ (by omega) h.th,hc _ _ _ (by omega) h.fr,hc _ _ _ (by omega) h.sa,hc _ _ _ (by omega) h.su⟩;have hp:=h.pow;unfold Lib.TabIs World.var? at hp ⊢;simp only[c6q,Option.bind_some] at hp ⊢;rw[hb.block 0 (by omega)];exact hp
def b0Y:ByteArray:=⟨#[100,97,105,108,121]⟩
def a8D:ByteArray:=⟨#[119,101,101,107,108,121]⟩
def a8w:ByteArray:=⟨#[109,111,110,116,104,108,121]⟩
def b2z:ByteArray:=⟨#[116,105,109,101,115]⟩
def b5O:ByteArray:=⟨#[117,110,116,105,108]⟩
def a1t:ByteArray:=⟨#[102,114,111,109]⟩
def atW:ByteArray:=⟨#[97,116]⟩
def b3z:ByteArray:=⟨#[102,111,114]⟩
def evB(s:ByteArray):Bool:=a0K s 1 99
def miB(s:ByteArray):Bool:=a0K s 1 1048320
def a1s(x s:ByteArray):Bool:=s.toList==x.toList
def nxt(st:Nat × Bool):Nat × Bool:=(st.1+1,st.2)
inductive b0n (ws:List ByteArray) (st:Nat × Bool):Int->Int->List Int->Nat × Bool->Prop where
 |daily (h:isB ws st.1 st.2 b0Y=true):b0n ws st 1 (a0v ws (nxt st) evB nvF) [] (a0M ws [evB] (nxt st))
 |weekly (h1:isB ws st.1 st.2 b0Y=false) (h:isB ws st.1 st.2 a8D=true) (acc:List Int) (ha:tkB ws (a0M ws [evB] (nxt st)).1 (a0M ws [evB] (nxt st)).2 Txt.onB=true->Txt.onW (ws.getD (a0M ws [evB] (nxt st)).1 ByteArray.empty)=some acc):
   b0n ws st 2 (a0v ws (nxt st) evB nvF) acc (a0M ws [evB,Txt.onB] (nxt st))
 |monthly (h1:isB ws st.1 st.2 b0Y=false) (h2:isB ws st.1 st.2 a8D=false) (h:isB ws st.1 st.2 a8w=true):b0n ws st 3 (a0v ws (nxt st) evB nvF) [] (a0M ws [evB] (nxt st))
 |none (h1:isB ws st.1 st.2 b0Y=false) (h2:isB ws st.1 st.2 a8D=false) (h:isB ws st.1 st.2 a8w=false):b0n ws st 0 0 [] (st.1,true)
theorem b4J{ev:Int}(h:RL w P (rv pc ev acc fr mn mi ti un))(x:Int):RL (w.setCell ⟨P,0,none⟩ (.int .i64 x)) P (rv x ev acc fr mn mi ti un):=(h.set 0 (by omega) _).congr (c1L rfl rfl rfl rfl rfl rfl rfl rfl rfl rfl rfl rfl rfl rfl)
theorem b4I{ev:Int}(h:RL w P (rv pc ev acc fr mn mi ti un))(x:Int):RL (w.setCell ⟨P,1,none⟩ (.int .i64 x)) P (rv pc x acc fr mn mi ti un):=(h.set 1 (by omega) _).congr (c1L rfl rfl rfl rfl rfl rfl rfl rfl rfl rfl rfl rfl rfl rfl)
theorem c4Q{ev:Int}(h:RL w P (rv pc ev acc fr mn mi ti un))(x:Int):RL (w.setCell ⟨P,9,none⟩ (.int .i64 x)) P (rv pc ev acc x mn mi ti un):=(h.set 9 (by omega) _).congr (c1L rfl rfl rfl rfl rfl rfl rfl rfl rfl rfl rfl rfl rfl rfl)
theorem c2u{ev:Int}(h:RL w P (rv pc ev acc fr mn mi ti un))(x:Int):RL (w.setCell ⟨P,10,none⟩ (.int .i64 x)) P (rv pc ev acc fr x mi ti un):=(h.set 10 (by omega) _).congr (c1L rfl rfl rfl rfl rfl rfl rfl rfl rfl rfl rfl rfl rfl rfl)
theorem c2t{ev:Int}(h:RL w P (rv pc ev acc fr mn mi ti un))(x:Int):RL (w.setCell ⟨P,11,none⟩ (.int .i64 x)) P (rv pc ev acc fr mn x ti un):=(h.set 11 (by omega) _).congr (c1L rfl rfl rfl rfl rfl rfl rfl rfl rfl rfl rfl rfl rfl rfl)
theorem c2s{ev:Int}(h:RL w P (rv pc ev acc fr mn mi ti un))(x:Int):RL (w.setCell ⟨P,12,none⟩ (.int .i64 x)) P (rv pc ev acc fr mn mi x un):=(h.set 12 (by omega) _).congr (c1L rfl rfl rfl rfl rfl rfl rfl rfl rfl rfl rfl rfl rfl rfl)
theorem c2r{ev:Int}(h:RL w P (rv pc ev acc fr mn mi ti un))(x:Int):RL (w.setCell ⟨P,13,none⟩ (.int .i64 x)) P (rv pc ev acc fr mn mi ti x):=(h.set 13 (by omega) _).congr (c1L rfl rfl rfl rfl rfl rfl rfl rfl rfl rfl rfl rfl rfl rfl)
theorem c2q{ev:Int}(h:RL w P (rv pc ev acc fr mn mi ti un))(x:List Int):
  RL (((((((w.setCell ⟨P,2,none⟩ (.bool (isd x 0))).setCell ⟨P,3,none⟩ (.bool (isd x 1))).setCell ⟨P,4,none⟩ (.bool (isd x 2))).setCell ⟨P,5,none⟩ (.bool (isd x 3))).setCell ⟨P,6,none⟩ (.bool (isd x 4))).setCell ⟨P,7,none⟩ (.bool (isd x 5))).setCell ⟨P,8,none⟩ (.bool (isd x 6))) P (rv pc ev x fr mn mi ti un) :=
 (((((((h.set 2 (by omega) _).set 3 (by omega) _).set 4 (by omega) _).set 5 (by omega) _).set 6 (by omega) _).set 7 (by omega) _).set 8 (by omega) _).congr (c1L rfl rfl rfl rfl rfl rfl rfl rfl rfl rfl rfl rfl rfl rfl)
theorem b9F(R A P:Nat)(ws:List ByteArray)(st:Nat × Bool)(w:World)(h:RS w R A ws st.1 st.2)(he:Env w)(hR:10<=R)(hP:10<=P)(hPR:P≠R)(hPA:0<ws.length->P≠A)(hl:RL w P (rv 0 0 [] 0 0 0 0 0)):
  Calls Tryz.prog 133 #[.pointer (some ⟨R,0,none⟩),.pointer (some ⟨P,0,none⟩)] w fun e w' =>
   ∃ (pc ev:Int) (acc:List Int) (s:Nat × Bool),e=.returned (.tuple #[])/\b0n ws st pc ev acc s/\RS w' R A ws s.1 s.2/\RL w' P (rv pc ev acc 0 0 0 0 0)/\a4B R P w w':=by
 have HE:=hide he;clear he
 go_enter Tryz.func133,Tryz.ntmps133
 go_wp2_with fail
 refine (a2n R A ws st.1 st.2 b0Y w h).mono ?_;rintro e w1 ⟨rfl,h1,k1⟩;have kk1:=k1.two P;have l1:=hl.kept k1 hPR;clear h hl k1
 cases hd:isB ws st.1 st.2 b0Y
 ·rw[hd] at h1
  go_wp2_with fail
  refine (a2n R A ws st.1 st.2 a8D w1 h1).mono ?_;rintro e w2 ⟨rfl,h2,k2⟩;have kk2:=kk1.trans (k2.two P);have l2:=l1.kept k2 hPR;clear h1 kk1 l1 k2
  cases hw:isB ws st.1 st.2 a8D
  ·rw[hw] at h2
   go_wp2_with fail
   refine (a2n R A ws st.1 st.2 a8w w2 h2).mono ?_;rintro e w3 ⟨rfl,h3,k3⟩;have kk3:=kk2.trans (k3.two P);have l3:=l2.kept k3 hPR;clear h2 kk2 l2 k3
   cases hm:isB ws st.1 st.2 a8w
   ·rw[hm] at h3;have c2:=h3.c2;have f2:=h3.f2;go_wp2
    go_end0
    exact⟨0,0,[],(st.1,true),rfl,.none hd hw hm,h3.bad,l3.other hPR.symm,kk3.setR _ _⟩
   ·rw[hm,if_pos rfl] at h3;have p0:=l3.c 0 (by omega);have pf:=l3.f
    go_wp2_with fail
    have hz:=h3.other (b:=P) (o:=0) (v:=.int .i64 3) hPR hPA;have lz:=b4J l3 3;have kz:=kk3.setP 0 (.int .i64 3);have EZ:=hide ((a0d HE).kept2 kz hR hP);clear p0 pf h3 l3 kk3;refine (a7v R A ws (st.1+1) st.2 _ hz).mono ?_;rintro e w5 ⟨rfl,h5,k5⟩;have kk5:=kz.trans (k5.two P);have l5:=lz.kept k5 hPR;have E5:=hide ((a0d EZ).kept k5 hR);clear hz lz kz k5;have p1:=l5.c 1 (by omega);have pf:=l5.f;go_wp2
    go_end0
    exact⟨3,a0v ws (nxt st) evB nvF,[],a0M ws [evB] (nxt st),rfl,.monthly hd hw hm,h5.other hPR hPA,b4I l5 _,kk5.setP _ _⟩
  ·rw[hw,if_pos rfl] at h2;have p0:=l2.c 0 (by omega);have pf:=l2.f
   go_wp2_with fail
   have hz:=h2.other (b:=P) (o:=0) (v:=.int .i64 2) hPR hPA;have lz:=b4J l2 2;have kz:=kk2.setP 0 (.int .i64 2);have EZ:=hide ((a0d HE).kept2 kz hR hP);clear p0 pf h2 l2 kk2;refine (a7v R A ws (st.1+1) st.2 _ hz).mono ?_;rintro e w5 ⟨rfl,h5,k5⟩;have kk5:=kz.trans (k5.two P);have l5:=lz.kept k5 hPR;have E5:=hide ((a0d EZ).kept k5 hR);clear hz lz kz k5;have p1:=l5.c 1 (by omega);have pf:=l5.f
   go_wp2_with fail
   have h6:=h5.other (b:=P) (o:=1) (v:=.int .i64 (tkV ws (st.1+1) st.2 (fun s=>a0K s 1 99) (fun s=>Txt.a2f s.data.toList))) hPR hPA;have l6:=b4I l5 (tkV ws (st.1+1) st.2 (fun s=>a0K s 1 99) (fun s=>Txt.a2f s.data.toList));have k6:=kk5.setP 1 (.int .i64 (tkV ws (st.1+1) st.2 (fun s=>a0K s 1 99) (fun s=>Txt.a2f s.data.toList)));have E6:=hide ((a0d HE).kept2 k6 hR hP);clear p1 pf h5 l5 kk5;refine (b7M R A ws _ _ _ h6 (a0d E6)).mono ?_;rintro e w7 ⟨⟨acc,rfl,hacc⟩,h7,k7⟩;have kk7:=k6.trans (k7.two P);have l7:=l6.kept k7 hPR;have HACC:=hide hacc;clear h6 l6 k6 k7 hacc;have p2:=l7.c 2 (by omega);have p3:=l7.c 3 (by omega);have p4:=l7.c 4 (by omega);have p5:=l7.c 5 (by omega);have p6:=l7.c 6 (by omega);have p7:=l7.c 7 (by omega);have p8:=l7.c 8 (by omega);have pf:=l7.f;have H7:=hide h7;clear h7;simp only[a3E];go_wp2
   go_end0
   exact⟨2,a0v ws (nxt st) evB nvF,acc,a0M ws [evB,Txt.onB] (nxt st),rfl,.weekly hd hw acc (a0d HACC),((((((((a0d H7).other hPR hPA).other hPR hPA).other hPR hPA).other hPR hPA).other hPR hPA).other hPR hPA).other hPR hPA),c2q l7 acc,(((((((kk7.setP _ _).setP _ _).setP _ _).setP _ _).setP _ _).setP _ _).setP _ _)⟩
 ·rw[hd,if_pos rfl] at h1;have p0:=l1.c 0 (by omega);have pf:=l1.f
  go_wp2_with fail
  have hz:=h1.other (b:=P) (o:=0) (v:=.int .i64 1) hPR hPA;have lz:=b4J l1 1;have kz:=kk1.setP 0 (.int .i64 1);have EZ:=hide ((a0d HE).kept2 kz hR hP);clear p0 pf h1 l1 kk1;refine (a7v R A ws (st.1+1) st.2 _ hz).mono ?_;rintro e w5 ⟨rfl,h5,k5⟩;have kk5:=kz.trans (k5.two P);have l5:=lz.kept k5 hPR;have E5:=hide ((a0d EZ).kept k5 hR);clear hz lz kz k5;have p1:=l5.c 1 (by omega);have pf:=l5.f;go_wp2
  go_end0
  exact⟨1,a0v ws (nxt st) evB nvF,[],a0M ws [evB] (nxt st),rfl,.daily hd,h5.other hPR hPA,b4I l5 _,kk5.setP _ _⟩
inductive c3M (ws:List ByteArray) (st:Nat × Bool):Int->Int->Nat × Bool->Prop where
 |times (h:isB ws st.1 st.2 b2z=true):c3M ws st (a0v ws (nxt st) evB nvF) 0 (a0M ws [evB] (nxt st))
 |til (h1:isB ws st.1 st.2 b2z=false) (h:isB ws st.1 st.2 b5O=true):c3M ws st 0 (a0v ws (nxt st) Txt.a2y b0a) (a0M ws [Txt.a2y] (nxt st))
 |none (h1:isB ws st.1 st.2 b2z=false) (h:isB ws st.1 st.2 b5O=false):c3M ws st 0 0 (st.1,true)
theorem c2x(R A P:Nat)(ws:List ByteArray)(st:Nat × Bool)(w:World)(pc ev:Int)(acc:List Int)(fr mn mi:Int)(h:RS w R A ws st.1 st.2)(he:Env w)(hR:10<=R)(hPR:P≠R)(hPA:0<ws.length->P≠A)(hl:RL w P (rv pc ev acc fr mn mi 0 0)):
  Calls Tryz.prog 138 #[.pointer (some ⟨R,0,none⟩),.pointer (some ⟨P,0,none⟩)] w fun e w' =>
   ∃ (ti un:Int) (s:Nat × Bool),e=.returned (.tuple #[])/\c3M ws st ti un s/\RS w' R A ws s.1 s.2/\RL w' P (rv pc ev acc fr mn mi ti un)/\a4B R P w w':=by
 have HE:=hide he;clear he
 go_enter Tryz.func138,Tryz.ntmps138
 go_wp2_with fail
 refine (a2n R A ws st.1 st.2 b2z w h).mono ?_;rintro e w1 ⟨rfl,h1,k1⟩;have kk1:=k1.two P;have l1:=hl.kept k1 hPR;have E1:=hide ((a0d HE).kept k1 hR);clear h hl k1
 cases hd:isB ws st.1 st.2 b2z
 ·rw[hd] at h1
  go_wp2_with fail
  refine (a2n R A ws st.1 st.2 b5O w1 h1).mono ?_;rintro e w2 ⟨rfl,h2,k2⟩;have kk2:=kk1.trans (k2.two P);have l2:=l1.kept k2 hPR;have E2:=hide ((a0d E1).kept k2 hR);clear h1 kk1 l1 k2
  cases hw:isB ws st.1 st.2 b5O
  ·rw[hw] at h2;have c2:=h2.c2;have f2:=h2.f2;go_wp2
   go_end0
   exact⟨0,0,(st.1,true),rfl,.none hd hw,h2.bad,l2.other hPR.symm,kk2.setR _ _⟩
  ·rw[hw,if_pos rfl] at h2
   go_wp2_with fail
   refine (a7W R A ws (st.1+1) st.2 w2 h2 (a0d E2)).mono ?_;rintro e w5 ⟨rfl,h5,k5⟩;have kk5:=kk2.trans (k5.two P);have l5:=l2.kept k5 hPR;clear h2 kk2 l2 k5;have p1:=l5.c 13 (by omega);have pf:=l5.f;go_wp2
   go_end0
   exact⟨0,a0v ws (nxt st) Txt.a2y b0a,a0M ws [Txt.a2y] (nxt st),rfl,.til hd hw,h5.other hPR hPA,c2r l5 _,kk5.setP _ _⟩
 ·rw[hd,if_pos rfl] at h1
  go_wp2_with fail
  refine (a4n 1 99 R A ws (st.1+1) st.2 w1 h1).mono ?_;rintro e w5 ⟨rfl,h5,k5⟩;have kk5:=kk1.trans (k5.two P);have l5:=l1.kept k5 hPR;clear h1 kk1 l1 k5;have p1:=l5.c 12 (by omega);have pf:=l5.f;go_wp2
  go_end0
  exact⟨a0v ws (nxt st) evB nvF,0,a0M ws [evB] (nxt st),rfl,.times hd,h5.other hPR hPA,c2s l5 _,kk5.setP _ _⟩
def c4Y(ws:List ByteArray)(s:Nat × Bool):Nat × Bool:=a0M ws [a1s a1t,Txt.a2y,a1s atW,Txt.a3a,a1s b3z,miB] s
inductive b0m (ws:List ByteArray) (st:Nat × Bool):Int->Int->List Int->Int->Int->Int->Int->Int->Nat × Bool->Prop where
 |mk (pc ev:Int) (acc:List Int) (s:Nat × Bool) (ti un:Int) (s':Nat × Bool) (hp:b0n ws st pc ev acc s) (he:c3M ws (c4Y ws s) ti un s'):
   b0m ws st pc ev acc (a0v ws (a0M ws [a1s a1t] s) Txt.a2y b0a) (a0v ws (a0M ws [a1s a1t,Txt.a2y,a1s atW] s) Txt.a3a Txt.a6J) (a0v ws (a0M ws [a1s a1t,Txt.a2y,a1s atW,Txt.a3a,a1s b3z] s) miB nvF) ti un s'
theorem RL.kept2{Q:Nat}(h:RL w P v)(k:a4B R Q w w')(hb:P≠R)(hq:P≠Q):RL w' P v :=
 ⟨fun j hj=>(zo (w:=w) (k.block P h.lt hb hq)).trans (h.c j hj),fun j=>(World.frozen?_of_block (w:=w) (k.block P h.lt hb hq)).trans (h.f j)⟩
def b9E(pc ev:Int)(acc:List Int)(fr mn mi ti un:Int):Value :=
 .agg #[.int .i64 pc,.int .i64 ev,.bool (isd acc 0),.bool (isd acc 1),.bool (isd acc 2),.bool (isd acc 3),.bool (isd acc 4),.bool (isd acc 5),.bool (isd acc 6),.int .i64 fr,.int .i64 mn,.int .i64 mi,.int .i64 ti,.int .i64 un]
def g3M(ws:List ByteArray):Prop:=∀ (R A:Nat)(st:Nat × Bool)(w:World),RS w R A ws st.1 st.2->Env w->10<=R ->
  Calls Tryz.prog 87 #[.pointer (some ⟨R,0,none⟩)] w fun e w' =>
   ∃ (pc ev:Int) (acc:List Int) (fr mn mi ti un:Int) (s:Nat × Bool),e=.returned (b9E pc ev acc fr mn mi ti un)/\b0m ws st pc ev acc fr mn mi ti un s/\RS w' R A ws s.1 s.2/\Kept R w w'
theorem b2P(R A:Nat)(ws:List ByteArray)(st:Nat × Bool)(w:World)(h:RS w R A ws st.1 st.2)(he:Env w)(hR:10<=R):
  Calls Tryz.prog 87 #[.pointer (some ⟨R,0,none⟩)] w fun e w' =>
   ∃ (pc ev:Int) (acc:List Int) (fr mn mi ti un:Int) (s:Nat × Bool),e=.returned (b9E pc ev acc fr mn mi ti un)/\b0m ws st pc ev acc fr mn mi ti un s/\RS w' R A ws s.1 s.2/\Kept R w w':=by
 have HE:=hide he;clear he
 go_enter Tryz.func87,Tryz.ntmps87
 go_wp2_with fail
 obtain⟨hRl,hAl⟩:=h.lt;obtain⟨X,hX⟩:∃ X,X=(w.alloc (.cells #[.int .i64 0,.int .i64 0,.bool false,.bool false,.bool false,.bool false,.bool false,.bool false,.bool false,.int .i64 0,.int .i64 0,.int .i64 0,.int .i64 0,.int .i64 0] 162)).alloc (.cells #[.int .i64 0,.int .i64 0,.bool false,.bool false,.bool false,.bool false,.bool false,.bool false,.bool false,.int .i64 0,.int .i64 0,.int .i64 0,.int .i64 0,.int .i64 0] 162):=⟨_,rfl⟩;rw[<- hX];have hB:Below w.heap.size w X:=by rw[hX];exact ((zr _ _).alloc (zq _) _).alloc (by simp) _
 have hZ:w.heap.size+2=X.heap.size:=by rw[hX];simp
 have gX:RL X w.heap.size (rv 0 0 [] 0 0 0 0 0):=by
  rw[hX];refine⟨c1L ?_ ?_ ?_ ?_ ?_ ?_ ?_ ?_ ?_ ?_ ?_ ?_ ?_ ?_,fun j=>?_⟩ <;> simp[rv,isd]
 have lX:RL X (w.heap.size+1) (rv 0 0 [] 0 0 0 0 0):=by
  rw[hX];refine⟨c1L ?_ ?_ ?_ ?_ ?_ ?_ ?_ ?_ ?_ ?_ ?_ ?_ ?_ ?_,fun j=>?_⟩ <;> simp[rv,isd]
 clear hX;have eX:=(a0d HE).later hB;have hs10:=(a0d HE).size;have kX:=Kept.of_below (R:=R) hB;have hPR:w.heap.size+1≠R:=by omega
 have hPA:0<ws.length->w.heap.size+1≠A:=fun hq=>by have:=hAl hq;omega
 have hGR:w.heap.size≠R:=by omega
 have hGA:0<ws.length->w.heap.size≠A:=fun hq=>by have:=hAl hq;omega
 obtain⟨P,hP⟩:∃ P,P=w.heap.size+1:=⟨_,rfl⟩;rw[<- hP] at lX hPR hPA ⊢;obtain⟨G,hG⟩:∃ G,G=w.heap.size:=⟨_,rfl⟩;rw[<- hG] at gX hGR hGA ⊢;have hGP:G≠P:=by omega
 have hP1:w.heap.size<=P:=by omega
 have hG1:w.heap.size<=G:=by omega
 have hP10:10<=P:=by omega
 clear hP hG;refine (b9F R A P ws st X (h.of_below hB) eX hR hP10 hPR hPA lX).mono ?_;rintro e w1 ⟨pc,ev,acc,s,rfl,hp,h1,l1,k1⟩;have g1:=gX.kept2 k1 hGR hGP;have kt:=a4B.one kX k1 hP1;have E1:=hide ((a0d HE).kept kt hR);have HPA:=hide hp;clear gX lX k1 eX hp h
 go_wp2_with fail
 refine (b1F R A ws _ _ a1t w1 h1).mono ?_;rintro e w2 ⟨rfl,h2',k2⟩;have h2:RS w2 R A ws (a0M ws [a1s a1t] s).1 (a0M ws [a1s a1t] s).2:=h2';have l2:=l1.kept k2 hPR;have g2:=g1.kept k2 hGR;have kt2:=kt.trans k2;have E2:=hide ((a0d E1).kept k2 hR);clear h1 h2' l1 g1 kt k2 E1
 go_wp2_with fail
 refine (a7W R A ws _ _ w2 h2 (a0d E2)).mono ?_;rintro e w3 ⟨rfl,h3',k3⟩;have h3:RS w3 R A ws (a0M ws [a1s a1t,Txt.a2y] s).1 (a0M ws [a1s a1t,Txt.a2y] s).2:=h3';have l3:=l2.kept k3 hPR;have g3:=g2.kept k3 hGR;have kt3:=kt2.trans k3;have E3:=hide ((a0d E2).kept k3 hR);clear h2 h3' l2 g2 kt2 k3 E2;have p3:=l3.c 9 (by omega);have pf3:=l3.f;have h4:=h3.other (b:=P) (o:=9) (v:=.int .i64 (a0v ws (a0M ws [a1s a1t] s) Txt.a2y b0a)) hPR hPA;have l4:=c4Q l3 (a0v ws (a0M ws [a1s a1t] s) Txt.a2y b0a);have g4:=g3.other (b:=P) (o:=9) (x:=.int .i64 (a0v ws (a0M ws [a1s a1t] s) Txt.a2y b0a)) hGP.symm;have kt4:=kt3.setNew (b:=P) (o:=9) hP1 (.int .i64 (a0v ws (a0M ws [a1s a1t] s) Txt.a2y b0a));have E4:=hide ((a0d HE).kept kt4 hR)
 go_wp2_with fail
 refine (b1F R A ws _ _ atW _ h4).mono ?_;rintro e w5 ⟨rfl,h5',k5⟩;have h5:RS w5 R A ws (a0M ws [a1s a1t,Txt.a2y,a1s atW] s).1 (a0M ws [a1s a1t,Txt.a2y,a1s atW] s).2:=h5';have l5:=l4.kept k5 hPR;have g5:=g4.kept k5 hGR;have kt5:=kt4.trans k5;have E5:=hide ((a0d E4).kept k5 hR);clear h4 h5' l4 g4 kt4 k5 E4
 go_wp2_with fail
 refine (b0c R A ws _ _ w5 h5).mono ?_;rintro e w6 ⟨rfl,h6',k6⟩;have h6:RS w6 R A ws (a0M ws [a1s a1t,Txt.a2y,a1s atW,Txt.a3a] s).1 (a0M ws [a1s a1t,Txt.a2y,a1s atW,Txt.a3a] s).2:=h6';have l6:=l5.kept k6 hPR;have g6:=g5.kept k6 hGR;have kt6:=kt5.trans k6;have E6:=hide ((a0d E5).kept k6 hR);clear h5 h6' l5 g5 kt5 k6 E5;have p6:=l6.c 10 (by omega);have pf6:=l6.f;have h7:=h6.other (b:=P) (o:=10) (v:=.int .i64 (a0v ws (a0M ws [a1s a1t,Txt.a2y,a1s atW] s) Txt.a3a Txt.a6J)) hPR hPA;have l7:=c2u l6 (a0v ws (a0M ws [a1s a1t,Txt.a2y,a1s atW] s) Txt.a3a Txt.a6J);have g7:=g6.other (b:=P) (o:=10) (x:=.int .i64 (a0v ws (a0M ws [a1s a1t,Txt.a2y,a1s atW] s) Txt.a3a Txt.a6J)) hGP.symm;have kt7:=kt6.setNew (b:=P) (o:=10) hP1 (.int .i64 (a0v ws (a0M ws [a1s a1t,Txt.a2y,a1s atW] s) Txt.a3a Txt.a6J));have E7:=hide ((a0d HE).kept kt7 hR)
 go_wp2_with fail
 refine (b1F R A ws _ _ b3z _ h7).mono ?_;rintro e w8 ⟨rfl,h8',k8⟩;have h8:RS w8 R A ws (a0M ws [a1s a1t,Txt.a2y,a1s atW,Txt.a3a,a1s b3z] s).1 (a0M ws [a1s a1t,Txt.a2y,a1s atW,Txt.a3a,a1s b3z] s).2:=h8';have l8:=l7.kept k8 hPR;have g8:=g7.kept k8 hGR;have kt8:=kt7.trans k8;have E8:=hide ((a0d E7).kept k8 hR);clear h7 h8' l7 g7 kt7 k8 E7
 go_wp2_with fail
 refine (a2S R A ws _ _ w8 h8).mono ?_;rintro e w9 ⟨rfl,h9',k9⟩;have h9:RS w9 R A ws (a0M ws [a1s a1t,Txt.a2y,a1s atW,Txt.a3a,a1s b3z,miB] s).1 (a0M ws [a1s a1t,Txt.a2y,a1s atW,Txt.a3a,a1s b3z,miB] s).2:=h9';have l9:=l8.kept k9 hPR;have g9:=g8.kept k9 hGR;have kt9:=kt8.trans k9;have E9:=hide ((a0d E8).kept k9 hR);clear h8 h9' l8 g8 kt8 k9 E8;have p9:=l9.c 11 (by omega);have pf9:=l9.f;have h10:=h9.other (b:=P) (o:=11) (v:=.int .i64 (a0v ws (a0M ws [a1s a1t,Txt.a2y,a1s atW,Txt.a3a,a1s b3z] s) miB nvF)) hPR hPA;have l10:=c2t l9 (a0v ws (a0M ws [a1s a1t,Txt.a2y,a1s atW,Txt.a3a,a1s b3z] s) miB nvF);have g10:=g9.other (b:=P) (o:=11) (x:=.int .i64 (a0v ws (a0M ws [a1s a1t,Txt.a2y,a1s atW,Txt.a3a,a1s b3z] s) miB nvF)) hGP.symm;have kt10:=kt9.setNew (b:=P) (o:=11) hP1 (.int .i64 (a0v ws (a0M ws [a1s a1t,Txt.a2y,a1s atW,Txt.a3a,a1s b3z] s) miB nvF));have E10:=hide ((a0d HE).kept kt10 hR)
 go_wp2_with fail
 refine (c2x R A P ws (c4Y ws s) _ pc ev acc _ _ _ h10 (a0d E10) hR hPR hPA l10).mono ?_;rintro e w20 ⟨ti,un,s',rfl,hen,h20,l20,k20⟩;have g20:=g10.kept2 k20 hGR hGP;have kt20:=a4B.one kt10 k20 hP1;have HEN:=hide hen;clear h10 l10 g10 kt10 k20 E10 hen;obtain⟨fr,hfr⟩:∃ fr,fr=a0v ws (a0M ws [a1s a1t] s) Txt.a2y b0a:=⟨_,rfl⟩;obtain⟨mn,hmn⟩:∃ mn,mn=a0v ws (a0M ws [a1s a1t,Txt.a2y,a1s atW] s) Txt.a3a Txt.a6J:=⟨_,rfl⟩;obtain⟨mi,hmi⟩:∃ mi,mi=a0v ws (a0M ws [a1s a1t,Txt.a2y,a1s atW,Txt.a3a,a1s b3z] s) miB nvF:=⟨_,rfl⟩;rw[<- hfr,<- hmn,<- hmi] at l20
 have HRU:Hid (b0m ws st pc ev acc fr mn mi ti un s'):=by
  show b0m ws st pc ev acc fr mn mi ti un s';rw[hfr,hmn,hmi];exact .mk pc ev acc s ti un s' HPA.out HEN.out
 clear hfr hmn hmi HPA HEN;have q0:w20.cell? ⟨P,0,none⟩=some (.int .i64 pc):=l20.c 0 (by omega);have q1:w20.cell? ⟨P,1,none⟩=some (.int .i64 ev):=l20.c 1 (by omega);have q2:w20.cell? ⟨P,2,none⟩=some (.bool (isd acc 0)):=l20.c 2 (by omega);have q3:w20.cell? ⟨P,3,none⟩=some (.bool (isd acc 1)):=l20.c 3 (by omega);have q4:w20.cell? ⟨P,4,none⟩=some (.bool (isd acc 2)):=l20.c 4 (by omega);have q5:w20.cell? ⟨P,5,none⟩=some (.bool (isd acc 3)):=l20.c 5 (by omega);have q6:w20.cell? ⟨P,6,none⟩=some (.bool (isd acc 4)):=l20.c 6 (by omega);have q7:w20.cell? ⟨P,7,none⟩=some (.bool (isd acc 5)):=l20.c 7 (by omega);have q8:w20.cell? ⟨P,8,none⟩=some (.bool (isd acc 6)):=l20.c 8 (by omega);have q9:w20.cell? ⟨P,9,none⟩=some (.int .i64 fr):=l20.c 9 (by omega);have q10:w20.cell? ⟨P,10,none⟩=some (.int .i64 mn):=l20.c 10 (by omega);have q11:w20.cell? ⟨P,11,none⟩=some (.int .i64 mi):=l20.c 11 (by omega);have q12:w20.cell? ⟨P,12,none⟩=some (.int .i64 ti):=l20.c 12 (by omega);have q13:w20.cell? ⟨P,13,none⟩=some (.int .i64 un):=l20.c 13 (by omega);have r0:w20.cell? ⟨G,0,none⟩=some (.int .i64 0):=g20.c 0 (by omega);have r1:w20.cell? ⟨G,1,none⟩=some (.int .i64 0):=g20.c 1 (by omega);have r2:w20.cell? ⟨G,2,none⟩=some (.bool false):=g20.c 2 (by omega);have r3:w20.cell? ⟨G,3,none⟩=some (.bool false):=g20.c 3 (by omega);have r4:w20.cell? ⟨G,4,none⟩=some (.bool false):=g20.c 4 (by omega);have r5:w20.cell? ⟨G,5,none⟩=some (.bool false):=g20.c 5 (by omega);have r6:w20.cell? ⟨G,6,none⟩=some (.bool false):=g20.c 6 (by omega);have r7:w20.cell? ⟨G,7,none⟩=some (.bool false):=g20.c 7 (by omega);have r8:w20.cell? ⟨G,8,none⟩=some (.bool false):=g20.c 8 (by omega);have r9:w20.cell? ⟨G,9,none⟩=some (.int .i64 0):=g20.c 9 (by omega);have r10:w20.cell? ⟨G,10,none⟩=some (.int .i64 0):=g20.c 10 (by omega);have r11:w20.cell? ⟨G,11,none⟩=some (.int .i64 0):=g20.c 11 (by omega);have r12:w20.cell? ⟨G,12,none⟩=some (.int .i64 0):=g20.c 12 (by omega);have r13:w20.cell? ⟨G,13,none⟩=some (.int .i64 0):=g20.c 13 (by omega);have rf:=g20.f;have H20:=hide h20;clear h20 l20 g20;go_wp2;refine bodyPost_ret (v:=b9E pc ev acc fr mn mi ti un) (by simp[results,Tryz.results87,go_sem,b9E,r0,r1,r2,r3,r4,r5,r6,r7,r8,r9,r10,r11,r12,r13]) rfl ⟨pc,ev,acc,fr,mn,mi,ti,un,s',rfl,HRU.out,?_,?_⟩
 ·exact (((((((((((((((a0d H20).other hGR hGA).other hGR hGA).other hGR hGA).other hGR hGA).other hGR hGA).other hGR hGA).other hGR hGA).other hGR hGA).other hGR hGA).other hGR hGA).other hGR hGA).other hGR hGA).other hGR hGA).other hGR hGA)
 ·exact ((((((((((((((kt20.setNew hG1 _).setNew hG1 _).setNew hG1 _).setNew hG1 _).setNew hG1 _).setNew hG1 _).setNew hG1 _).setNew hG1 _).setNew hG1 _).setNew hG1 _).setNew hG1 _).setNew hG1 _).setNew hG1 _).setNew hG1 _)
def a3F:ByteArray:=⟨#[116,104,105,110,103]⟩
def a9P:ByteArray:=⟨#[98,111,111,107]⟩
def b5f:ByteArray:=⟨#[104,111,108,100]⟩
def b4k:ByteArray:=⟨#[119,97,105,116]⟩
def a7l:ByteArray:=⟨#[115,101,114,105,101,115]⟩
def a4z:ByteArray:=⟨#[99,111,110,102,105,114,109]⟩
def a6m:ByteArray:=⟨#[99,97,110,99,101,108]⟩
def a5Q:ByteArray:=⟨#[108,105,115,116]⟩
def a5q:ByteArray:=⟨#[119,97,105,116,105,110,103]⟩
def a9a:ByteArray:=⟨#[112,101,97,107]⟩
def b5h:ByteArray:=⟨#[102,105,110,100]⟩
def a7M:ByteArray:=⟨#[101,120,112,97,110,100]⟩
def b4n:ByteArray:=⟨#[116,105,99,107]⟩
def b1c:ByteArray:=⟨#[99,108,111,99,107]⟩
def idB(s:ByteArray):Bool:=Txt.isNum s.data.toList
inductive a2H (ws:List ByteArray):Value->Nat × Bool->Prop where
 |a0k (h:isB ws 0 false a3F=true):a2H ws (.iface 149 (.agg #[.string (a2F ws (1,false)),.int .i64 (a0v ws (a0M ws [nmB] (1,false)) unB nvF)])) (a0M ws [nmB,unB] (1,false))
 |book (h:isB ws 0 false a9P=true):a2H ws (.iface 154 (.agg #[.string (a2F ws (1,false)),.int .i64 (a0v ws (a0M ws [nmB] (1,false)) unB nvF),.int .i64 (a0v ws (a0M ws [nmB,unB] (1,false)) a0n a1J),.int .i64 (a0v ws (a0M ws [nmB,unB,a0n] (1,false)) a0n a1J)])) (a0M ws [nmB,unB,a0n,a0n] (1,false))
 |hold (h:isB ws 0 false b5f=true):a2H ws (.iface 156 (.agg #[.string (a2F ws (1,false)),.int .i64 (a0v ws (a0M ws [nmB] (1,false)) unB nvF),.int .i64 (a0v ws (a0M ws [nmB,unB] (1,false)) a0n a1J),.int .i64 (a0v ws (a0M ws [nmB,unB,a0n] (1,false)) a0n a1J),.int .i64 (a0v ws (a0M ws [nmB,unB,a0n,a0n] (1,false)) miB nvF)])) (a0M ws [nmB,unB,a0n,a0n,miB] (1,false))
 |wait (h:isB ws 0 false b4k=true):a2H ws (.iface 157 (.agg #[.string (a2F ws (1,false)),.int .i64 (a0v ws (a0M ws [nmB] (1,false)) unB nvF),.int .i64 (a0v ws (a0M ws [nmB,unB] (1,false)) a0n a1J),.int .i64 (a0v ws (a0M ws [nmB,unB,a0n] (1,false)) a0n a1J),.int .i64 (a0v ws (a0M ws [nmB,unB,a0n,a0n] (1,false)) miB nvF)])) (a0M ws [nmB,unB,a0n,a0n,miB] (1,false))
 |series (h:isB ws 0 false a7l=true) (pc ev:Int) (acc:List Int) (fr mn mi ti un:Int) (s:Nat × Bool) (hr:b0m ws (a0M ws [nmB,unB] (1,false)) pc ev acc fr mn mi ti un s):a2H ws (.iface 165 (.agg #[.string (a2F ws (1,false)),.int .i64 (a0v ws (a0M ws [nmB] (1,false)) unB nvF),.int .i64 pc,.int .i64 ev,.bool (isd acc 0),.bool (isd acc 1),.bool (isd acc 2),.bool (isd acc 3),.bool (isd acc 4),.bool (isd acc 5),.bool (isd acc 6),.int .i64 fr,.int .i64 mn,.int .i64 mi,.int .i64 ti,.int .i64 un])) s
 |confirm (h:isB ws 0 false a4z=true):a2H ws (.iface 167 (.agg #[.int .i64 (a0v ws (1,false) idB nvF)])) (a0M ws [idB] (1,false))
 |cancel (h:isB ws 0 false a6m=true):a2H ws (.iface 168 (.agg #[.int .i64 (a0v ws (1,false) idB nvF)])) (a0M ws [idB] (1,false))
 |list0 (h:isB ws 0 false a5Q=true) (hm:a1b ws.length (a0M ws [nmB] (1,false)).1 (a0M ws [nmB] (1,false)).2=false):a2H ws (.iface 170 (.agg #[.string (a2F ws (1,false)),.bool false,.int .i64 0,.int .i64 0])) (a0M ws [nmB] (1,false))
 |list1 (h:isB ws 0 false a5Q=true) (hm:a1b ws.length (a0M ws [nmB] (1,false)).1 (a0M ws [nmB] (1,false)).2=true):a2H ws (.iface 170 (.agg #[.string (a2F ws (1,false)),.bool true,.int .i64 (a0v ws (a0M ws [nmB] (1,false)) a0n a1J),.int .i64 (a0v ws (a0M ws [nmB,a0n] (1,false)) a0n a1J)])) (a0M ws [nmB,a0n,a0n] (1,false))
 |waiting (h:isB ws 0 false a5q=true):a2H ws (.iface 173 (.agg #[])) (1,false)
 |peak (h:isB ws 0 false a9a=true):a2H ws (.iface 176 (.agg #[.string (a2F ws (1,false)),.int .i64 (a0v ws (a0M ws [nmB] (1,false)) a0n a1J),.int .i64 (a0v ws (a0M ws [nmB,a0n] (1,false)) a0n a1J)])) (a0M ws [nmB,a0n,a0n] (1,false))
 |find (h:isB ws 0 false b5h=true):a2H ws (.iface 178 (.agg #[.string (a2F ws (1,false)),.int .i64 (a0v ws (a0M ws [nmB] (1,false)) unB nvF),.int .i64 (a0v ws (a0M ws [nmB,unB] (1,false)) miB nvF),.int .i64 (a0v ws (a0M ws [nmB,unB,miB] (1,false)) a0n a1J),.int .i64 (a0v ws (a0M ws [nmB,unB,miB,a0n] (1,false)) a0n a1J)])) (a0M ws [nmB,unB,miB,a0n,a0n] (1,false))
 |expand (h:isB ws 0 false a7M=true) (pc ev:Int) (acc:List Int) (fr mn mi ti un:Int) (s:Nat × Bool) (hr:b0m ws (1,false) pc ev acc fr mn mi ti un s):a2H ws (.iface 180 (.agg #[.int .i64 pc,.int .i64 ev,.bool (isd acc 0),.bool (isd acc 1),.bool (isd acc 2),.bool (isd acc 3),.bool (isd acc 4),.bool (isd acc 5),.bool (isd acc 6),.int .i64 fr,.int .i64 mn,.int .i64 mi,.int .i64 ti,.int .i64 un])) s
 |tick (h:isB ws 0 false b4n=true):a2H ws (.iface 182 (.agg #[.int .i64 (a0v ws (1,false) miB nvF)])) (a0M ws [miB] (1,false))
 |clock (h:isB ws 0 false b1c=true):a2H ws (.iface 183 (.agg #[])) (1,false)
 |none (h0:isB ws 0 false a3F=false) (h1:isB ws 0 false a9P=false) (h2:isB ws 0 false b5f=false) (h3:isB ws 0 false b4k=false) (h4:isB ws 0 false a7l=false) (h5:isB ws 0 false a4z=false) (h6:isB ws 0 false a6m=false) (h7:isB ws 0 false a5Q=false) (h8:isB ws 0 false a5q=false) (h9:isB ws 0 false a9a=false) (h10:isB ws 0 false b5h=false) (h11:isB ws 0 false a7M=false) (h12:isB ws 0 false b4n=false) (h13:isB ws 0 false b1c=false):a2H ws .nilIface (0,true)
theorem f1j(R A:Nat)(ws:List ByteArray)(w:World)(h:RS w R A ws 0 false)(he:Env w)(hR:10<=R)(hP:isB ws 0 false a7l=true\/isB ws 0 false a7M=true->g3M ws):
  Calls Tryz.prog 62 #[.pointer (some ⟨R,0,none⟩)] w fun e w' =>
   ∃ (v:Value) (s:Nat × Bool),e=.returned v/\a2H ws v s/\RS w' R A ws s.1 s.2/\Kept R w w':=by
 have HE:=hide he;have HPP:=hide hP;clear he hP;have k0:=Kept.refl R w;have h0:=h;clear h
 go_enter Tryz.func62,Tryz.ntmps62
 go_wp2_with fail
 refine (a2n R A ws 0 false a3F w h0).mono ?_;rintro e w1 ⟨rfl,h1,kq⟩;have k1:=k0.trans kq;clear kq k0 h0;rcases Bool.eq_false_or_eq_true (isB ws 0 false a3F) with hb0|hb0
 ·rw[hb0,if_pos rfl] at h1;have E1:=hide ((a0d HE).kept k1 hR)
  go_wp2_with fail
  refine (a3v R A ws _ _ w1 h1).mono ?_;rintro e w1a ⟨rfl,h1a,kq⟩;have k1a:=k1.trans kq;have E1a:=hide ((a0d E1).kept kq hR);clear kq k1 h1 E1
  go_wp2_with fail
  refine (a5v R A ws _ _ w1a h1a).mono ?_;rintro e w1b ⟨rfl,h1b,kq⟩;have k1b:=k1a.trans kq;have E1b:=hide ((a0d E1a).kept kq hR);clear kq k1a h1a E1a;have HK:=hide k1b;have HH:=hide h1b;go_wp2;go_ret;exact⟨_,(a0M ws [nmB,unB] (1,false)),rfl,.a0k hb0,HH.out,HK.out⟩
 rw[hb0] at h1 ⊢
 go_wp2_with fail
 refine (a2n R A ws 0 false a9P w1 h1).mono ?_;rintro e w2 ⟨rfl,h2,kq⟩;have k2:=k1.trans kq;clear kq k1 h1;rcases Bool.eq_false_or_eq_true (isB ws 0 false a9P) with hb1|hb1
 ·rw[hb1,if_pos rfl] at h2;have E2:=hide ((a0d HE).kept k2 hR)
  go_wp2_with fail
  refine (a7w R A ws (1,false) w2 h2 (a0d E2) hR).mono ?_;rintro e w2a ⟨rfl,h2a,kq⟩;have k2a:=k2.trans kq;have E2a:=hide ((a0d E2).kept kq hR);clear kq k2 h2 E2;have HK:=hide k2a;have HH:=hide h2a;go_wp2;go_ret;exact⟨_,(a0M ws [nmB,unB,a0n,a0n] (1,false)),rfl,.book hb1,HH.out,HK.out⟩
 rw[hb1] at h2 ⊢
 go_wp2_with fail
 refine (a2n R A ws 0 false b5f w2 h2).mono ?_;rintro e w3 ⟨rfl,h3,kq⟩;have k3:=k2.trans kq;clear kq k2 h2;rcases Bool.eq_false_or_eq_true (isB ws 0 false b5f) with hb2|hb2
 ·rw[hb2,if_pos rfl] at h3;have E3:=hide ((a0d HE).kept k3 hR)
  go_wp2_with fail
  refine (a7w R A ws (1,false) w3 h3 (a0d E3) hR).mono ?_;rintro e w3a ⟨rfl,h3a,kq⟩;have k3a:=k3.trans kq;have E3a:=hide ((a0d E3).kept kq hR);clear kq k3 h3 E3
  go_wp2_with fail
  refine (a2S R A ws _ _ w3a h3a).mono ?_;rintro e w3b ⟨rfl,h3b,kq⟩;have k3b:=k3a.trans kq;have E3b:=hide ((a0d E3a).kept kq hR);clear kq k3a h3a E3a;have HK:=hide k3b;have HH:=hide h3b;go_wp2;go_ret;exact⟨_,(a0M ws [nmB,unB,a0n,a0n,miB] (1,false)),rfl,.hold hb2,HH.out,HK.out⟩
 rw[hb2] at h3 ⊢
 go_wp2_with fail
 refine (a2n R A ws 0 false b4k w3 h3).mono ?_;rintro e w4 ⟨rfl,h4,kq⟩;have k4:=k3.trans kq;clear kq k3 h3;rcases Bool.eq_false_or_eq_true (isB ws 0 false b4k) with hb3|hb3
 ·rw[hb3,if_pos rfl] at h4;have E4:=hide ((a0d HE).kept k4 hR)
  go_wp2_with fail
  refine (a7w R A ws (1,false) w4 h4 (a0d E4) hR).mono ?_;rintro e w4a ⟨rfl,h4a,kq⟩;have k4a:=k4.trans kq;have E4a:=hide ((a0d E4).kept kq hR);clear kq k4 h4 E4
  go_wp2_with fail
  refine (a2S R A ws _ _ w4a h4a).mono ?_;rintro e w4b ⟨rfl,h4b,kq⟩;have k4b:=k4a.trans kq;have E4b:=hide ((a0d E4a).kept kq hR);clear kq k4a h4a E4a;have HK:=hide k4b;have HH:=hide h4b;go_wp2;go_ret;exact⟨_,(a0M ws [nmB,unB,a0n,a0n,miB] (1,false)),rfl,.wait hb3,HH.out,HK.out⟩
 rw[hb3] at h4 ⊢
 go_wp2_with fail
 refine (a2n R A ws 0 false a7l w4 h4).mono ?_;rintro e w5 ⟨rfl,h5,kq⟩;have k5:=k4.trans kq;clear kq k4 h4;rcases Bool.eq_false_or_eq_true (isB ws 0 false a7l) with hb4|hb4
 ·rw[hb4,if_pos rfl] at h5;have E5:=hide ((a0d HE).kept k5 hR)
  go_wp2_with fail
  refine (a3v R A ws _ _ w5 h5).mono ?_;rintro e w5a ⟨rfl,h5a,kq⟩;have k5a:=k5.trans kq;have E5a:=hide ((a0d E5).kept kq hR);clear kq k5 h5 E5
  go_wp2_with fail
  refine (a5v R A ws _ _ w5a h5a).mono ?_;rintro e w5b ⟨rfl,h5b,kq⟩;have k5b:=k5a.trans kq;have E5b:=hide ((a0d E5a).kept kq hR);clear kq k5a h5a E5a
  go_wp2_with fail
  refine (a0d HPP (.inl hb4) R A (a0M ws [nmB,unB] (1,false)) w5b h5b (a0d E5b) hR).mono ?_;rintro e w5c ⟨pc,ev,acc,fr,mn,mi,ti,un,s,rfl,hr,h5c,kq⟩;have HR:=hide hr;clear hr;simp only[b9E];have k5c:=k5b.trans kq;have E5c:=hide ((a0d E5b).kept kq hR);clear kq k5b h5b E5b;have HK:=hide k5c;have HH:=hide h5c;go_wp2;go_ret;exact⟨_,s,rfl,.series hb4 pc ev acc fr mn mi ti un s HR.out,HH.out,HK.out⟩
 rw[hb4] at h5 ⊢
 go_wp2_with fail
 refine (a2n R A ws 0 false a4z w5 h5).mono ?_;rintro e w6 ⟨rfl,h6,kq⟩;have k6:=k5.trans kq;clear kq k5 h5;rcases Bool.eq_false_or_eq_true (isB ws 0 false a4z) with hb5|hb5
 ·rw[hb5,if_pos rfl] at h6;have E6:=hide ((a0d HE).kept k6 hR)
  go_wp2_with fail
  refine (b9J R A ws _ _ w6 h6).mono ?_;rintro e w6a ⟨rfl,h6a,kq⟩;have k6a:=k6.trans kq;have E6a:=hide ((a0d E6).kept kq hR);clear kq k6 h6 E6;have HK:=hide k6a;have HH:=hide h6a;go_wp2;go_ret;exact⟨_,(a0M ws [idB] (1,false)),rfl,.confirm hb5,HH.out,HK.out⟩
 rw[hb5] at h6 ⊢
 go_wp2_with fail
 refine (a2n R A ws 0 false a6m w6 h6).mono ?_;rintro e w7 ⟨rfl,h7,kq⟩;have k7:=k6.trans kq;clear kq k6 h6;rcases Bool.eq_false_or_eq_true (isB ws 0 false a6m) with hb6|hb6
 ·rw[hb6,if_pos rfl] at h7;have E7:=hide ((a0d HE).kept k7 hR)
  go_wp2_with fail
  refine (b9J R A ws _ _ w7 h7).mono ?_;rintro e w7a ⟨rfl,h7a,kq⟩;have k7a:=k7.trans kq;have E7a:=hide ((a0d E7).kept kq hR);clear kq k7 h7 E7;have HK:=hide k7a;have HH:=hide h7a;go_wp2;go_ret;exact⟨_,(a0M ws [idB] (1,false)),rfl,.cancel hb6,HH.out,HK.out⟩
 rw[hb6] at h7 ⊢
 go_wp2_with fail
 refine (a2n R A ws 0 false a5Q w7 h7).mono ?_;rintro e w8 ⟨rfl,h8,kq⟩;have k8:=k7.trans kq;clear kq k7 h7;rcases Bool.eq_false_or_eq_true (isB ws 0 false a5Q) with hb7|hb7
 ·rw[hb7,if_pos rfl] at h8;have E8:=hide ((a0d HE).kept k8 hR)
  cases hm:a1b ws.length (a0M ws [nmB] (1,false)).1 (a0M ws [nmB] (1,false)).2
  ·go_wp2_with fail
   refine (b9H R A ws (1,false) w8 h8 hm).mono ?_;rintro e wz ⟨rfl,hz,kz⟩;have HK:=hide (k8.trans kz);have HH:=hide hz;have HM:=hide hm;clear hz kz hm k8 h8;go_wp2;go_ret;exact⟨_,(a0M ws [nmB] (1,false)),rfl,.list0 hb7 HM.out,HH.out,HK.out⟩
  ·go_wp2_with fail
   refine (b7W R A ws (1,false) w8 h8 (a0d E8) hR hm).mono ?_;rintro e wz ⟨rfl,hz,kz⟩;have HK:=hide (k8.trans kz);have HH:=hide hz;have HM:=hide hm;clear hz kz hm k8 h8;go_wp2;go_ret;exact⟨_,(a0M ws [nmB,a0n,a0n] (1,false)),rfl,.list1 hb7 HM.out,HH.out,HK.out⟩
 rw[hb7] at h8 ⊢
 go_wp2_with fail
 refine (a2n R A ws 0 false a5q w8 h8).mono ?_;rintro e w9 ⟨rfl,h9,kq⟩;have k9:=k8.trans kq;clear kq k8 h8;rcases Bool.eq_false_or_eq_true (isB ws 0 false a5q) with hb8|hb8
 ·rw[hb8,if_pos rfl] at h9;have E9:=hide ((a0d HE).kept k9 hR);have HK:=hide k9;have HH:=hide h9;go_wp2;go_ret;exact⟨_,(1,false),rfl,.waiting hb8,HH.out,HK.out⟩
 rw[hb8] at h9 ⊢
 go_wp2_with fail
 refine (a2n R A ws 0 false a9a w9 h9).mono ?_;rintro e w10 ⟨rfl,h10,kq⟩;have k10:=k9.trans kq;clear kq k9 h9;rcases Bool.eq_false_or_eq_true (isB ws 0 false a9a) with hb9|hb9
 ·rw[hb9,if_pos rfl] at h10;have E10:=hide ((a0d HE).kept k10 hR)
  go_wp2_with fail
  refine (a3v R A ws _ _ w10 h10).mono ?_;rintro e w10a ⟨rfl,h10a,kq⟩;have k10a:=k10.trans kq;have E10a:=hide ((a0d E10).kept kq hR);clear kq k10 h10 E10
  go_wp2_with fail
  refine (a6F R A ws _ _ w10a h10a (a0d E10a) hR).mono ?_;rintro e w10b ⟨rfl,h10b,kq⟩;have k10b:=k10a.trans kq;have E10b:=hide ((a0d E10a).kept kq hR);clear kq k10a h10a E10a;have HK:=hide k10b;have HH:=hide h10b;go_wp2;go_ret;exact⟨_,(a0M ws [nmB,a0n,a0n] (1,false)),rfl,.peak hb9,HH.out,HK.out⟩
 rw[hb9] at h10 ⊢
 go_wp2_with fail
 refine (a2n R A ws 0 false b5h w10 h10).mono ?_;rintro e w11 ⟨rfl,h11,kq⟩;have k11:=k10.trans kq;clear kq k10 h10;rcases Bool.eq_false_or_eq_true (isB ws 0 false b5h) with hb10|hb10
 ·rw[hb10,if_pos rfl] at h11;have E11:=hide ((a0d HE).kept k11 hR)
  go_wp2_with fail
  refine (a3v R A ws _ _ w11 h11).mono ?_;rintro e w11a ⟨rfl,h11a,kq⟩;have k11a:=k11.trans kq;have E11a:=hide ((a0d E11).kept kq hR);clear kq k11 h11 E11
  go_wp2_with fail
  refine (a5v R A ws _ _ w11a h11a).mono ?_;rintro e w11b ⟨rfl,h11b,kq⟩;have k11b:=k11a.trans kq;have E11b:=hide ((a0d E11a).kept kq hR);clear kq k11a h11a E11a
  go_wp2_with fail
  refine (a2S R A ws _ _ w11b h11b).mono ?_;rintro e w11c ⟨rfl,h11c,kq⟩;have k11c:=k11b.trans kq;have E11c:=hide ((a0d E11b).kept kq hR);clear kq k11b h11b E11b
  go_wp2_with fail
  refine (a6F R A ws _ _ w11c h11c (a0d E11c) hR).mono ?_;rintro e w11d ⟨rfl,h11d,kq⟩;have k11d:=k11c.trans kq;have E11d:=hide ((a0d E11c).kept kq hR);clear kq k11c h11c E11c;have HK:=hide k11d;have HH:=hide h11d;go_wp2;go_ret;exact⟨_,(a0M ws [nmB,unB,miB,a0n,a0n] (1,false)),rfl,.find hb10,HH.out,HK.out⟩
 rw[hb10] at h11 ⊢
 go_wp2_with fail
 refine (a2n R A ws 0 false a7M w11 h11).mono ?_;rintro e w12 ⟨rfl,h12,kq⟩;have k12:=k11.trans kq;clear kq k11 h11;rcases Bool.eq_false_or_eq_true (isB ws 0 false a7M) with hb11|hb11
 ·rw[hb11,if_pos rfl] at h12;have E12:=hide ((a0d HE).kept k12 hR)
  go_wp2_with fail
  refine (a0d HPP (.inr hb11) R A (1,false) w12 h12 (a0d E12) hR).mono ?_;rintro e w12a ⟨pc,ev,acc,fr,mn,mi,ti,un,s,rfl,hr,h12a,kq⟩;have HR:=hide hr;clear hr;simp only[b9E];have k12a:=k12.trans kq;have E12a:=hide ((a0d E12).kept kq hR);clear kq k12 h12 E12;have HK:=hide k12a;have HH:=hide h12a;go_wp2;go_ret;exact⟨_,s,rfl,.expand hb11 pc ev acc fr mn mi ti un s HR.out,HH.out,HK.out⟩
 rw[hb11] at h12 ⊢
 go_wp2_with fail
 refine (a2n R A ws 0 false b4n w12 h12).mono ?_;rintro e w13 ⟨rfl,h13,kq⟩;have k13:=k12.trans kq;clear kq k12 h12;rcases Bool.eq_false_or_eq_true (isB ws 0 false b4n) with hb12|hb12
 ·rw[hb12,if_pos rfl] at h13;have E13:=hide ((a0d HE).kept k13 hR)
  go_wp2_with fail
  refine (a2S R A ws _ _ w13 h13).mono ?_;rintro e w13a ⟨rfl,h13a,kq⟩;have k13a:=k13.trans kq;have E13a:=hide ((a0d E13).kept kq hR);clear kq k13 h13 E13;have HK:=hide k13a;have HH:=hide h13a;go_wp2;go_ret;exact⟨_,(a0M ws [miB] (1,false)),rfl,.tick hb12,HH.out,HK.out⟩
 rw[hb12] at h13 ⊢
 go_wp2_with fail
 refine (a2n R A ws 0 false b1c w13 h13).mono ?_;rintro e w14 ⟨rfl,h14,kq⟩;have k14:=k13.trans kq;clear kq k13 h13;rcases Bool.eq_false_or_eq_true (isB ws 0 false b1c) with hb13|hb13
 ·rw[hb13,if_pos rfl] at h14;have E14:=hide ((a0d HE).kept k14 hR);have HK:=hide k14;have HH:=hide h14;go_wp2;go_ret;exact⟨_,(1,false),rfl,.clock hb13,HH.out,HK.out⟩
 rw[hb13] at h14 ⊢;have c2:=h14.c2;have f2:=h14.f2;go_wp2;go_ret;exact⟨_,(0,true),rfl,.none hb0 hb1 hb2 hb3 hb4 hb5 hb6 hb7 hb8 hb9 hb10 hb11 hb12 hb13,h14.bad,k14.setCell _ _⟩
theorem b4i(s:ByteArray):∀ x∈Txt.a1v s,x.size<=s.size:=by
 intro x hx;unfold Txt.a1v at hx;simp only[List.mem_map] at hx;obtain⟨y,_,rfl⟩:=hx;have:(s.extract y.1 y.2).size=min y.2 s.size-y.1:=ByteArray.size_extract ..;omega
inductive a7T (s:ByteArray):Ending->Prop where
 |long (h:160<s.size):a7T s (.returned (.tuple #[.nilIface,.int .i64 1,.int .i64 0]))
 |bad (h:s.size<=160) (v:Value) (st:Nat × Bool) (hl:a2H (Txt.a1v s) v st) (hb:st.2=true\/a1b (Txt.a1v s).length st.1 st.2=true):a7T s (.returned (.tuple #[.nilIface,.int .i64 2,.int .i64 st.1]))
 |e6J (h:s.size<=160) (v:Value) (st:Nat × Bool) (hl:a2H (Txt.a1v s) v st) (h2:st.2=false) (hb:a1b (Txt.a1v s).length st.1 st.2=false):a7T s (.returned (.tuple #[v,.int .i64 0,.int .i64 0]))
theorem b7v(s:ByteArray):∀ k:Nat,k<=s.size->(Txt.b7w s k).length+(if (Txt.a8z s k).size=0 then 0 else 1)<=k
 |0,_=>by
  have:=Txt.b5J s 0;have:=Txt.b7k s 0;rw[if_pos (by omega)];omega
 |k+1,hk=>by
  have ih:=b7v s k (by omega)
  by_cases hb:Txt.a0V s k=32
  ·obtain⟨h1,h2⟩:=Txt.b3O s k (by omega) hb;have e:(if (⟨#[]⟩:ByteArray).size=0 then (0:Nat) else 1)=0:=if_pos rfl;rw[h1,h2,e,List.length_append]
   by_cases hc:(Txt.a8z s k).size=0
   ·rw[if_pos hc] at ih ⊢;simp;omega
   ·rw[if_neg hc] at ih ⊢;simp;omega
  ·obtain⟨_,h2⟩:=Txt.b7l s k hb;rw[h2]
   split at ih <;> split <;> omega
theorem b7C(s:ByteArray):(Txt.a1v s).length<=s.size:=by
 have:=b7v s s.size (zq _);rw[Txt.b2t,List.length_append]
 split <;> rename_i hc <;> simp[hc] at this ⊢ <;> omega
theorem b9Q{base g cap:Nat}{xs:List ByteArray}(h:w.ownsRow base 9 1 (.slice (some ⟨g,0,none⟩) n cap) n (xs.map Value.string)):g<w.heap.size/\∀ (i:Nat)(hi:i<xs.length),w.cell? ⟨g,i,none⟩=some (.string xs[i]):=by
 rcases h.2 with ⟨h0,_⟩|⟨g',cap',cur,hv,hg,hh,hc,_,hs,ht⟩
 ·cases h0
 ·cases hv
  have hl:g<w.heap.size:=by
   by_cases hl:g<w.heap.size
   ·exact hl
   ·rw[Array.getElem?_eq_none (by omega)] at hh;cases hh
  refine⟨hl,fun i hi=>?_⟩;have h1:=h.1;have hlen:(xs.map Value.string).length=xs.length:=by simp
  have hcur:cur[i]?=some (.string xs[i]):=by
   have hx:(xs.map Value.string)[i]?=some (.string xs[i]):=by simp[hi]
   rw[<- ht,List.getElem?_take,if_pos (by omega)] at hx
   simpa using hx
  simp[World.cell?,hh,hcur]
theorem f3Y(s:ByteArray)(w:World)(he:Env w)(hP:isB (Txt.a1v s) 0 false a7l=true\/isB (Txt.a1v s) 0 false a7M=true->g3M (Txt.a1v s)):
  Calls Tryz.prog 45 #[.string s] w fun e w'=>a7T s e/\Below w.heap.size w w':=by
 have HE:=hide he;have h10:=he.size;clear he
 by_cases hs:s.size<=160
 ·have hs2:(s.size:Int)<=160:=by omega
  go_enter Tryz.func45,Tryz.ntmps45
  go_wp2_with fail
  refine (b9v s w hs).mono ?_;rintro e w1 ⟨A,rfl,hA,ho,hb⟩;obtain⟨hAl,hrow⟩:=b9Q ho;have hwl:=b7C s;have hsm:=b4i s;obtain⟨ws,hws⟩:∃ ws,ws=Txt.a1v s:=⟨_,rfl⟩;have HWS:=hide hws;rw[<- hws] at hrow hwl hsm hP ⊢;have HPP:=hide hP;clear hws ho hP;have HROW:=hide hrow;have HSM:=hide hsm;clear hrow hsm
  go_wp2_with fail
  obtain⟨X,hX⟩:∃ X,X=w1.alloc (.cells #[.slice (some ⟨A,0,none⟩) ws.length ws.length,.int .i64 0,.bool false] 123):=⟨_,rfl⟩;rw[<- hX];have hbX:Below w1.heap.size w1 X:=by rw[hX];exact (zr _ _).alloc (zq _) _
  have hrs:RS X w1.heap.size A ws 0 false:=by
   refine⟨?_,?_,?_,?_,?_,by omega,fun i hi=>cell_later hbX (a0d HROW i hi),by omega,Nat.zero_le _,fun x hx=>Nat.le_trans (a0d HSM x hx) hs⟩ <;> (rw[hX];simp)
  clear hX;have eX:=((a0d HE).later hb).later hbX;have hz1:=hb.size;refine (f1j w1.heap.size A ws X hrs eX (by omega) (a0d HPP)).mono ?_;rintro e w2 ⟨v,st,rfl,hl,h2,k2⟩;have c1:=h2.c1;have c2:=h2.c2;have HL:=hide hl;have hbW:Below w.heap.size w w2:=(hb.trans (hbX.mono hz1)).trans (k2.below hz1 (Nat.le_trans hz1 hbX.size));have hnx:=h2.c6c;clear hl eX hrs hbX;obtain⟨nx,wr⟩:=st;dsimp only at c1 c2 h2 hnx;have hmo:a1b ws.length nx wr=false\/a1b ws.length nx wr=true:=by cases a1b ws.length nx wr <;> simp
  cases wr
  ·rcases hmo with hmo|hmo
   ·have HM:=hide hmo
    go_wp2_with fail
    refine (a0X w1.heap.size A ws nx false w2 h2).mono ?_;rintro e w3 ⟨rfl,n,hw3⟩;have hb3:Below w.heap.size w w3:=by rw[hw3];exact⟨hbW.os,hbW.tape,hbW.output,hbW.size,hbW.block⟩
    clear hw3 h2;rw[hmo];go_wp2;go_ret3;have hws:=HWS.out;subst hws;exact⟨.e6J hs v (nx,false) HL.out rfl HM.out,hb3⟩
   ·have HM:=hide hmo
    go_wp2_with fail
    refine (a0X w1.heap.size A ws nx false w2 h2).mono ?_;rintro e w3 ⟨rfl,n,hw3⟩;have hb3:Below w.heap.size w w3:=by rw[hw3];exact⟨hbW.os,hbW.tape,hbW.output,hbW.size,hbW.block⟩
    have d1:w3.cell? ⟨w1.heap.size,1,none⟩=some (.int .i64 nx):=by rw[hw3];exact c1
    clear hw3 h2 c1 c2;rw[hmo];go_wp2
    go_quiet (fail)
    go_wp2;go_ret3;have hws:=HWS.out;subst hws;exact⟨.bad hs v (nx,false) HL.out (.inr HM.out),⟨hb3.os,hb3.tape,hb3.output,hb3.size,hb3.block⟩⟩
  ·clear h2 hmo;go_wp2
   go_quiet (fail)
   go_wp2;go_ret3;have hws:=HWS.out;subst hws;exact⟨.bad hs v (nx,true) HL.out (.inl rfl),⟨hbW.os,hbW.tape,hbW.output,hbW.size,hbW.block⟩⟩
 ·have hs2:¬ (s.size:Int)<=160:=by omega
  go_enter Tryz.func45,Tryz.ntmps45
  go_wp2;go_ret3;exact⟨.long (by omega),Below.refl _ _⟩
theorem b6h(s:ByteArray)(w:World)(he:Env w):
  Calls Tryz.prog 45 #[.string s] w fun e w'=>a7T s e/\Below w.heap.size w w':=f3Y s w he (fun _ R A st w h he hR=>b2P R A _ st w h he hR)
open Desk (Ent St Ids kept a0C a0Q a1C a2e ofB a0y a2c Mid a1H a0z Inv)
theorem Env.ten(h:Env w)(hb:Below 10 w wx):Env wx:=by
 obtain⟨m,hm⟩:=h.c5L;have c:∀ {b:Nat}{o:Nat}{v:Value},b<10->w.cell? ⟨b,o,none⟩=some v->wx.cell? ⟨b,o,none⟩=some v:=fun hb' hv=>(hb.cell (p:=⟨_,_,none⟩) hb').trans hv
 have ht:=h.tab;obtain⟨a0,a1,a2,a3,a4,a5,a6,a7,a8,a9,a10,a11⟩:=ht;refine⟨⟨c (by decide) a0,c (by decide) a1,c (by decide) a2,c (by decide) a3,c (by decide) a4,c (by decide) a5,c (by decide) a6,c (by decide) a7,c (by decide) a8,c (by decide) a9,c (by decide) a10,c (by decide) a11⟩,⟨m,c (by decide) hm⟩,?_,Nat.le_trans h.size hb.size,c (by decide) h.mo,c (by decide) h.tu,c (by decide) h.we,c (by decide) h.th,c (by decide) h.fr,c (by decide) h.sa,c (by decide) h.su⟩;have hp:=h.pow;unfold Lib.TabIs World.var? at hp ⊢;simp only[c6q,Option.bind_some] at hp ⊢;rw[hb.block 0 (by decide)];exact hp
theorem Step.ten{S:Col->Prop}{B:Nat}{col':Nat->Option Col}(h:Step S B col col' w w')(hB:10<=B)(hs:10<=w.heap.size)(hc:∀ b,b<10->col b=none):Below 10 w w'/\∀ b,b<10->col' b=none:=by
 obtain⟨G,h1,h2⟩:=h.off;refine⟨⟨h1.os,h1.tape,h1.output,h1.size,fun b hb=>h1.block b (by omega) (fun hx=>?_)⟩,fun b hb=>?_⟩
 ·rcases h2 b hx with ⟨c,e,_⟩|⟨_,e⟩
  ·rw[hc b hb] at e;cases e
  ·omega
 ·cases e:col' b with
  |none=>rfl
  |some c =>
   rcases h.new b c e with e1|e1
   ·rw[hc b hb] at e1;cases e1
   ·omega
structure BD(w:World)(p d:Nat)(s:St)(r:Raw)(col:Nat->Option Col):Prop where
 pc:w.heap[p]?=some (.cells #[.pointer (some ⟨d,0,none⟩)] 99 (0,0))
 pn:col p=none
 ds:DSt w d s r col
 env:Env w
 gl:∀ b,b<10->col b=none
def b5M(w:World)(p d:Nat)(col:Nat->Option Col)(q:St × Desk.Rep)(v:Value)(w':World):Prop :=
 ∃ (r':Raw) (col':Nat->Option Col),BD w' p d q.1 r' col'/\Step anyS w.heap.size col col' w w'/\a5m w' w.heap.size col' v q.2
def f9T(t:ByteArray):Prop:=∀ X,Env X->Calls Tryz.prog 45 #[.string t] X fun e w'=>a7T t e/\Below X.heap.size X w'
theorem f6L{s:St}(h:BD w p d s r col)(t:ByteArray)(line:Value)(l:Desk.a7U)(hRD:f9T t)(hr:∀ e,a7T t e->e=.returned (.tuple #[line,.int .i64 0,.int .i64 0]))(hmd:Desk.Mid (Desk.a0g s l).1)(hin:Desk.Inv (Desk.a1q s l).1)(hgl:(Desk.a0g s l).2.granted.length<=50000)
  (hans:∀ X,Tab X->10<=X.heap.size->DSt X d s r col->Calls Tryz.prog 64 #[.pointer (some ⟨d,0,none⟩),line] X fun e w'=>∃ v,e=.returned v/\a0l X d col (Desk.a0g s l) v w'):
  Calls Tryz.prog 21 #[.pointer (some ⟨p,0,none⟩),.string t] w fun e w'=>∃ v,e=.returned v/\b5M w p d col (Desk.a1q s l) v w':=by
 have hX:Below w.heap.size w (w.alloc a0f):=(zr _ _).alloc (zq _) _;have hq:=a0p w a0f;have hs:w.heap.size<(w.alloc a0f).heap.size:=by simp
 have RD:=a0b (hRD (w.alloc a0f) (h.env.later hX));have HX:=a0b (And.intro hX (And.intro (Q7.of hq) (And.intro (h.ds.dk.none (zq _)) hs)));have HH:=a0b h;have HR:=a0b hr;have HD:Hid (∀ w1,Below w.heap.size w w1->Calls Tryz.prog 46 #[.pointer (some ⟨d,0,none⟩),line] w1 fun e w'=>∃ v,e=.returned v/\a0l w1 d col (Desk.a1q s l) v w'):=fun w1 k=>c6E ⟨h.ds.dk.later k,h.ds.of,h.ds.wl,h.ds.hl,h.ds.inv⟩ line l hmd hgl (fun X kX hds=>hans X (((h.env.later k).later kX).tab) (Nat.le_trans (Nat.le_trans h.env.size k.size) kX.size) hds)
 have HI:=a0b hin;have hpl:p<w.heap.size:=(Array.getElem?_eq_some_iff.1 h.pc).1;clear h hr hans hX hq hs hgl hmd hin;generalize Desk.a1q s l=q at *
 go_enter Tryz.func21,Tryz.ntmps21
 go_upto_region 1 with fail
 change Code.wp _ _ _ _ (w.alloc a0f);generalize w.alloc a0f=X at *
 go_upto_region 2 with (first
  |(go_at_call 45;refine RD.out.mono ?_;rintro e w1 ⟨hrr,hb⟩;obtain rfl:=HR.out _ hrr))
 have BW:Hid (Below w.heap.size w w1):=HX.out.1.trans (hb.mono HX.out.1.size)
 have pc:w1.cell? ⟨p,0,none⟩=some (.pointer (some ⟨d,0,none⟩)):=by
  have:=(BW.out.block p hpl).trans HH.out.pc;simp[World.cell?,this]
 have DD:=a0b (HD.out w1 BW.out);have QX:Hid (Q7 w1 w.heap.size/\w.heap.size<w1.heap.size):=⟨HX.out.2.1.later (hb.block _ HX.out.2.2.2),Nat.lt_of_lt_of_le HX.out.2.2.2 hb.size⟩;clear HD RD HR hb hrr
 go_wp2_with fail
 refine DD.out.mono ?_;rintro e w2 ⟨v,rfl,ap⟩;obtain⟨er,at_,nn,a1,a2,a3,a4,n1,n2,n3,n4,c1,c2,c3,c4,rfl,q7,hf⟩:=ap.up BW.out (zq _) QX.out.2 HX.out.2.2.1 QX.out.1
 have HF:Hid (b5M w p d col q (a0s er at_ nn (.slice a1 n1 c1) (.slice a2 n2 c2) (.slice a3 n3 c3) (.slice a4 n4 c4)) (a2w w2 w.heap.size (.int .i64 er) (.int .i64 at_) (.int .i64 nn) (.slice a1 n1 c1) (.slice a2 n2 c2) (.slice a3 n3 c3) (.slice a4 n4 c4))):=by
  obtain⟨r',col',k1,k2,k3,k4,k5,k6⟩:=hf (.int .i64 er) (.int .i64 at_) (.int .i64 nn) (.slice a1 n1 c1) (.slice a2 n2 c2) (.slice a3 n3 c3) (.slice a4 n4 c4);have h0:=HH.out;obtain⟨t1,t2⟩:=k5.ten h0.env.size h0.env.size h0.gl;exact⟨r',col',⟨(k5.blockN hpl h0.pn hpl).trans h0.pc,k5.keepN h0.pn hpl,⟨k1,k2,k3,k4,HI.out⟩,h0.env.ten t1,t2⟩,k5,k6⟩
 clear ap hf DD pc;obtain⟨q0,q1,q2,q3,q4,q5,q6,fq⟩:=q7;simp only[a0s]
 go_wp2_with fail
 exact d0O Tryz.results21 ⟨q0,q1,q2,q3,q4,q5,q6,fq⟩ ⟨_,rfl,HF.out⟩
theorem f9O{s:St}(h:BD w p d s r col)(t:ByteArray)(er at_:Int)(hRD:f9T t)(he:er≠0)(hr:∀ e,a7T t e->e=.returned (.tuple #[.nilIface,.int .i64 er,.int .i64 at_])):
  Calls Tryz.prog 21 #[.pointer (some ⟨p,0,none⟩),.string t] w fun e w'=>∃ v,e=.returned v/\b5M w p d col (s,⟨er,at_,0,[],[],[],[]⟩) v w':=by
 have hX:Below w.heap.size w (w.alloc a0f):=(zr _ _).alloc (zq _) _;have hq:=a0p w a0f;have hs:w.heap.size<(w.alloc a0f).heap.size:=by simp
 have RD:=a0b (hRD (w.alloc a0f) (h.env.later hX));have HX:=a0b (And.intro hX (And.intro (Q7.of hq) (And.intro (h.ds.dk.none (zq _)) hs)));have HH:=a0b h;have HR:=a0b hr;have hpl:p<w.heap.size:=(Array.getElem?_eq_some_iff.1 h.pc).1;have hb1:(er != 0)=true:=by simpa using he
 clear h hr hX hq hs he
 go_enter Tryz.func21,Tryz.ntmps21
 go_upto_region 1 with fail
 change Code.wp _ _ _ _ (w.alloc a0f);generalize w.alloc a0f=X at *
 go_upto_region 2 with (first
  |(go_at_call 45;refine RD.out.mono ?_;rintro e w1 ⟨hrr,hb⟩;obtain rfl:=HR.out _ hrr))
 have BW:Hid (Below w.heap.size w w1):=HX.out.1.trans (hb.mono HX.out.1.size);have QX:Hid (Q7 w1 w.heap.size):=HX.out.2.1.later (hb.block _ HX.out.2.2.2)
 have HF:Hid (∀ a b c e f g i,b5M w p d col (s,⟨er,at_,0,[],[],[],[]⟩) (a0s er at_ 0 (.slice none 0 0) (.slice none 0 0) (.slice none 0 0) (.slice none 0 0)) (a2w w1 w.heap.size a b c e f g i)):=fun a b c e f g i=>by
  have h0:=HH.out;have ko:=a2R w1 w.heap.size a b c e f g i;have nq:=h0.ds.dk.none (zq w.heap.size);have st:Step anyS w.heap.size col col w (a2w w1 w.heap.size a b c e f g i):=(Step.below BW.out).trans ⟨⟨_,ko,fun x hx=>.inr (by have:x=w.heap.size:=List.mem_singleton.1 hx;subst this;exact⟨nq,Nat.le_refl _⟩)⟩,fun _ _ h=>h,fun _ _ h=>.inl h⟩;obtain⟨t1,t2⟩:=st.ten h0.env.size h0.env.size h0.gl;exact⟨r,col,⟨(st.blockN hpl h0.pn hpl).trans h0.pc,h0.pn,⟨(h0.ds.dk.later BW.out).off ko (fun x hx=>by have:x=w.heap.size:=List.mem_singleton.1 hx;subst this;exact nq),h0.ds.of,h0.ds.wl,h0.ds.hl,h0.ds.inv⟩,h0.env.ten t1,t2⟩,st,⟨_,_,_,_,[],rfl,rfl,a3j.nil _ _ _,a2I.nil _ _ _,a2I.nil _ _ _,a2I.nil _ _ _,(fun b hb=>by cases hb),fun b hb=>by cases hb⟩⟩
 clear RD HR hb hrr HX;obtain⟨q0,q1,q2,q3,q4,q5,q6,fq⟩:=QX.out
 go_wp2_with fail
 exact d0O Tryz.results21 ⟨q0,q1,q2,q3,q4,q5,q6,fq⟩ ⟨_,rfl,HF.out _ _ _ _ _ _ _⟩
theorem e9l{T:TypeId}{fs:Array Field}(hu:Tryz.prog.underlying T=some (.struct fs))(xT:TypeId)(v:Value)(w:World):(Instr.typeAssert (.iface T v) xT T true).run Tryz.prog w=.ok (.tuple #[v,.bool true]) w:=by
 simp[Instr.typeAssert,go_sem,Result.andThen,run_underlying hu]
theorem DSt.kit{s:Desk.St}(h:DSt w d s r col)(o:Obj):DSt ((w.alloc a0f).alloc o) d s r col/\Below w.heap.size w ((w.alloc a0f).alloc o)/\Q7 ((w.alloc a0f).alloc o) w.heap.size/\col w.heap.size=none/\w.heap.size<((w.alloc a0f).alloc o).heap.size:=by
 have hX:Below w.heap.size w ((w.alloc a0f).alloc o):=((zr _ _).alloc (zq _) _).alloc (by simp) _;exact⟨⟨h.dk.later hX,h.of,h.wl,h.hl,h.inv⟩,hX,Q7.of ((Below.heap_alloc _ _ _ (by simp)).trans (a0p w a0f)),h.dk.none (zq _),by simp;omega⟩
theorem a0l.upA{X w2:World}{q:Desk.St × Desk.Rep}{v:Value}(h:a0l X d col q v w2)(k:Below w.heap.size w X/\Q7 X w.heap.size/\col w.heap.size=none/\w.heap.size<X.heap.size):
  ∃ (er at_ n:Int) (a1 a2 a3 a4:Option Addr) (n1 n2 n3 n4 c1 c2 c3 c4:Nat),v=a0s er at_ n (.slice a1 n1 c1) (.slice a2 n2 c2) (.slice a3 n3 c3) (.slice a4 n4 c4)/\Q7 w2 w.heap.size/\a0l w d col q v (a2w w2 w.heap.size (.int .i64 er) (.int .i64 at_) (.int .i64 n) (.slice a1 n1 c1) (.slice a2 n2 c2) (.slice a3 n3 c3) (.slice a4 n4 c4)):=by
 obtain⟨er,at_,n,a1,a2,a3,a4,n1,n2,n3,n4,c1,c2,c3,c4,e,q7,hf⟩:=h.up k.1 (zq _) k.2.2.2 k.2.2.1 k.2.1;exact⟨er,at_,n,a1,a2,a3,a4,n1,n2,n3,n4,c1,c2,c3,c4,e,q7,hf _ _ _ _ _ _ _⟩
theorem d0q(t:TypeId)(h:t≠149)(xT:TypeId)(v:Value)(w:World):(Instr.typeAssert (.iface t v) xT 149 true).run Tryz.prog w=.ok (.tuple #[.agg #[.string ⟨#[]⟩,.int .i64 0],.bool false]) w:=by
 simp[Instr.typeAssert,go_sem,Result.andThen,run_underlying Tryz.underlying149,h]
theorem d2o(t:TypeId)(h:t≠154)(xT:TypeId)(v:Value)(w:World):(Instr.typeAssert (.iface t v) xT 154 true).run Tryz.prog w=.ok (.tuple #[.agg #[.string ⟨#[]⟩,.int .i64 0,.int .i64 0,.int .i64 0],.bool false]) w:=by
 simp[Instr.typeAssert,go_sem,Result.andThen,run_underlying Tryz.underlying154,h]
theorem d2F(t:TypeId)(h:t≠156)(xT:TypeId)(v:Value)(w:World):(Instr.typeAssert (.iface t v) xT 156 true).run Tryz.prog w=.ok (.tuple #[.agg #[.string ⟨#[]⟩,.int .i64 0,.int .i64 0,.int .i64 0,.int .i64 0],.bool false]) w:=by
 simp[Instr.typeAssert,go_sem,Result.andThen,run_underlying Tryz.underlying156,h]
theorem d3H(t:TypeId)(h:t≠157)(xT:TypeId)(v:Value)(w:World):(Instr.typeAssert (.iface t v) xT 157 true).run Tryz.prog w=.ok (.tuple #[.agg #[.string ⟨#[]⟩,.int .i64 0,.int .i64 0,.int .i64 0,.int .i64 0],.bool false]) w:=by
 simp[Instr.typeAssert,go_sem,Result.andThen,run_underlying Tryz.underlying157,h]
theorem d0K(t:TypeId)(h:t≠165)(xT:TypeId)(v:Value)(w:World):(Instr.typeAssert (.iface t v) xT 165 true).run Tryz.prog w=.ok (.tuple #[.agg #[.string ⟨#[]⟩,.int .i64 0,.int .i64 0,.int .i64 0,.bool false,.bool false,.bool false,.bool false,.bool false,.bool false,.bool false,.int .i64 0,.int .i64 0,.int .i64 0,.int .i64 0,.int .i64 0],.bool false]) w:=by
 simp[Instr.typeAssert,go_sem,Result.andThen,run_underlying Tryz.underlying165,h]
theorem d0y(t:TypeId)(h:t≠167)(xT:TypeId)(v:Value)(w:World):(Instr.typeAssert (.iface t v) xT 167 true).run Tryz.prog w=.ok (.tuple #[.agg #[.int .i64 0],.bool false]) w:=by
 simp[Instr.typeAssert,go_sem,Result.andThen,run_underlying Tryz.underlying167,h]
theorem d1Q(t:TypeId)(h:t≠168)(xT:TypeId)(v:Value)(w:World):(Instr.typeAssert (.iface t v) xT 168 true).run Tryz.prog w=.ok (.tuple #[.agg #[.int .i64 0],.bool false]) w:=by
 simp[Instr.typeAssert,go_sem,Result.andThen,run_underlying Tryz.underlying168,h]
theorem d8g(t:TypeId)(h:t≠170)(xT:TypeId)(v:Value)(w:World):(Instr.typeAssert (.iface t v) xT 170 true).run Tryz.prog w=.ok (.tuple #[.agg #[.string ⟨#[]⟩,.bool false,.int .i64 0,.int .i64 0],.bool false]) w:=by
 simp[Instr.typeAssert,go_sem,Result.andThen,run_underlying Tryz.underlying170,h]
theorem d2E(t:TypeId)(h:t≠173)(xT:TypeId)(v:Value)(w:World):(Instr.typeAssert (.iface t v) xT 173 true).run Tryz.prog w=.ok (.tuple #[.agg #[],.bool false]) w:=by
 simp[Instr.typeAssert,go_sem,Result.andThen,run_underlying Tryz.underlying173,h]
theorem e3J(t:TypeId)(h:t≠176)(xT:TypeId)(v:Value)(w:World):(Instr.typeAssert (.iface t v) xT 176 true).run Tryz.prog w=.ok (.tuple #[.agg #[.string ⟨#[]⟩,.int .i64 0,.int .i64 0],.bool false]) w:=by
 simp[Instr.typeAssert,go_sem,Result.andThen,run_underlying Tryz.underlying176,h]
theorem e7l(t:TypeId)(h:t≠178)(xT:TypeId)(v:Value)(w:World):(Instr.typeAssert (.iface t v) xT 178 true).run Tryz.prog w=.ok (.tuple #[.agg #[.string ⟨#[]⟩,.int .i64 0,.int .i64 0,.int .i64 0,.int .i64 0],.bool false]) w:=by
 simp[Instr.typeAssert,go_sem,Result.andThen,run_underlying Tryz.underlying178,h]
theorem e3K(t:TypeId)(h:t≠180)(xT:TypeId)(v:Value)(w:World):(Instr.typeAssert (.iface t v) xT 180 true).run Tryz.prog w=.ok (.tuple #[.agg #[.int .i64 0,.int .i64 0,.bool false,.bool false,.bool false,.bool false,.bool false,.bool false,.bool false,.int .i64 0,.int .i64 0,.int .i64 0,.int .i64 0,.int .i64 0],.bool false]) w:=by
 simp[Instr.typeAssert,go_sem,Result.andThen,run_underlying Tryz.underlying180,h]
theorem f3K(t:TypeId)(h:t≠182)(xT:TypeId)(v:Value)(w:World):(Instr.typeAssert (.iface t v) xT 182 true).run Tryz.prog w=.ok (.tuple #[.agg #[.int .i64 0],.bool false]) w:=by
 simp[Instr.typeAssert,go_sem,Result.andThen,run_underlying Tryz.underlying182,h]
theorem b8L{s:St}(h:DSt w d s r col)(id:Int)(hid:0<=id/\id<=9999999):
  Calls Tryz.prog 97 #[.pointer (some ⟨d,0,none⟩),.agg #[.int .i64 id]] w fun e w'=>∃ v,e=.returned v/\a0l w d col (Desk.a0g s (.cancel id)) v w':=by
 obtain⟨hX,hXQ,hXb,_⟩:=e2v w (.cells #[.int .i64 id] 168);have xi:=d0h hXb 0 rfl;have HH:=a0b h;have HX:=a0b (And.intro hX hXQ);clear h hX hXQ hXb
 go_enter Tryz.func97,Tryz.ntmps97
 go_upto_region 1 with fail
 change Code.wp _ _ _ _ ((w.alloc (.cells #[.int .i64 id] 168)).alloc a0f);generalize (w.alloc (.cells #[.int .i64 id] 168)).alloc a0f=X at HX xi ⊢;have hx:=HH.out.dk.later HX.out.1;obtain⟨m,f,a1,a2,a3,a4⟩:=hx.me;have kk:=a9g (n:=id) (by omega) (by omega);have hlook:=(a3.block (w':=X.drew) rfl).look b3h Tryz.underlying138 (c3P X.drew) kk;rw[a4 id] at hlook;have QX:Hid (Q7 X.drew (w.heap.size+1)):=Q7.of HX.out.2;have BX:Hid (Below w.heap.size w X.drew):=HX.out.1.drew
 cases he:a6U r.eg id with
 |none =>
  rw[he] at hlook;have hlook':(Instr.lookup 138 (.map (some m)) (.int .i64 id) false).run Tryz.prog X.drew=.ok (.pointer none) X.drew:=hlook;have HD:Hid (Desk.a0g s (.cancel id)=(s,Desk.Rep.error 9)):=by have e:=a7K HH.out.of he;simp only[Hid,Desk.a0g,e]
  clear hlook a3 a4 he hx HX
  go_big_region
  clear hlook' xi a1
  go_wp2_with fail
  refine (a0D 9 X.drew).mono ?_;rintro e w1 ⟨rfl,hb⟩;have HF:=a0b (HH.out.refuse BX.out QX.out hb HD.out);obtain⟨q0,q1,q2,q3,q4,q5,q6,fq⟩:=HF.out.1;simp only[a0s]
  go_wp2_with fail
  exact d0O Tryz.results97 ⟨q0,q1,q2,q3,q4,q5,q6,fq⟩ ⟨_,rfl,HF.out.2⟩
 |some b =>
  rw[he] at hlook;obtain⟨g,hg,rfl,rfl⟩:=b2b he;have hlook':(Instr.lookup 138 (.map (some m)) (.int .i64 g.e.id) false).run Tryz.prog X.drew=.ok (.pointer (some ⟨g.eb,0,none⟩)) X.drew:=hlook;have hf:=a5I HH.out.of hx.ni hg;have ck:X.drew.cell? ⟨g.eb,1,none⟩=some (.int .i64 g.e.kind):=(hx.en g hg).1.k;have hd:=hx.later (a0q X);have HD:Hid (Desk.a0g s (.cancel g.e.id)=({ s with es:=kept g.e.id s.es },Desk.Rep.num 0)):=by simp only[Hid,Desk.a0g,hf]
  have hQ:w.heap.size+1<X.drew.heap.size:=World.block_lt_of_cell? _ _ QX.out.q0;have hcQ:col (w.heap.size+1)=none:=HH.out.dk.none (by omega)
  by_cases hk:g.e.kind=1
  ·have hkb:(g.e.kind != 1)=false:=by simpa using hk
   have LV:=a0b (a9f hd HH.out.of HH.out.wl HH.out.mid hg (HH.out.hl.goes1 hx.ni hg hk));have ST:Hid (Step anyS w.heap.size col col w X.drew):=Step.below BX.out;have Q2:=QX;have hQ2:=hQ;have hcQ2:=hcQ;clear hlook a3 a4 he hx HX hf hk hd hg
   go_big_region
   clear hlook' xi a1
   go_wp2_with fail
   refine LV.out.mono ?_;rintro e w2 ⟨rfl,r2,col2,k5,k6,k7,k8,k9⟩;have hq:=k9.blockN hQ2 hcQ2 hQ2
   have HF:Hid (a0l w d col (Desk.a0g s (.cancel g.e.id)) (a0s 0 0 0 (.slice none 0 0) (.slice none 0 0) (.slice none 0 0) (.slice none 0 0)) (a2w w2 (w.heap.size+1) (.int .i64 0) (.int .i64 0) (.int .i64 0) (.slice none 0 0) (.slice none 0 0) (.slice none 0 0) (.slice none 0 0))):=by
    rw[HD.out];exact a5O k5 k6 k7 k8 (ST.out.trans (k9.any ST.out.size)) (by omega) (k9.keepN hcQ2 hQ2) 0 0 _ _ _ _ _ _ _
   clear k5 k6 k7 k8 k9 LV;obtain⟨q0,q1,q2,q3,q4,q5,q6,fq⟩:=Q2.out.later hq
   go_wp2_with fail
   exact d0O Tryz.results97 ⟨q0,q1,q2,q3,q4,q5,q6,fq⟩ ⟨_,rfl,HF.out⟩
  ·have hkb:(g.e.kind != 1)=true:=by simpa using hk
   have hcnt:r.hl.length<=1000:=by
    have h1:=HH.out.hl.len;have h2:r.eg.length=s.es.length:=by rw[<- HH.out.of.es];simp
    have h3:=a1x HH.out.mid;omega
   have DR:=a0b (fun wx (k:Below X.drew.heap.size X.drew wx)=>b3L (hd.later k) HH.out.hl.1 hcnt g.e.a0Z g.e.id ⟨_,HH.out.hl.has hg hk,rfl,rfl⟩);have c0:X.drew.cell? ⟨g.eb,0,none⟩=some (.int .i64 g.e.id):=(hx.en g hg).1.en.c0;have c5:X.drew.cell? ⟨g.eb,5,none⟩=some (.int .i64 g.e.a0Z):=(hx.en g hg).1.u;have HG:=a0b (And.intro hg (And.intro hk hx.ni));clear hlook a3 a4 he hx HX hf hk hd hg hcnt
   go_big_region
   clear hlook' xi a1
   go_upto_region 5 with fail
   generalize hW:X.drew=W at *
   go_region_held3 (fun w'=>w'.cell? ⟨g.eb,0,none⟩=some (.int .i64 g.e.id)/\w'.cell? ⟨g.eb,5,none⟩=some (.int .i64 g.e.a0Z))
    (first
     |exact⟨c0,c5⟩
     |exact⟨((k5.en g HG.out.1).1).en.c0,((k5.en g HG.out.1).1).u⟩)
    (first
     |(go_at_call 149;refine (DR.out _ (a0q W)).mono ?_;rintro e w4 ⟨rfl,x,l',col1,k1,k2,k3,k4,k5,k6⟩))
   have LV:=a0b (a9f k5 (s:=s) ⟨HH.out.of.now,HH.out.of.given,HH.out.of.ts,HH.out.of.es,HH.out.of.th,HH.out.of.tb⟩ HH.out.wl HH.out.mid HG.out.1 (HH.out.hl.goes HG.out.2.2 HG.out.1 HG.out.2.1 k2 k3 k4));have ST:Hid (Step anyS w.heap.size col col1 w w4):=(Step.below BX.out).trans ((Step.below (a0q W)).trans (k6.any BX.out.size));have Q2:Hid (Q7 w4 (w.heap.size+1)):=QX.out.later (k6.blockN (b:=w.heap.size+1) hQ hcQ hQ);have hQ2:w.heap.size+1<w4.heap.size:=World.block_lt_of_cell? _ _ Q2.out.q0;have hcQ2:col1 (w.heap.size+1)=none:=k6.keepN hcQ hQ;clear k1 k2 k3 k4 k5 k6 DR c0 c5 ck hW
   go_wp2_with fail
   refine LV.out.mono ?_;rintro e w2 ⟨rfl,r2,col2,k5,k6,k7,k8,k9⟩;have hq:=k9.blockN hQ2 hcQ2 hQ2
   have HF:Hid (a0l w d col (Desk.a0g s (.cancel g.e.id)) (a0s 0 0 0 (.slice none 0 0) (.slice none 0 0) (.slice none 0 0) (.slice none 0 0)) (a2w w2 (w.heap.size+1) (.int .i64 0) (.int .i64 0) (.int .i64 0) (.slice none 0 0) (.slice none 0 0) (.slice none 0 0) (.slice none 0 0))):=by
    rw[HD.out];exact a5O k5 k6 k7 k8 (ST.out.trans (k9.any ST.out.size)) (by omega) (k9.keepN hcQ2 hQ2) 0 0 _ _ _ _ _ _ _
   clear k5 k6 k7 k8 k9 LV;obtain⟨q0,q1,q2,q3,q4,q5,q6,fq⟩:=Q2.out.later hq
   go_wp2_with fail
   exact d0O Tryz.results97 ⟨q0,q1,q2,q3,q4,q5,q6,fq⟩ ⟨_,rfl,HF.out⟩
end Go.Proofs.YtfigmlfdnickmaaGreatDoor
