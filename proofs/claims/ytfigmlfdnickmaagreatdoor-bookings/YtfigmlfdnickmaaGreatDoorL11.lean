import Derived.Test.YtfigmlfdnickmaaGreatDoorL10
import Derived.Deep.RegionHeld3
import Derived.Deep.AppendLies
import Derived.Deep.RegionHeld
set_option maxRecDepth 100000
set_option maxHeartbeats 8000000
variable{wr:Bool}{s:ByteArray}{B:ByteArray->Bool}{ws:List ByteArray}{acc:List Int}{l:List UInt8}{A R b k n nx o:Nat}{v:Go.Value}{w w':Go.World}
namespace Go.Proofs.YtfigmlfdnickmaaGreatDoor
open Go.RowKit
theorem b2L(s:ByteArray)(a b:Nat)(h:s.size<=160):(s.extract a b).size<=160:=by
 have:(s.extract a b).size=min b s.size-a:=ByteArray.size_extract ..;omega
theorem b2K(s:ByteArray)(a b n:Nat)(h:min b s.size-a=n):(s.extract a b).size=n:=(ByteArray.size_extract ..).trans h
theorem b2X(t:ByteArray)(n:Nat)(h:t.size=n)(h1:1<=n)(h7:n<=7):b4g t n n=if Txt.isNum t.data.toList then Txt.a2f t.data.toList else -1:=by
 have hl:=Txt.a1d t
 cases hd:Txt.a6j t.data.toList
 ·rw[b6A hd,Txt.b3q hd];rfl
 ·have hn:Txt.isNum t.data.toList=true:=Txt.b0J (by omega) (by omega) hd;rw[b6y (by omega) (by omega) hd,hn];simp[Txt.a2f,hn]
theorem d5I(t:ByteArray):b4g t 1 7=if Txt.isNum t.data.toList then Txt.a2f t.data.toList else -1:=by
 have hl:=Txt.a1d t
 cases hd:Txt.a6j t.data.toList
 ·rw[b6A hd,Txt.b3q hd];rfl
 ·by_cases h:1<=t.size/\t.size<=7
  ·have hn:Txt.isNum t.data.toList=true:=Txt.b0J (by omega) (by omega) hd;rw[b6y h.1 h.2 hd,hn];simp[Txt.a2f,hn]
  ·rw[b6z h,Txt.b3o (by omega)];rfl
def c5N(s:ByteArray):Int:=if Txt.a3a s then Txt.a6J s else -1
def g2R(s:ByteArray):Int:=if Txt.a5j s=true/\0<=Txt.a2o s/\Txt.a2o s<=728 then Txt.a2o s else -1
theorem b1d(h:Txt.a3a s=false):c5N s=-1:=by simp[c5N,h]
theorem d4C(h:Txt.a5j s=false):g2R s=-1:=by simp[g2R,h]
theorem c5y(s:ByteArray)(w:World)(hm:s.size<=160):
  Calls Tryz.prog 188 #[.string s] w fun e w'=>e=.returned (.int .i64 (c5N s))/\Below w.heap.size w w':=by
 by_cases hs:s.size=5
 ·have h5:((s.size:Int) != 5)=false:=b5z (by omega);have h2n:2<s.size:=by omega
  have h6:(2:Int)<(s.size:Int):=by omega
  have h7:(3:Int)<=(s.size:Int):=by omega
  by_cases hb:Txt.a0V s 2=58
  ·have hc:(((s[2]'h2n).toNat:Int) != 58)=false:=b5z (by rw[<- Txt.a2W];exact hb);have b1:=Txt.a2B (Txt.part s 0 2);have b2:=Txt.a2B (Txt.part s 3 5);have HF:=hide (Txt.b6G hs hb);have e1:b4g (s.extract 0 2) 2 2=if Txt.isNum (Txt.part s 0 2) then Txt.a2f (Txt.part s 0 2) else -1:=b2X _ 2 (b2K _ _ _ _ (by omega)) (by omega) (by omega)
   have e2:b4g (s.extract 3 s.size) 2 2=if Txt.isNum (Txt.part s 3 5) then Txt.a2f (Txt.part s 3 5) else -1:=by
    rw[hs];exact b2X _ 2 (b2K _ _ _ _ (by omega)) (by omega) (by omega)
   have hx:∃ x y:Int,b4g (s.extract 0 2) 2 2=x/\b4g (s.extract 3 s.size) 2 2=y:=⟨_,_,rfl,rfl⟩;obtain⟨x,y,hx,hy⟩:=hx;have bx:-1<=x/\x<=9999999:=by rw[<- hx,e1];split <;> omega
   have by':-1<=y/\y<=9999999:=by rw[<- hy,e2];split <;> omega
   have HR:Hid (c5N s=if x<0\/23<x\/y<0\/59<y then -1 else 60*x+y):=by
    show c5N s=_;rw[<- hx,<- hy,e1,e2,c5N,Txt.a6J,a0d HF]
    cases Txt.isNum (Txt.part s 0 2)
    ·simp
    ·cases Txt.isNum (Txt.part s 3 5)
     ·simp
     ·simp only[Bool.true_and,if_true]
      by_cases g1:Txt.a2f (Txt.part s 0 2)<=23
      ·by_cases g2:Txt.a2f (Txt.part s 3 5)<=59
       ·simp only[g1,g2,decide_true,Bool.and_self,if_true];rw[if_neg (by omega)];omega
       ·simp only[g1,g2,decide_true,decide_false,Bool.and_false,Bool.false_eq_true,if_false];rw[if_pos (by omega)]
      ·simp only[g1,decide_false,Bool.false_and,Bool.false_eq_true,if_false];rw[if_pos (by omega)]
   have HX:=hide hx;have HY:=hide hy;clear e1 e2 hx hy hs hb b1 b2 HF;have hcase:x<0\/(¬ x<0/\23<x)\/(¬ x<0/\¬ 23<x/\y<0)\/(¬ x<0/\¬ 23<x/\¬ y<0/\59<y)\/(¬ x<0/\¬ 23<x/\¬ y<0/\¬ 59<y):=by omega
   rcases hcase with g|⟨g,g'⟩|⟨g,g',g''⟩|⟨g,g',g'',g3⟩|⟨g,g',g'',g3⟩
   all_goals
    go_enter Tryz.func188,Tryz.ntmps188
    go_wp2_with fail
    refine (b0E (s.extract 0 2) 2 2 _ (b2L _ _ _ hm) (by omega) (by omega)).mono ?_;rintro e w1 ⟨rfl,hb1⟩;rw[a0d HX]
    go_wp2_with fail
    refine (b0E (s.extract 3 s.size) 2 2 _ (b2L _ _ _ hm) (by omega) (by omega)).mono ?_;rintro e w2 ⟨rfl,hb2⟩;rw[a0d HY];have hbb:=hb1.trans (hb2.mono hb1.size);go_wp2;go_ret;refine⟨a3w ?_,hbb⟩;rw[HR.out]
    first|rw[if_pos (by omega)]|rw[if_neg (by omega)]
  ·have hc:(((s[2]'h2n).toNat:Int) != 58)=true:=b5y (by rw[<- Txt.a2W];exact hb);have HF:=hide (b1d (Txt.a5D (s:=s) (by omega)));clear hs hb
   go_enter Tryz.func188,Tryz.ntmps188
   go_wp2;go_ret;exact⟨a3w (by rw[a0d HF]),Below.refl _ _⟩
 ·have h5:((s.size:Int) != 5)=true:=b5y (by omega);have HF:=hide (b1d (Txt.a5D (s:=s) (by omega)));clear hs
  go_enter Tryz.func188,Tryz.ntmps188
  go_wp2;go_ret;exact⟨a3w (by rw[a0d HF]),Below.refl _ _⟩
theorem d4B(s:ByteArray)(w:World)(hm:s.size<=160):
  Calls Tryz.prog 187 #[.string s] w fun e w'=>e=.returned (.int .i64 (g2R s))/\Below w.heap.size w w':=by
 by_cases hs:s.size=10
 ·have h5:((s.size:Int) != 10)=false:=b5z (by omega);have h4n:4<s.size:=by omega
  have h7n:7<s.size:=by omega
  have h4:(4:Int)<(s.size:Int):=by omega
  have h7:(7:Int)<(s.size:Int):=by omega
  have h8:(8:Int)<=(s.size:Int):=by omega
  by_cases hb:Txt.a0V s 4=45
  ·have hc:(((s[4]'h4n).toNat:Int) != 45)=false:=b5z (by rw[<- Txt.a2W];exact hb)
   by_cases hd:Txt.a0V s 7=45
   ·have he:(((s[7]'h7n).toNat:Int) != 45)=false:=b5z (by rw[<- Txt.a2W];exact hd);have HF:=hide (Txt.c1h hs hb hd);have e1:b4g (s.extract 0 4) 4 4=if Txt.isNum (Txt.part s 0 4) then Txt.a2f (Txt.part s 0 4) else -1:=b2X _ 4 (b2K _ _ _ _ (by omega)) (by omega) (by omega)
    have e2:b4g (s.extract 5 7) 2 2=if Txt.isNum (Txt.part s 5 7) then Txt.a2f (Txt.part s 5 7) else -1:=b2X _ 2 (b2K _ _ _ _ (by omega)) (by omega) (by omega)
    have e3:b4g (s.extract 8 s.size) 2 2=if Txt.isNum (Txt.part s 8 10) then Txt.a2f (Txt.part s 8 10) else -1:=by
     rw[hs];exact b2X _ 2 (b2K _ _ _ _ (by omega)) (by omega) (by omega)
    have hx:∃ x y z:Int,b4g (s.extract 0 4) 4 4=x/\b4g (s.extract 5 7) 2 2=y/\b4g (s.extract 8 s.size) 2 2=z:=⟨_,_,_,rfl,rfl,rfl⟩;obtain⟨x,y,z,hx,hy,hz⟩:=hx
    have HR:Hid (g2R s=if Cal.ok x y z=true/\0<=Cal.num x y z/\Cal.num x y z<=728 then Cal.num x y z else -1):=by
     show g2R s=_;rw[<- hx,<- hy,<- hz,e1,e2,e3,g2R,Txt.a2o,a0d HF]
     cases Txt.isNum (Txt.part s 0 4)
     ·simp[a5A (y:=-1) (m:=_) (d:=_) (by omega)]
     ·cases Txt.isNum (Txt.part s 5 7)
      ·simp[a5A (y:=_) (m:=-1) (d:=_) (by omega)]
      ·cases Txt.isNum (Txt.part s 8 10)
       ·simp[a5A (y:=_) (m:=_) (d:=-1) (by omega)]
       ·simp only[Bool.true_and,if_true]
        cases Cal.ok (Txt.a2f (Txt.part s 0 4)) (Txt.a2f (Txt.part s 5 7)) (Txt.a2f (Txt.part s 8 10)) <;> simp
    have HX:=hide hx;have HY:=hide hy;have HZ:=hide hz;clear e1 e2 e3 hx hy hz hs hb hd HF
    cases ho:Cal.ok x y z
    ·go_enter Tryz.func187,Tryz.ntmps187
     go_wp2_with fail
     refine (b0E (s.extract 0 4) 4 4 _ (b2L _ _ _ hm) (by omega) (by omega)).mono ?_;rintro e w1 ⟨rfl,hb1⟩;rw[a0d HX]
     go_wp2_with fail
     refine (b0E (s.extract 5 7) 2 2 _ (b2L _ _ _ hm) (by omega) (by omega)).mono ?_;rintro e w2 ⟨rfl,hb2⟩;rw[a0d HY]
     go_wp2_with fail
     refine (b0E (s.extract 8 s.size) 2 2 _ (b2L _ _ _ hm) (by omega) (by omega)).mono ?_;rintro e w3 ⟨rfl,hb3⟩;rw[a0d HZ];have hbb:=(hb1.trans (hb2.mono hb1.size)).trans (hb3.mono (Nat.le_trans hb1.size hb2.size))
     go_wp2_with fail
     refine (f3X _ _ _ _ ho).mono ?_;rintro e w4 ⟨rfl,rfl⟩;go_wp2;go_ret;exact⟨a3w (by rw[HR.out,ho];simp),hbb⟩
    ·have hcase:Cal.num x y z<0\/(¬ Cal.num x y z<0/\728<Cal.num x y z)\/(¬ Cal.num x y z<0/\¬ 728<Cal.num x y z):=by omega
     rcases hcase with g|⟨g,g'⟩|⟨g,g'⟩
     all_goals
      go_enter Tryz.func187,Tryz.ntmps187
      go_wp2_with fail
      refine (b0E (s.extract 0 4) 4 4 _ (b2L _ _ _ hm) (by omega) (by omega)).mono ?_;rintro e w1 ⟨rfl,hb1⟩;rw[a0d HX]
      go_wp2_with fail
      refine (b0E (s.extract 5 7) 2 2 _ (b2L _ _ _ hm) (by omega) (by omega)).mono ?_;rintro e w2 ⟨rfl,hb2⟩;rw[a0d HY]
      go_wp2_with fail
      refine (b0E (s.extract 8 s.size) 2 2 _ (b2L _ _ _ hm) (by omega) (by omega)).mono ?_;rintro e w3 ⟨rfl,hb3⟩;rw[a0d HZ];have hbb:=(hb1.trans (hb2.mono hb1.size)).trans (hb3.mono (Nat.le_trans hb1.size hb2.size))
      go_wp2_with fail
      refine (f1m _ _ _ _ ho).mono ?_;rintro e w4 ⟨rfl,rfl⟩;go_wp2;go_ret;refine⟨a3w ?_,hbb⟩;rw[HR.out]
      first|rw[if_neg (by omega)]|rw[if_pos ⟨ho,by omega,by omega⟩]
   ·have he:(((s[7]'h7n).toNat:Int) != 45)=true:=b5y (by rw[<- Txt.a2W];exact hd);have HF:=hide (d4C (Txt.a6l (s:=s) (by omega)));clear hs hb hd
    go_enter Tryz.func187,Tryz.ntmps187
    go_wp2;go_ret;exact⟨a3w (by rw[a0d HF]),Below.refl _ _⟩
  ·have hc:(((s[4]'h4n).toNat:Int) != 45)=true:=b5y (by rw[<- Txt.a2W];exact hb);have HF:=hide (d4C (Txt.a6l (s:=s) (by omega)));clear hs hb
   go_enter Tryz.func187,Tryz.ntmps187
   go_wp2;go_ret;exact⟨a3w (by rw[a0d HF]),Below.refl _ _⟩
 ·have h5:((s.size:Int) != 10)=true:=b5y (by omega);have HF:=hide (d4C (Txt.a6l (s:=s) (by omega)));clear hs
  go_enter Tryz.func187,Tryz.ntmps187
  go_wp2;go_ret;exact⟨a3w (by rw[a0d HF]),Below.refl _ _⟩
def b0a(s:ByteArray):Int:=if Txt.a2y s then Txt.a2o s else 0
def a8J(s:ByteArray):Int:=if Txt.isNum s.data.toList then Txt.a2f s.data.toList else Txt.dmV s
def a0n(s:ByteArray):Bool:=(Txt.isNum s.data.toList || Txt.dmB s) && decide (0<=a8J s/\a8J s<=1048320)
def a1J(s:ByteArray):Int:=if a0n s then a8J s else 0
def g2T(s:ByteArray):Int:=if a0n s then a8J s else -1
theorem c1o(s:ByteArray)(h:s.size<=160):(Txt.b1a s).size<=160:=by
 rw[<- Txt.a1d];unfold Txt.b1a Lib.cut;have:=Txt.a1d s
 split <;> simp <;> omega
theorem c1n(s:ByteArray)(h:s.size<=160):(Txt.b0Z s).size<=160:=by
 rw[<- Txt.a1d];unfold Txt.b0Z Lib.cut;have:=Txt.a1d s
 split <;> simp <;> omega
theorem a1u(s:ByteArray)(w:World)(he:Env w)(hm:s.size<=160):
  Calls Tryz.prog 196 #[.string s] w fun e w'=>e=.returned (.tuple #[.int .i64 (Txt.dmV s),.bool (Txt.dmB s)])/\∃ n,w'=w.drewN n:=by
 obtain⟨m,hmx⟩:=he.c5L;have HE:=hide he;have HC:=hide (Txt.c6H s);have b1:=Txt.c3w (Txt.b1a s);have b2:=Txt.c4W (Txt.b0Z s);have hA:(Txt.b1a s).size<=maxLen:=by have:=c1o s hm;unfold maxLen;omega
 have hB:(Txt.b0Z s).size<=maxLen:=by have:=c1n s hm;unfold maxLen;omega
 have HA:=hide hA;have HB:=hide hB;clear he hA hB
 cases hf:Txt.c1N s
 ·have HD:Hid (Txt.dmB s=false):=by show Txt.dmB s=false;rw[<- (a0d HC).1,hf];rfl
  go_enter Tryz.func196,Tryz.ntmps196
  go_wp2_with fail
  refine (Tryz.strings_Cut s ⟨#[47]⟩ m w (by omega) hmx).mono ?_;rintro e w1 ⟨rfl,n,rfl⟩;rw[show (Lib.cut s.data.toList (ByteArray.mk #[47]).data.toList).snd.snd=Txt.c1N s from rfl];go_wp2;go_ret2;exact⟨a0A (by simp[Txt.dmV,HD.out]) (by rw[HD.out]),_,rfl⟩
 ·cases hd:Txt.a5j (Txt.b1a s)
  ·have HD:Hid (Txt.dmB s=false):=by show Txt.dmB s=false;rw[<- (a0d HC).1,hf,hd];rfl
   go_enter Tryz.func196,Tryz.ntmps196
   go_wp2_with fail
   refine (Tryz.strings_Cut s ⟨#[47]⟩ m w (by omega) hmx).mono ?_;rintro e w1 ⟨rfl,n,rfl⟩;rw[show (Lib.cut s.data.toList (ByteArray.mk #[47]).data.toList).snd.snd=Txt.c1N s from rfl,show (ByteArray.mk (Lib.cut s.data.toList (ByteArray.mk #[47]).data.toList).fst.toArray)=Txt.b1a s from rfl,show (ByteArray.mk (Lib.cut s.data.toList (ByteArray.mk #[47]).data.toList).snd.fst.toArray)=Txt.b0Z s from rfl]
   go_wp2_with fail
   refine (a1U (Txt.b1a s) _ ((a0d HE).drewN n).tab (a0d HA)).mono ?_;rintro e w1 ⟨rfl,rfl⟩
   go_wp2_with fail
   refine (a2m (Txt.b0Z s) _ (a0d HB)).mono ?_;rintro e w1 ⟨rfl,rfl⟩;go_wp2;go_ret2;exact⟨a0A (by simp[Txt.dmV,HD.out]) (by rw[HD.out]),_,rfl⟩
  ·cases hn:Txt.a3a (Txt.b0Z s)
   ·have HD:Hid (Txt.dmB s=false):=by show Txt.dmB s=false;rw[<- (a0d HC).1,hf,hd,hn];rfl
    go_enter Tryz.func196,Tryz.ntmps196
    go_wp2_with fail
    refine (Tryz.strings_Cut s ⟨#[47]⟩ m w (by omega) hmx).mono ?_;rintro e w1 ⟨rfl,n,rfl⟩;rw[show (Lib.cut s.data.toList (ByteArray.mk #[47]).data.toList).snd.snd=Txt.c1N s from rfl,show (ByteArray.mk (Lib.cut s.data.toList (ByteArray.mk #[47]).data.toList).fst.toArray)=Txt.b1a s from rfl,show (ByteArray.mk (Lib.cut s.data.toList (ByteArray.mk #[47]).data.toList).snd.fst.toArray)=Txt.b0Z s from rfl]
    go_wp2_with fail
    refine (a1U (Txt.b1a s) _ ((a0d HE).drewN n).tab (a0d HA)).mono ?_;rintro e w1 ⟨rfl,rfl⟩
    go_wp2_with fail
    refine (a2m (Txt.b0Z s) _ (a0d HB)).mono ?_;rintro e w1 ⟨rfl,rfl⟩;go_wp2;go_ret2;exact⟨a0A (by simp[Txt.dmV,HD.out]) (by rw[HD.out]),_,rfl⟩
   ·have HD:Hid (Txt.dmB s=true):=by show Txt.dmB s=true;rw[<- (a0d HC).1,hf,hd,hn];rfl
    have HV:=hide ((a0d HC).2 HD.out)
    go_enter Tryz.func196,Tryz.ntmps196
    go_wp2_with fail
    refine (Tryz.strings_Cut s ⟨#[47]⟩ m w (by omega) hmx).mono ?_;rintro e w1 ⟨rfl,n,rfl⟩;rw[show (Lib.cut s.data.toList (ByteArray.mk #[47]).data.toList).snd.snd=Txt.c1N s from rfl,show (ByteArray.mk (Lib.cut s.data.toList (ByteArray.mk #[47]).data.toList).fst.toArray)=Txt.b1a s from rfl,show (ByteArray.mk (Lib.cut s.data.toList (ByteArray.mk #[47]).data.toList).snd.fst.toArray)=Txt.b0Z s from rfl]
    go_wp2_with fail
    refine (a1U (Txt.b1a s) _ ((a0d HE).drewN n).tab (a0d HA)).mono ?_;rintro e w1 ⟨rfl,rfl⟩
    go_wp2_with fail
    refine (a2m (Txt.b0Z s) _ (a0d HB)).mono ?_;rintro e w1 ⟨rfl,rfl⟩;go_wp2;go_ret2;exact⟨a0A (a0d HV) (by rw[HD.out]),_,rfl⟩
theorem b9f(h:Txt.isNum s.data.toList=true):a0n s=decide (Txt.a2f s.data.toList<=1048320)/\a8J s=Txt.a2f s.data.toList:=by
 have b:=Txt.a2B s.data.toList;have e:a8J s=Txt.a2f s.data.toList:=by simp[a8J,h]
 refine⟨?_,e⟩;unfold a0n;rw[e,h,Bool.eq_iff_iff];simp;omega
theorem c1X(h:Txt.isNum s.data.toList=false):a0n s=(Txt.dmB s && decide (0<=Txt.dmV s/\Txt.dmV s<=1048320))/\a8J s=Txt.dmV s:=by
 have e:a8J s=Txt.dmV s:=by simp[a8J,h]
 exact⟨by unfold a0n;rw[e,h];rfl,e⟩
theorem a7Z(s:ByteArray)(w:World)(he:Env w)(hm:s.size<=160):
  Calls Tryz.prog 140 #[.string s] w fun e w'=>e=.returned (.tuple #[.int .i64 (a1J s),.bool (a0n s)])/\∃ n,w'=w.drewN n:=by
 have HE:=hide he;have hm':s.size<=maxLen:=by unfold maxLen;omega
 clear he
 cases hn:Txt.isNum s.data.toList
 ·have HT:=hide (c1X hn)
  cases hd:Txt.dmB s
  ·have HB:Hid (a0n s=false):=by show a0n s=false;rw[(a0d HT).1,hd];rfl
   go_enter Tryz.func140,Tryz.ntmps140
   go_wp2_with fail
   refine (a0m s w hm').mono ?_;rintro e w' ⟨rfl,rfl⟩
   go_wp2_with fail
   refine (a1u s _ (a0d HE) hm).mono ?_;rintro e w1 ⟨rfl,n,rfl⟩;go_wp2;go_ret2;exact⟨a0A (by simp[a1J,HB.out]) (by rw[HB.out]),_,rfl⟩
  ·have hcase:Txt.dmV s<0\/(¬ Txt.dmV s<0/\1048320<Txt.dmV s)\/(¬ Txt.dmV s<0/\¬ 1048320<Txt.dmV s):=by omega
   rcases hcase with g|⟨g,g'⟩|⟨g,g'⟩
   ·have HB:Hid (a0n s=false):=by show a0n s=false;rw[(a0d HT).1,hd,decide_eq_false (by omega)];rfl
    go_enter Tryz.func140,Tryz.ntmps140
    go_wp2_with fail
    refine (a0m s w hm').mono ?_;rintro e w' ⟨rfl,rfl⟩
    go_wp2_with fail
    refine (a1u s _ (a0d HE) hm).mono ?_;rintro e w1 ⟨rfl,n,rfl⟩;go_wp2;go_ret2;exact⟨a0A (by simp[a1J,HB.out]) (by rw[HB.out]),_,rfl⟩
   ·have HB:Hid (a0n s=false):=by show a0n s=false;rw[(a0d HT).1,hd,decide_eq_false (by omega)];rfl
    go_enter Tryz.func140,Tryz.ntmps140
    go_wp2_with fail
    refine (a0m s w hm').mono ?_;rintro e w' ⟨rfl,rfl⟩
    go_wp2_with fail
    refine (a1u s _ (a0d HE) hm).mono ?_;rintro e w1 ⟨rfl,n,rfl⟩;go_wp2;go_ret2;exact⟨a0A (by simp[a1J,HB.out]) (by rw[HB.out]),_,rfl⟩
   ·have HB:Hid (a0n s=true):=by show a0n s=true;rw[(a0d HT).1,hd,decide_eq_true (by omega)];rfl
    have HV:=hide (a0d HT).2
    go_enter Tryz.func140,Tryz.ntmps140
    go_wp2_with fail
    refine (a0m s w hm').mono ?_;rintro e w' ⟨rfl,rfl⟩
    go_wp2_with fail
    refine (a1u s _ (a0d HE) hm).mono ?_;rintro e w1 ⟨rfl,n,rfl⟩;go_wp2;go_ret2;exact⟨a0A (by simp[a1J,HB.out,a0d HV]) (by rw[HB.out]),_,rfl⟩
 ·have HT:=hide (b9f hn);have b:=Txt.a2B s.data.toList
  by_cases g:1048320<Txt.a2f s.data.toList
  ·have HB:Hid (a0n s=false):=by show a0n s=false;rw[(a0d HT).1,decide_eq_false (by omega)]
   go_enter Tryz.func140,Tryz.ntmps140
   go_wp2_with fail
   refine (a0m s w hm').mono ?_;rintro e w' ⟨rfl,rfl⟩;go_wp2;go_ret2;exact⟨a0A (by simp[a1J,HB.out]) (by rw[HB.out]),0,rfl⟩
  ·have HB:Hid (a0n s=true):=by show a0n s=true;rw[(a0d HT).1,decide_eq_true (by omega)]
   have HV:=hide (a0d HT).2
   go_enter Tryz.func140,Tryz.ntmps140
   go_wp2_with fail
   refine (a0m s w hm').mono ?_;rintro e w' ⟨rfl,rfl⟩;go_wp2;go_ret2;exact⟨a0A (by simp[a1J,HB.out,a0d HV]) (by rw[HB.out]),0,rfl⟩
theorem g2f(h:s.size=16):Txt.isNum s.data.toList=false:=Txt.b3o (by rw[Txt.a1d];omega)
theorem g1h(hs:s.size=16)(hb:Txt.a0V s 10=47):g2T s=if g2R (s.extract 0 10)<0\/c5N (s.extract 11 16)<0\/1048320<1440*g2R (s.extract 0 10)+c5N (s.extract 11 16) then -1 else 1440*g2R (s.extract 0 10)+c5N (s.extract 11 16):=by
 have ⟨e1,e2⟩:=c1X (g2f hs);have bm:=Txt.c4W (s.extract 11 16);have bd:=Txt.c3w (s.extract 0 10)
 have hdm:Txt.dmB s=(Txt.a5j (s.extract 0 10) && Txt.a3a (s.extract 11 16)):=by
  rw[Bool.eq_iff_iff];simp[Txt.dmB,hs,hb]
 unfold g2T;rw[e1,e2,Txt.dmV,hdm]
 cases hd:Txt.a5j (s.extract 0 10)
 ·rw[d4C hd];simp
 ·cases hn:Txt.a3a (s.extract 11 16)
  ·rw[b1d hn];simp
  ·have ec:c5N (s.extract 11 16)=Txt.a6J (s.extract 11 16):=by simp[c5N,hn]
   simp only[Bool.and_self,Bool.true_and,if_true,ec,decide_eq_true_eq]
   by_cases g:0<=Txt.a2o (s.extract 0 10)/\Txt.a2o (s.extract 0 10)<=728
   ·have ed:g2R (s.extract 0 10)=Txt.a2o (s.extract 0 10):=by simp[g2R,hd,g]
    rw[ed]
    by_cases q:Txt.a2o (s.extract 0 10)*1440+Txt.a6J (s.extract 11 16)<=1048320
    ·rw[if_pos (by omega),if_neg (by omega)];omega
    ·rw[if_neg (by omega),if_pos (by omega)]
   ·have ed:g2R (s.extract 0 10)=-1:=by unfold g2R;rw[if_neg (fun h=>g h.2)]
    rw[ed,if_neg (by omega),if_pos (by omega)]
theorem e7S(h:¬ (s.size=16/\Txt.a0V s 10=47)):g2T s=if 1048320<b4g s 1 7 then -1 else b4g s 1 7:=by
 have hdm:Txt.dmB s=false:=by
  cases hd:Txt.dmB s
  ·rfl
  ·have:=of_decide_eq_true hd;exact absurd ⟨this.1,this.2.1⟩ h
 rw[d5I]
 cases hn:Txt.isNum s.data.toList
 ·have ⟨e1,e2⟩:=c1X hn;unfold g2T;rw[e1,hdm];simp
 ·have ⟨e1,e2⟩:=b9f hn;unfold g2T;rw[e1,e2]
  by_cases g:Txt.a2f s.data.toList<=1048320
  ·rw[decide_eq_true g];simp;omega
  ·rw[decide_eq_false g];simp;omega
theorem d0T(s:ByteArray)(w:World)(hm:s.size<=160):
  Calls Tryz.prog 127 #[.string s] w fun e w'=>e=.returned (.int .i64 (g2T s))/\Below w.heap.size w w':=by
 by_cases hs:s.size=16
 ·have h5:((s.size:Int)==16)=true:=beq_iff_eq.2 (by omega);have h2n:10<s.size:=by omega
  have h6:(10:Int)<(s.size:Int):=by omega
  have h7:(11:Int)<=(s.size:Int):=by omega
  by_cases hb:Txt.a0V s 10=47
  ·have hc:(((s[10]'h2n).toNat:Int)==47)=true:=beq_iff_eq.2 (by rw[<- Txt.a2W];exact hb);have HR:=hide (g1h hs hb);have hx:∃ x y:Int,g2R (s.extract 0 10)=x/\c5N (s.extract 11 16)=y:=⟨_,_,rfl,rfl⟩;obtain⟨x,y,hx,hy⟩:=hx;have bx:-1<=x/\x<=728:=by rw[<- hx,g2R];split <;> omega
   have by':-1<=y/\y<=1439:=by have:=Txt.c4W (s.extract 11 16);rw[<- hy,c5N];split <;> omega
   have HX:=hide hx;have HY:Hid (c5N (s.extract 11 s.size)=y):=by show c5N (s.extract 11 s.size)=y;rw[hs];exact hy
   have HQ:Hid (g2T s=if x<0\/y<0\/1048320<1440*x+y then -1 else 1440*x+y):=by
    show g2T s=_;rw[a0d HR,hx,hy]
   clear hx hy hs hb HR;have hcase:x<0\/(¬ x<0/\y<0)\/(¬ x<0/\¬ y<0/\1048320<1440*x+y)\/(¬ x<0/\¬ y<0/\¬ 1048320<1440*x+y):=by omega
   rcases hcase with g|⟨g,g'⟩|⟨g,g',g''⟩|⟨g,g',g''⟩
   all_goals
    go_enter Tryz.func127,Tryz.ntmps127
    go_wp2_with fail
    refine (d4B (s.extract 0 10) _ (b2L _ _ _ hm)).mono ?_;rintro e w1 ⟨rfl,hb1⟩;rw[a0d HX]
    go_wp2_with fail
    refine (c5y (s.extract 11 s.size) _ (b2L _ _ _ hm)).mono ?_;rintro e w2 ⟨rfl,hb2⟩;rw[HY.out];have hbb:=hb1.trans (hb2.mono hb1.size);go_wp2;go_ret;refine⟨a3w ?_,hbb⟩;rw[HQ.out]
    first|rw[if_pos (by omega)]|rw[if_neg (by omega)]
  ·have hc:(((s[10]'h2n).toNat:Int)==47)=false:=beq_eq_false_iff_ne.2 (by rw[<- Txt.a2W];exact hb);have HR:=hide (e7S (s:=s) (by omega));clear hs hb;have hx:∃ x:Int,b4g s 1 7=x:=⟨_,rfl⟩;obtain⟨x,hx⟩:=hx;have HX:=hide hx
   have HQ:Hid (g2T s=if 1048320<x then -1 else x):=by
    show g2T s=_;rw[a0d HR,hx]
   clear hx HR
   by_cases g:1048320<x
   all_goals
    go_enter Tryz.func127,Tryz.ntmps127
    go_wp2_with fail
    refine (b0E s 1 7 _ hm (by omega) (by omega)).mono ?_;rintro e w1 ⟨rfl,hb1⟩;rw[a0d HX];go_wp2;go_ret;refine⟨a3w ?_,hb1⟩;rw[HQ.out]
    first|rw[if_pos (by omega)]|rw[if_neg (by omega)]
 ·have h5:((s.size:Int)==16)=false:=beq_eq_false_iff_ne.2 (by omega);have HR:=hide (e7S (s:=s) (by omega));clear hs;have hx:∃ x:Int,b4g s 1 7=x:=⟨_,rfl⟩;obtain⟨x,hx⟩:=hx;have HX:=hide hx
  have HQ:Hid (g2T s=if 1048320<x then -1 else x):=by
   show g2T s=_;rw[a0d HR,hx]
  clear hx HR
  by_cases g:1048320<x
  all_goals
   go_enter Tryz.func127,Tryz.ntmps127
   go_wp2_with fail
   refine (b0E s 1 7 _ hm (by omega) (by omega)).mono ?_;rintro e w1 ⟨rfl,hb1⟩;rw[a0d HX];go_wp2;go_ret;refine⟨a3w ?_,hb1⟩;rw[HQ.out]
   first|rw[if_pos (by omega)]|rw[if_neg (by omega)]
theorem c1x(x:Nat)(w:World):
  Calls Tryz.prog 81 #[.int .i32 x] w fun e w'=>e=.returned (.bool (x==32))/\∃ q,w'=w.drewN q:=by
 go_enter Tryz.func81,Tryz.ntmps81
 go_wp2;go_ret;refine⟨a2a ?_,0,rfl⟩;rw[Bool.eq_iff_iff];simp;omega
theorem b5j(args:Array Value)(w:World):Sem.run Tryz.prog (callFunc 81 args) w=.ok (.enter 81 args) w:=by kernel_rfl
theorem b9v(s:ByteArray)(w:World)(hs:s.size<=160):
  Calls Tryz.prog 61 #[.string s] w fun e w'=>∃ A,e=.returned (.slice (some ⟨A,0,none⟩) (Txt.a1v s).length (Txt.a1v s).length)/\w.heap.size<=A /\
   w'.ownsRow w.heap.size 9 1 (.slice (some ⟨A,0,none⟩) (Txt.a1v s).length (Txt.a1v s).length) (Txt.a1v s).length ((Txt.a1v s).map Value.string)/\Below w.heap.size w w':=by
 have hp:PredAtRunes Tryz.prog 81 #[] (fun r=>r==32) w:=fun W x _ _=>c1x x W
 have HP:=hide hp;clear hp
 go_enter Tryz.func61,Tryz.ntmps61
 go_wp2_with fail
 refine (Tryz.strings_FieldsFunc_runes 81 #[] b5j (fun r=>r==32) s w (by omega) (a0d HP)).mono ?_;rintro e w' ⟨A,rfl,hA,ho,hb⟩;rw[Txt.b3C] at ho ⊢;go_wp2;go_ret;exact⟨A,rfl,hA,ho,hb⟩
theorem toList_data(b:ByteArray):b.toList=b.data.toList:=Lib.toList_data b
theorem d4z{b:ByteArray}(h:b.toList.isEmpty=true):b.size=0:=by
 rw[toList_data,List.isEmpty_iff] at h;rw[<- Txt.a1d,h];rfl
theorem d1p{b:ByteArray}(h:b.toList.isEmpty=false):b.size≠0:=by
 intro e;rw[toList_data,List.isEmpty_eq_false_iff] at h;exact h (List.eq_nil_of_length_eq_zero (by rw[Txt.a1d];exact e))
theorem d0U{base e size:Nat}{xs:List Value}(h:w.ownsRow base e size v n xs)(hk:v.ownBlock=some k):base<=k:=by
 rcases h.2 with ⟨rfl,_⟩|⟨g,cap,cur,rfl,hb,_⟩
 ·simp[Value.ownBlock] at hk
 ·simp[Value.ownBlock] at hk;omega
theorem e4B:(Tryz.prog.info? 9).map (fun i=>(i.zero,i.size,i.bytes))=some (some (.string ⟨#[]⟩),1,16):=by kernel_rfl
theorem e3b(s:ByteArray)(w:World)(hs:s.size<=160):
  Calls Tryz.prog 59 #[.string s] w fun e w'=>∃ v,e=.returned v/\w'.ownsRow w.heap.size 9 1 v (Txt.a1v s).length ((Txt.a1v s).map Value.string)/\Below w.heap.size w w':=by
 obtain⟨i0,hi,hz0,hz1,hz2⟩:=info_parts e4B
 go_enter Tryz.func59,Tryz.ntmps59
 go_wp2
 go_loopw [3,4,5] (fun v c i wr=>∃ k:Nat,k<=s.size/\i=.int .i64 k/\c=.string (Txt.a8z s k)/\wr.ownsRow w.heap.size 9 1 v (Txt.b7w s k).length ((Txt.b7w s k).map Value.string)/\Below w.heap.size w wr) (fun _ _ i _=>s.size-(intOf i).toNat)
 case atStart=>exact⟨0,Nat.zero_le _,rfl,rfl,World.ownsRow_nil _ _ _ _,Below.refl _ _⟩
 case round =>
  obtain⟨k,hk,rfl,rfl,hown,hnx⟩:=hrel;have cz:=Txt.b7k s k
  by_cases hlt:k<s.size
  ·by_cases hb:Txt.a0V s k=32
   ·have hb':((s[k].toNat:Int)==32)=true:=beq_iff_eq.2 (by rw[<- Txt.a2W];exact hb);have HB:=hide (Txt.b3O s k hk hb);clear hb
    cases he:(Txt.a8z s k).toList.isEmpty
    ·have HE:Hid ((Txt.a8z s k).size≠0):=(d1p he);have hal:=Txt.b5J s k
     go_wp2_with (first
      |(at_builtin;refine wpList_append_own _ rfl _ _ 26 rfl w.heap.size 9 i0 (.string ⟨#[]⟩) 1 16 Tryz.underlying26 hi hz0 hz1 hz2 rfl (by decide) _ _ _ rfl (hown.alloc _) ⟨wr.heap.size,0,none⟩ 1 1 [.string (Txt.a8z s k)] rfl rfl ?c1 ?c2 ?c3 ?c4 ?c5 ?_)
      |go_in)
     case c1=>exact cell_one_new _ _ _
     case c2=>intro u hu;simp at hu;subst hu;rfl
     case c3=>unfold maxLen;omega
     case c4=>omega
     case c5=>have:=hnx.size;simp;omega
     intro v' w1 hown' hgrow _;go_wp2;refine⟨⟨k+1,by omega,by go_num,by rw[(a0d HB).1],?_,?_⟩,by simp[intOf];omega⟩
     ·rw[(a0d HB).2,if_neg HE.out,List.map_append,List.length_append];exact hown'
     ·refine (hnx.alloc hnx.size _).grown hgrow (by have:=hnx.size;simp;omega) (fun k hk=>?_);exact d0U hown hk
    ·have HE:Hid ((Txt.a8z s k).size=0):=(d4z he);go_wp2;exact⟨⟨k+1,by omega,by go_num,by rw[(a0d HB).1],by rw[(a0d HB).2,if_pos HE.out,List.append_nil];exact hown,hnx⟩,by simp[intOf];omega⟩
   ·have hb':((s[k].toNat:Int)==32)=false:=beq_eq_false_iff_ne.2 (by rw[<- Txt.a2W];exact hb);have HB:=hide (Txt.b7l s k hb);clear hb;go_wp2;exact⟨⟨k+1,by omega,by go_num,by rw[(a0d HB).1],by rw[(a0d HB).2];exact hown,hnx⟩,by simp[intOf];omega⟩
  ·obtain rfl:k=s.size:=by omega
   have HW:=hide (Txt.b2t s)
   cases he:(Txt.a8z s s.size).toList.isEmpty
   ·have HE:Hid ((Txt.a8z s s.size).size≠0):=(d1p he);have hal:=Txt.b5J s s.size
    go_wp2_with (first
     |(at_builtin;refine wpList_append_own _ rfl _ _ 26 rfl w.heap.size 9 i0 (.string ⟨#[]⟩) 1 16 Tryz.underlying26 hi hz0 hz1 hz2 rfl (by decide) _ _ _ rfl (hown.alloc _) ⟨wr.heap.size,0,none⟩ 1 1 [.string (Txt.a8z s s.size)] rfl rfl ?c1 ?c2 ?c3 ?c4 ?c5 ?_)
     |go_in)
    case c1=>exact cell_one_new _ _ _
    case c2=>intro u hu;simp at hu;subst hu;rfl
    case c3=>unfold maxLen;omega
    case c4=>omega
    case c5=>have:=hnx.size;simp;omega
    intro v' w1 hown' hgrow _;go_wp2;go_ret;refine⟨v',rfl,?_,?_⟩
    ·rw[a0d HW,if_neg HE.out,List.map_append,List.length_append];exact hown'
    ·refine (hnx.alloc hnx.size _).grown hgrow (by have:=hnx.size;simp;omega) (fun k hk=>?_);exact d0U hown hk
   ·have HE:Hid ((Txt.a8z s s.size).size=0):=(d4z he);go_wp2;go_ret;exact⟨_,rfl,by rw[a0d HW,if_pos HE.out,List.append_nil];exact hown,hnx⟩
def a3C(k:Nat):List UInt8:=match k with|0=>[109,111]|1=>[116,117]|2=>[119,101]|3=>[116,104]|4=>[102,114]|5=>[115,97]|_=>[115,117]
theorem b4j(hk:k<7)(h:(l==a3C k)=true)(hn:∀ j,j<k->(l==a3C j)=false):Txt.wdL l=k:=by
 have e:=beq_iff_eq.1 h;subst e;rcases (show k=0\/k=1\/k=2\/k=3\/k=4\/k=5\/k=6 by omega) with rfl|rfl|rfl|rfl|rfl|rfl|rfl <;> decide
theorem c4q(hn:∀ j,j<7->(l==a3C j)=false):Txt.wdL l=-1:=by
 have h0:=hn 0 (by omega);have h1:=hn 1 (by omega);have h2:=hn 2 (by omega);have h3:=hn 3 (by omega);have h4:=hn 4 (by omega);have h5:=hn 5 (by omega);have h6:=hn 6 (by omega);simp only[a3C] at h0 h1 h2 h3 h4 h5 h6;simp[Txt.wdL,h0,h1,h2,h3,h4,h5,h6]
theorem a3m(hn:∀ j,j<k->(l==a3C j)=false)(h:(l==a3C k)=false):∀ j,j<k+1->(l==a3C j)=false:=fun j hj=>by
 by_cases e:j=k
 ·subst e;exact h
 ·exact hn j (by omega)
theorem e5W(s:ByteArray)(w:World):
  Calls Tryz.prog 190 #[.string s] w fun e w'=>e=.returned (.int .i64 (Txt.wdL s.data.toList))/\Below w.heap.size w w':=by
 have HL:=hide (toList_data s);have HB:Hid (∀ o,Below w.heap.size w (w.alloc o)):=fun o=>(zr _ _).alloc (zq _) o
 go_enter Tryz.func190,Tryz.ntmps190
 go_wp2
 go_loop [4] (fun i=>∃ k:Nat,k<=7/\i=.int .i64 k/\∀ j,j<k->(s.data.toList==a3C j)=false) (fun i=>7-(intOf i).toNat)
 case atStart=>exact⟨0,by omega,rfl,fun j hj=>absurd hj (by omega)⟩
 case round =>
  obtain⟨k,hk,rfl,hn⟩:=hrel;have HN:=hide hn;clear hn;rcases (show k=0\/k=1\/k=2\/k=3\/k=4\/k=5\/k=6\/k=7 by omega) with rfl|rfl|rfl|rfl|rfl|rfl|rfl|rfl
  ·cases hq:(s.toList==[109,111])
   ·have HQ:Hid ((s.data.toList==a3C 0)=false):=by
     show (s.data.toList==a3C 0)=false;rw[<- a0d HL];exact hq
    go_wp2
    go_round
    case rel=>exact⟨1,by omega,by go_num,a3m (a0d HN) HQ.out⟩
    case measure=>simp[intOf]
   ·have HQ:Hid (Txt.wdL s.data.toList=0):=b4j (k:=0) (by omega) (by rw[<- a0d HL];exact hq) (a0d HN);go_wp2;go_ret;exact⟨a3w (by rw[HQ.out]),HB.out _⟩
  ·cases hq:(s.toList==[116,117])
   ·have HQ:Hid ((s.data.toList==a3C 1)=false):=by
     show (s.data.toList==a3C 1)=false;rw[<- a0d HL];exact hq
    go_wp2
    go_round
    case rel=>exact⟨2,by omega,by go_num,a3m (a0d HN) HQ.out⟩
    case measure=>simp[intOf]
   ·have HQ:Hid (Txt.wdL s.data.toList=1):=b4j (k:=1) (by omega) (by rw[<- a0d HL];exact hq) (a0d HN);go_wp2;go_ret;exact⟨a3w (by rw[HQ.out]),HB.out _⟩
  ·cases hq:(s.toList==[119,101])
   ·have HQ:Hid ((s.data.toList==a3C 2)=false):=by
     show (s.data.toList==a3C 2)=false;rw[<- a0d HL];exact hq
    go_wp2
    go_round
    case rel=>exact⟨3,by omega,by go_num,a3m (a0d HN) HQ.out⟩
    case measure=>simp[intOf]
   ·have HQ:Hid (Txt.wdL s.data.toList=2):=b4j (k:=2) (by omega) (by rw[<- a0d HL];exact hq) (a0d HN);go_wp2;go_ret;exact⟨a3w (by rw[HQ.out]),HB.out _⟩
  ·cases hq:(s.toList==[116,104])
   ·have HQ:Hid ((s.data.toList==a3C 3)=false):=by
     show (s.data.toList==a3C 3)=false;rw[<- a0d HL];exact hq
    go_wp2
    go_round
    case rel=>exact⟨4,by omega,by go_num,a3m (a0d HN) HQ.out⟩
    case measure=>simp[intOf]
   ·have HQ:Hid (Txt.wdL s.data.toList=3):=b4j (k:=3) (by omega) (by rw[<- a0d HL];exact hq) (a0d HN);go_wp2;go_ret;exact⟨a3w (by rw[HQ.out]),HB.out _⟩
  ·cases hq:(s.toList==[102,114])
   ·have HQ:Hid ((s.data.toList==a3C 4)=false):=by
     show (s.data.toList==a3C 4)=false;rw[<- a0d HL];exact hq
    go_wp2
    go_round
    case rel=>exact⟨5,by omega,by go_num,a3m (a0d HN) HQ.out⟩
    case measure=>simp[intOf]
   ·have HQ:Hid (Txt.wdL s.data.toList=4):=b4j (k:=4) (by omega) (by rw[<- a0d HL];exact hq) (a0d HN);go_wp2;go_ret;exact⟨a3w (by rw[HQ.out]),HB.out _⟩
  ·cases hq:(s.toList==[115,97])
   ·have HQ:Hid ((s.data.toList==a3C 5)=false):=by
     show (s.data.toList==a3C 5)=false;rw[<- a0d HL];exact hq
    go_wp2
    go_round
    case rel=>exact⟨6,by omega,by go_num,a3m (a0d HN) HQ.out⟩
    case measure=>simp[intOf]
   ·have HQ:Hid (Txt.wdL s.data.toList=5):=b4j (k:=5) (by omega) (by rw[<- a0d HL];exact hq) (a0d HN);go_wp2;go_ret;exact⟨a3w (by rw[HQ.out]),HB.out _⟩
  ·cases hq:(s.toList==[115,117])
   ·have HQ:Hid ((s.data.toList==a3C 6)=false):=by
     show (s.data.toList==a3C 6)=false;rw[<- a0d HL];exact hq
    go_wp2
    go_round
    case rel=>exact⟨7,by omega,by go_num,a3m (a0d HN) HQ.out⟩
    case measure=>simp[intOf]
   ·have HQ:Hid (Txt.wdL s.data.toList=6):=b4j (k:=6) (by omega) (by rw[<- a0d HL];exact hq) (a0d HN);go_wp2;go_ret;exact⟨a3w (by rw[HQ.out]),HB.out _⟩
  ·have HQ:Hid (Txt.wdL s.data.toList=-1):=c4q (a0d HN);go_wp2;go_ret;exact⟨a3w (by rw[HQ.out]),HB.out _⟩
structure DS(w:World)(b:Nat)(acc:List Int):Prop where
 c0:w.cell? ⟨b,0,none⟩=some (.bool (isd acc 0))
 c1:w.cell? ⟨b,1,none⟩=some (.bool (isd acc 1))
 c2:w.cell? ⟨b,2,none⟩=some (.bool (isd acc 2))
 c3:w.cell? ⟨b,3,none⟩=some (.bool (isd acc 3))
 c4:w.cell? ⟨b,4,none⟩=some (.bool (isd acc 4))
 c5:w.cell? ⟨b,5,none⟩=some (.bool (isd acc 5))
 c6:w.cell? ⟨b,6,none⟩=some (.bool (isd acc 6))
 f:∀ j:Nat,w.frozen? ⟨b,j,none⟩=false
theorem DS.later{wx:World}(h:DS w b acc)(hb:Below w.heap.size w wx):DS wx b acc :=
 ⟨cell_later hb h.c0,cell_later hb h.c1,cell_later hb h.c2,cell_later hb h.c3,cell_later hb h.c4,cell_later hb h.c5,cell_later hb h.c6,fun j=>(hb.frozen (p:=⟨b,j,none⟩) (show b<w.heap.size from World.block_lt_of_cell? _ ⟨b,0,none⟩ h.c0)).trans (h.f j)⟩
theorem DS.at(h:DS w b acc)(d:Int)(h0:0<=d)(h6:d<7):w.cell? ⟨b,d.toNat,none⟩=some (.bool (isd acc d)):=by
 rcases (show d=0\/d=1\/d=2\/d=3\/d=4\/d=5\/d=6 by omega) with rfl|rfl|rfl|rfl|rfl|rfl|rfl
 ·exact h.c0
 ·exact h.c1
 ·exact h.c2
 ·exact h.c3
 ·exact h.c4
 ·exact h.c5
 ·exact h.c6
theorem a8U(d:Int)(h0:0<=d){u:Value}(hk:w.cell? ⟨b,k,none⟩=some (.bool (isd acc k)))(_hu:u=.bool true):(w.setCell ⟨b,d.toNat,none⟩ (.bool true)).cell? ⟨b,k,none⟩=some (.bool (isd (d :: acc) k)):=by
 by_cases e:d.toNat=k
 ·have ed:d=(k:Int):=by omega
  rw[e,World.cell?_setCell_same _ _ _ hk];simp[isd,ed]
 ·rw[World.cell?_setCell_other _ _ _ _ (by simp),hk];have ne:(k:Int)≠d:=by omega
  simp[isd,ne]
theorem DS.set(h:DS w b acc)(d:Int)(h0:0<=d):DS (w.setCell ⟨b,d.toNat,none⟩ (.bool true)) b (d :: acc) :=
 ⟨a8U (k:=0) d h0 h.c0 rfl,a8U (k:=1) d h0 h.c1 rfl,a8U (k:=2) d h0 h.c2 rfl,a8U (k:=3) d h0 h.c3 rfl,a8U (k:=4) d h0 h.c4 rfl,a8U (k:=5) d h0 h.c5 rfl,a8U (k:=6) d h0 h.c6 rfl,fun j=>(zF ..).trans (h.f j)⟩
theorem c3s{b':Nat}(h:DS w b acc)(_hne:b'≠b):DS (w.setCell ⟨b',o,none⟩ v) b acc:=by
 have g:∀ j:Nat,(w.setCell ⟨b',o,none⟩ v).cell? ⟨b,j,none⟩=w.cell? ⟨b,j,none⟩:=fun j=>zS _ _ _ _ (by simp)
 exact⟨(g 0).trans h.c0,(g 1).trans h.c1,(g 2).trans h.c2,(g 3).trans h.c3,(g 4).trans h.c4,(g 5).trans h.c5,(g 6).trans h.c6,fun j=>(zF ..).trans (h.f j)⟩
def a3E(acc:List Int):Value:=.agg #[.bool (isd acc 0),.bool (isd acc 1),.bool (isd acc 2),.bool (isd acc 3),.bool (isd acc 4),.bool (isd acc 5),.bool (isd acc 6)]
def g1I(s:ByteArray)(k:Nat)(acc:List Int):Prop :=
 (3*k<s.size/\Txt.onW s=Txt.onC (s.data.toList.drop (3*k)) acc)\/(3*k=s.size+1/\Txt.onW s=some acc)
theorem e0F(s:ByteArray)(k:Nat)(h:s.size % 3=2)(hk:3*k<s.size):
  (3*k+2=s.size/\s.data.toList.drop (3*k)=Txt.part s (3*k) (3*k+2)/\(Txt.part s (3*k) (3*k+2)).length=2) \/
  (3*k+3<s.size/\∃ a b c,s.data.toList.drop (3*k)=a :: b :: c :: s.data.toList.drop (3*(k+1))/\Txt.part s (3*k) (3*k+2)=[a,b]/\(c.toNat:Int)=Txt.a0V s (3*k+2)):=by
 have hl:=Txt.a1d s
 have hp:Txt.part s (3*k) (3*k+2)=(s.data.toList.drop (3*k)).take 2:=by
  unfold Txt.part;rw[Txt.a3g,List.drop_take];congr 1;omega
 by_cases h2:3*k+2=s.size
 ·left;have e:(s.data.toList.drop (3*k)).length=2:=by rw[List.length_drop];omega
  refine⟨h2,?_,?_⟩
  ·rw[hp,List.take_of_length_le (by omega)]
  ·rw[hp,List.length_take];omega
 ·right;have hlt:3*k+3<s.size:=by omega
  refine⟨hlt,s.data.toList[3*k]'(by omega),s.data.toList[3*k+1]'(by omega),s.data.toList[3*k+2]'(by omega),?_,?_,?_⟩
  ·rw[List.drop_eq_getElem_cons (by omega),List.drop_eq_getElem_cons (i:=3*k+1) (by omega),List.drop_eq_getElem_cons (i:=3*k+1+1) (by omega),show 3*k+1+1+1=3*(k+1) from by omega]
  ·rw[hp,List.drop_eq_getElem_cons (by omega),List.drop_eq_getElem_cons (i:=3*k+1) (by omega)];rfl
  ·unfold Txt.a0V;rw[List.getD_eq_getElem?_getD,List.getElem?_eq_getElem (by omega)];rfl
theorem f1q(s:ByteArray)(h:s.size % 3=2):g1I s 0 []:=.inl ⟨by omega,rfl⟩
theorem f8F(h:g1I s k acc)(h3:s.size % 3=2)(hk:3*k<s.size)(hd:Txt.wdL (Txt.part s (3*k) (3*k+2))<0\/isd acc (Txt.wdL (Txt.part s (3*k) (3*k+2)))=true\/(3*k+2<s.size/\Txt.a0V s (3*k+2)≠44)):Txt.onW s=none:=by
 rcases h with ⟨_,h⟩|⟨h,_⟩
 ·rw[h]
  have bad:Txt.wdL (Txt.part s (3*k) (3*k+2))<0\/isd acc (Txt.wdL (Txt.part s (3*k) (3*k+2)))=true->Txt.a4D acc (Txt.wdL (Txt.part s (3*k) (3*k+2)))=none:=fun q=>by
   unfold Txt.a4D;rw[if_neg];rintro ⟨q1,q2⟩;rcases q with q|q
   ·omega
   ·unfold isd at q;rw[q] at q2;cases q2
  rcases e0F s k h3 hk with ⟨e1,e2,e3⟩|⟨e1,a,b,c,e2,e3,e4⟩
  ·rw[e2];rcases hd with hd|hd|hd
   all_goals first|omega|skip
   all_goals
    obtain⟨x,y,hxy⟩:∃ x y,Txt.part s (3*k) (3*k+2)=[x,y]:=by
     match hm:Txt.part s (3*k) (3*k+2),e3 with
     |[x,y],_=>exact⟨x,y,rfl⟩
    have:=bad (by first|exact .inl hd|exact .inr hd);rw[hxy] at this ⊢;exact this
  ·rw[e2,Txt.onC]
   split
   ·rename_i hc
    rcases hd with hd|hd|hd
    ·have:=bad (.inl hd);rw[e3] at this;rw[this];rfl
    ·have:=bad (.inr hd);rw[e3] at this;rw[this];rfl
    ·subst hc;exfalso;apply hd.2;rw[<- e4];rfl
   ·rfl
 ·omega
theorem f4y(h:g1I s k acc)(h3:s.size % 3=2)(hk:3*k<s.size)(h0:0<=Txt.wdL (Txt.part s (3*k) (3*k+2)))(hm:isd acc (Txt.wdL (Txt.part s (3*k) (3*k+2)))=false)(hs:3*k+2<s.size->Txt.a0V s (3*k+2)=44):g1I s (k+1) (Txt.wdL (Txt.part s (3*k) (3*k+2)) :: acc):=by
 have st:Txt.a4D acc (Txt.wdL (Txt.part s (3*k) (3*k+2)))=some (Txt.wdL (Txt.part s (3*k) (3*k+2)) :: acc):=by
  unfold Txt.a4D;rw[if_pos ⟨h0,hm⟩]
 rcases h with ⟨_,h⟩|⟨h,_⟩
 ·rcases e0F s k h3 hk with ⟨e1,e2,e3⟩|⟨e1,a,b,c,e2,e3,e4⟩
  ·right;refine⟨by omega,?_⟩;rw[h,e2]
   obtain⟨x,y,hxy⟩:∃ x y,Txt.part s (3*k) (3*k+2)=[x,y]:=by
    match hm:Txt.part s (3*k) (3*k+2),e3 with
    |[x,y],_=>exact⟨x,y,rfl⟩
   rw[hxy] at st ⊢;exact st
  ·left;refine⟨by omega,?_⟩
   have hc:c=44:=by
    have:=hs (by omega);rw[<- e4] at this;exact UInt8.toNat_inj.1 (by simpa using (by omega:(c.toNat)=44))
   rw[h,e2,Txt.onC,if_pos hc,<- e3,st];rfl
 ·omega
theorem g0u(s:ByteArray)(w:World)(hm:s.size<=160):
  Calls Tryz.prog 129 #[.string s] w fun e w'=>(∃ acc,e=.returned (.tuple #[a3E acc,.bool (Txt.onB s)])/\(Txt.onB s=true->Txt.onW s=some acc))/\Below w.heap.size w w':=by
 by_cases h3:s.size % 3=2
 ·have h3':(((s.size:Int) % 3) != 2)=false:=b5z (by omega)
  go_enter Tryz.func129,Tryz.ntmps129
  go_wp2;obtain⟨W,hW⟩:∃ W,W=(w.alloc (.cells #[.bool false,.bool false,.bool false,.bool false,.bool false,.bool false,.bool false] 159)).alloc (.cells #[.bool false,.bool false,.bool false,.bool false,.bool false,.bool false,.bool false] 159):=⟨_,rfl⟩;rw[<- hW];have hB:Below w.heap.size w W:=by rw[hW];exact ((zr _ _).alloc (zq _) _).alloc (by simp) _
  have hZ:w.heap.size+2=W.heap.size:=by rw[hW];simp
  have dR:DS W w.heap.size []:=by
   rw[hW];refine⟨?_,?_,?_,?_,?_,?_,?_,fun j=>?_⟩ <;> simp[isd]
  have dD:DS W (w.heap.size+1) []:=by
   rw[hW];refine⟨?_,?_,?_,?_,?_,?_,?_,fun j=>?_⟩ <;> simp[isd]
  clear hW
  go_loopw [5,6] (fun i _ wx=>∃ (k:Nat) (acc:List Int),3*k<=s.size+1/\i=.int .i64 ((3*k:Nat):Int)/\g1I s k acc/\DS wx (w.heap.size+1) acc/\DS wx w.heap.size []/\Below w.heap.size w wx/\w.heap.size+2<=wx.heap.size) (fun i _ _=>s.size+3-(intOf i).toNat)
  case atStart=>exact⟨0,[],by omega,rfl,f1q s h3,dD,dR,hB,by omega⟩
  case round =>
   obtain⟨k,acc,hk,rfl,hat,hD,hR,hnx,hsz⟩:=hrel
   by_cases hlt:3*k<s.size
   ·have hd:=Txt.c3Q (Txt.part s (3*k) (3*k+2));have HAT:=hide hat;clear hat
    go_wp2_with fail
    refine (e5W _ _).mono ?_;rintro e w1 ⟨rfl,hbw⟩;rw[show (s.extract (3*k) (3*k+2)).data.toList=Txt.part s (3*k) (3*k+2) from rfl];have hb1:Below w.heap.size w w1:=hnx.trans (hbw.mono hnx.size);have hs1:w.heap.size+2<=w1.heap.size:=Nat.le_trans hsz hbw.size;have hD1:=hD.later hbw;have hR1:=hR.later hbw;have q0:=hD1.c0;have q1:=hD1.c1;have q2:=hD1.c2;have q3:=hD1.c3;have q4:=hD1.c4;have q5:=hD1.c5;have q6:=hD1.c6;have r0:=hR1.c0;have r1:=hR1.c1;have r2:=hR1.c2;have r3:=hR1.c3;have r4:=hR1.c4;have r5:=hR1.c5;have r6:=hR1.c6;have fR:=hR1.f;have fD:=hD1.f;obtain⟨d,hdd⟩:∃ d,d=Txt.wdL (Txt.part s (3*k) (3*k+2)):=⟨_,rfl⟩;have HBAD:=hide (fun q=>f8F (a0d HAT) h3 hlt q);have HNEXT:=hide (fun q1 q2 q3=>f4y (a0d HAT) h3 hlt q1 q2 q3);rw[<- hdd] at hd HBAD HNEXT ⊢;clear hdd hD hR hnx hsz hbw hB hZ dR dD
    by_cases hneg:d<0
    ·have HN:Hid (Txt.onB s=false):=by show Txt.onB s=false;unfold Txt.onB;rw[a0d HBAD (.inl hneg)];rfl
     go_wp2;refine bodyPost_ret (v:=.tuple #[a3E acc,.bool false]) (by simp[results,Tryz.results129,go_sem,a3E,r0,r1,r2,r3,r4,r5,r6]) rfl ⟨⟨acc,?_,?_⟩,?_⟩
     ·rw[HN.out]
     ·intro h;rw[HN.out] at h;cases h
     ·exact (((((((hb1.setCell (zq _) _).setCell (zq _) _).setCell (zq _) _).setCell (zq _) _).setCell (zq _) _).setCell (zq _) _).setCell (zq _) _)
    ·have hc:=hD1.at d (by omega) (by omega)
     cases hmk:isd acc d
     ·rw[hmk] at hc
      by_cases h2:3*k+2<s.size
      ·cases hsep:(((s[3*k+2]'h2).toNat:Int) != 44)
       ·have HX:Hid (g1I s (k+1) (d :: acc)):=a0d HNEXT (by omega) hmk (fun _=>by
         rw[Txt.a2W s _ h2];simpa using hsep)
        go_wp2;refine⟨⟨k+1,d :: acc,by omega,by go_num,HX.out,?_,?_,?_,?_⟩,by simp[intOf];omega⟩
        ·exact hD1.set d (by omega)
        ·exact c3s hR1 (by omega)
        ·exact hb1.setCell (by simp) _
        ·simp;omega
       ·have HN:Hid (Txt.onB s=false):=by
         show Txt.onB s=false;unfold Txt.onB;rw[a0d HBAD (.inr (.inr ⟨h2,by rw[Txt.a2W s _ h2];simpa using hsep⟩))];rfl
        go_wp2;refine bodyPost_ret (v:=.tuple #[a3E acc,.bool false]) (by simp[results,Tryz.results129,go_sem,a3E,r0,r1,r2,r3,r4,r5,r6]) rfl ⟨⟨acc,?_,?_⟩,?_⟩
        ·rw[HN.out]
        ·intro h;rw[HN.out] at h;cases h
        ·exact (((((((hb1.setCell (zq _) _).setCell (zq _) _).setCell (zq _) _).setCell (zq _) _).setCell (zq _) _).setCell (zq _) _).setCell (zq _) _)
      ·have HX:Hid (g1I s (k+1) (d :: acc)):=a0d HNEXT (by omega) hmk (fun h=>absurd h h2);go_wp2;refine⟨⟨k+1,d :: acc,by omega,by go_num,HX.out,?_,?_,?_,?_⟩,by simp[intOf];omega⟩
       ·exact hD1.set d (by omega)
       ·exact c3s hR1 (by omega)
       ·exact hb1.setCell (by simp) _
       ·simp;omega
     ·rw[hmk] at hc;have HN:Hid (Txt.onB s=false):=by show Txt.onB s=false;unfold Txt.onB;rw[a0d HBAD (.inr (.inl hmk))];rfl
      go_wp2;refine bodyPost_ret (v:=.tuple #[a3E acc,.bool false]) (by simp[results,Tryz.results129,go_sem,a3E,r0,r1,r2,r3,r4,r5,r6]) rfl ⟨⟨acc,?_,?_⟩,?_⟩
      ·rw[HN.out]
      ·intro h;rw[HN.out] at h;cases h
      ·exact (((((((hb1.setCell (zq _) _).setCell (zq _) _).setCell (zq _) _).setCell (zq _) _).setCell (zq _) _).setCell (zq _) _).setCell (zq _) _)
   ·have HF:Hid (Txt.onW s=some acc):=by
     rcases hat with ⟨h,_⟩|⟨_,h⟩
     ·omega
     ·exact h
    have HN:Hid (Txt.onB s=true):=by show Txt.onB s=true;unfold Txt.onB;rw[HF.out];rfl
    clear hat;have q0:=hD.c0;have q1:=hD.c1;have q2:=hD.c2;have q3:=hD.c3;have q4:=hD.c4;have q5:=hD.c5;have q6:=hD.c6;have r0:=hR.c0;have r1:=hR.c1;have r2:=hR.c2;have r3:=hR.c3;have r4:=hR.c4;have r5:=hR.c5;have r6:=hR.c6;have fR:=hR.f;go_wp2;refine bodyPost_ret (v:=.tuple #[a3E acc,.bool true]) (by simp[results,Tryz.results129,go_sem,a3E,r0,r1,r2,r3,r4,r5,r6]) rfl ⟨⟨acc,?_,?_⟩,?_⟩
    ·rw[HN.out]
    ·intro _;exact HF.out
    ·exact (((((((hnx.setCell (zq _) _).setCell (zq _) _).setCell (zq _) _).setCell (zq _) _).setCell (zq _) _).setCell (zq _) _).setCell (zq _) _)
 ·have h3':(((s.size:Int) % 3) != 2)=true:=b5y (by omega)
  have HN:Hid (Txt.onB s=false):=by
   show Txt.onB s=false;unfold Txt.onB
   cases ho:Txt.onW s with
   |none=>rfl
   |some r=>have:=Txt.f4x _ _ _ ho;rw[Txt.a1d] at this;omega
  clear h3
  go_enter Tryz.func129,Tryz.ntmps129
  go_wp2;refine bodyPost_ret (v:=.tuple #[a3E [],.bool false]) (by simp[results,Tryz.results129,go_sem,a3E,isd]) rfl ⟨⟨[],?_,?_⟩,?_⟩
  ·rw[HN.out]
  ·intro h;rw[HN.out] at h;cases h
  ·exact ((zr _ _).alloc (zq _) _).alloc (by simp) _
theorem Env.kept(h:Env w)(k:Kept R w w')(hR:10<=R):Env w':=by
 have hb:Below 10 w w':=k.below hR h.size;have hc:∀ (b o:Nat) (v:Value),b<10->w.cell? ⟨b,o,none⟩=some v->w'.cell? ⟨b,o,none⟩=some v:=fun b o v hb' e=>(hb.cell (p:=⟨b,o,none⟩) hb').trans e
 obtain⟨m,hm⟩:=h.c5L;obtain⟨c0,c1,c2,c3,c4,c5,c6,c7,c8,c9,c10,c11⟩:=h.tab;refine⟨⟨hc _ _ _ (by omega) c0,hc _ _ _ (by omega) c1,hc _ _ _ (by omega) c2,hc _ _ _ (by omega) c3,hc _ _ _ (by omega) c4,hc _ _ _ (by omega) c5,hc _ _ _ (by omega) c6,hc _ _ _ (by omega) c7,hc _ _ _ (by omega) c8,hc _ _ _ (by omega) c9,hc _ _ _ (by omega) c10,hc _ _ _ (by omega) c11⟩,⟨m,hc _ _ _ (by omega) hm⟩,?_,Nat.le_trans h.size k.size,hc _ _ _ (by omega) h.mo,hc _ _ _ (by omega) h.tu,hc _ _ _ (by omega) h.we,hc _ _ _ (by omega) h.th,hc _ _ _ (by omega) h.fr,hc _ _ _ (by omega) h.sa,hc _ _ _ (by omega) h.su⟩;have hp:=h.pow;unfold Lib.TabIs World.var? at hp ⊢;simp only[c6q,Option.bind_some] at hp ⊢;rw[hb.block 0 (by omega)];exact hp
def a0K(s:ByteArray)(lo hi:Int):Bool:=Txt.isNum s.data.toList && decide (lo<=Txt.a2f s.data.toList) && decide (Txt.a2f s.data.toList<=hi)
theorem b0o(s:ByteArray)(L M:Nat)(lo hi:Int)(w:World)(hs:s.size<=160)(cl:w.cell? ⟨L,0,none⟩=some (.int .i64 lo))(cm:w.cell? ⟨M,0,none⟩=some (.int .i64 hi)):
  Calls Tryz.prog 191 #[.string s,.pointer (some ⟨L,0,none⟩),.pointer (some ⟨M,0,none⟩)] w fun e w'=>e=.returned (.tuple #[.int .i64 (Txt.a2f s.data.toList),.bool (a0K s lo hi)])/\∃ n,w'=w.drewN n:=by
 have hm:s.size<=maxLen:=by unfold maxLen;omega
 cases hn:Txt.isNum s.data.toList
 ·go_enter Tryz.func191,Tryz.ntmps191
  go_wp2_with fail
  refine (a0m s w hm).mono ?_;rintro e w1 ⟨rfl,rfl⟩;rw[hn];go_wp2
  go_quiet (fail)
  go_wp2;go_ret2;exact⟨a0A rfl (by simp[a0K,hn]),_,rfl⟩
 ·by_cases g1:lo<=Txt.a2f s.data.toList
  ·by_cases g2:Txt.a2f s.data.toList<=hi
   ·go_enter Tryz.func191,Tryz.ntmps191
    go_wp2_with fail
    refine (a0m s w hm).mono ?_;rintro e w1 ⟨rfl,rfl⟩;rw[hn];go_wp2
    go_quiet (fail)
    go_wp2;go_ret2;exact⟨a0A rfl (by simp[a0K,hn,g1,g2]),_,rfl⟩
   ·have g2':decide (Txt.a2f s.data.toList<=hi)=false:=decide_eq_false g2
    go_enter Tryz.func191,Tryz.ntmps191
    go_wp2_with fail
    refine (a0m s w hm).mono ?_;rintro e w1 ⟨rfl,rfl⟩;rw[hn];go_wp2
    go_quiet (fail)
    go_wp2;go_ret2;exact⟨a0A rfl (by simp[a0K,hn,g1,g2']),_,rfl⟩
  ·have g1':decide (lo<=Txt.a2f s.data.toList)=false:=decide_eq_false g1
   go_enter Tryz.func191,Tryz.ntmps191
   go_wp2_with fail
   refine (a0m s w hm).mono ?_;rintro e w1 ⟨rfl,rfl⟩;rw[hn];go_wp2
   go_quiet (fail)
   go_wp2;go_ret2;exact⟨a0A rfl (by simp[a0K,hn,g1']),_,rfl⟩
theorem small(h:n<=160):n<=maxLen:=by unfold maxLen;omega
theorem b4p(R A:Nat)(ws:List ByteArray)(nx:Nat)(wr:Bool)(w:World)(h:RS w R A ws nx wr)(he:Env w)(hm:a1b ws.length nx wr=true)(hlt:nx<ws.length)(hb:a0n ws[nx]=true):
  Calls Tryz.prog 135 #[.pointer (some ⟨R,0,none⟩),.func (.func 140) #[] #[]] w fun e w'=>e=.returned (.int .i64 (a1J ws[nx]))/\RS w' R A ws (nx+1) wr/\Kept R w w':=by
 have hi:(nx:Int)<(ws.length:Int):=by omega
 have hsz:ws[nx].size<=160:=h.short _ (zg hlt);have HSZ:=hide hsz;clear hsz;have HE:=hide he;clear he
 go_enter Tryz.func135,Tryz.ntmps135
 go_wp2_with fail
 refine (a0X R A ws nx wr w h).mono ?_;rintro e w1 ⟨rfl,n,hw⟩;have h1:RS w1 R A ws nx wr:=by rw[hw];exact h.drewN n
 have k1:Kept R w w1:=by rw[hw];exact (Kept.refl R w).drewN n
 have HE1:Hid (Env w1):=by show Env w1;rw[hw];exact (a0d HE).drewN n
 have c0:=h1.c0;have c1:=h1.c1;have f1:=h1.f1;have cr:=h1.rows nx hlt;have hl:=h1.len;clear hw;go_wp2
 go_quiet ((go_at_call 140;exact Calls.quiet_of (a7Z _ _ ((a0d HE1).drewN _) (a0d HSZ))))
 go_wp2;go_ret;exact⟨rfl,(h1.drewN _).step hlt,(k1.drewN _).setCell _ _⟩
theorem b4q(R A:Nat)(ws:List ByteArray)(nx:Nat)(wr:Bool)(w:World)(h:RS w R A ws nx wr)(he:Env w)(hm:a1b ws.length nx wr=true)(hlt:nx<ws.length)(hb:a0n ws[nx]=false):
  Calls Tryz.prog 135 #[.pointer (some ⟨R,0,none⟩),.func (.func 140) #[] #[]] w fun e w'=>e=.returned (.int .i64 (0))/\RS w' R A ws nx true/\Kept R w w':=by
 have hi:(nx:Int)<(ws.length:Int):=by omega
 have hsz:ws[nx].size<=160:=h.short _ (zg hlt);have HSZ:=hide hsz;clear hsz;have HE:=hide he;clear he
 go_enter Tryz.func135,Tryz.ntmps135
 go_wp2_with fail
 refine (a0X R A ws nx wr w h).mono ?_;rintro e w1 ⟨rfl,n,hw⟩;have h1:RS w1 R A ws nx wr:=by rw[hw];exact h.drewN n
 have k1:Kept R w w1:=by rw[hw];exact (Kept.refl R w).drewN n
 have HE1:Hid (Env w1):=by show Env w1;rw[hw];exact (a0d HE).drewN n
 have c0:=h1.c0;have c1:=h1.c1;have c2:=h1.c2;have f2:=h1.f2;have cr:=h1.rows nx hlt;have hl:=h1.len;clear hw;go_wp2
 go_quiet ((go_at_call 140;exact Calls.quiet_of (a7Z _ _ ((a0d HE1).drewN _) (a0d HSZ))))
 go_wp2;go_ret;exact⟨rfl,(h1.drewN _).bad,(k1.drewN _).setCell _ _⟩
theorem b1r(L M:Nat)(lo hi:Int)(R A:Nat)(ws:List ByteArray)(nx:Nat)(wr:Bool)(w:World)(h:RS w R A ws nx wr)(cl:w.cell? ⟨L,0,none⟩=some (.int .i64 lo))(cm:w.cell? ⟨M,0,none⟩=some (.int .i64 hi))(hm:a1b ws.length nx wr=true)(hlt:nx<ws.length)(hb:a0K ws[nx] lo hi=true):
  Calls Tryz.prog 135 #[.pointer (some ⟨R,0,none⟩),.func (.func 191) #[] #[.pointer (some ⟨L,0,none⟩),.pointer (some ⟨M,0,none⟩)]] w fun e w'=>e=.returned (.int .i64 (Txt.a2f ws[nx].data.toList))/\RS w' R A ws (nx+1) wr/\Kept R w w':=by
 have hib:(nx:Int)<(ws.length:Int):=by omega
 have hsz:ws[nx].size<=160:=h.short _ (zg hlt);have HSZ:=hide hsz;clear hsz
 go_enter Tryz.func135,Tryz.ntmps135
 go_wp2_with fail
 refine (a0X R A ws nx wr w h).mono ?_;rintro e w1 ⟨rfl,n,hw⟩;have h1:RS w1 R A ws nx wr:=by rw[hw];exact h.drewN n
 have k1:Kept R w w1:=by rw[hw];exact (Kept.refl R w).drewN n
 have cl1:Hid (w1.cell? ⟨L,0,none⟩=some (.int .i64 lo)):=by show w1.cell? _=_;rw[hw];exact cl
 have cm1:Hid (w1.cell? ⟨M,0,none⟩=some (.int .i64 hi)):=by show w1.cell? _=_;rw[hw];exact cm
 clear cl cm;have c0:=h1.c0;have c1:=h1.c1;have f1:=h1.f1;have cr:=h1.rows nx hlt;have hl:=h1.len;clear hw;go_wp2
 go_quiet ((go_at_call 191;exact Calls.quiet_of (b0o _ L M lo hi _ (a0d HSZ) (a0d cl1) (a0d cm1))))
 go_wp2;go_ret;exact⟨rfl,(h1.drewN _).step hlt,(k1.drewN _).setCell _ _⟩
theorem b1s(L M:Nat)(lo hi:Int)(R A:Nat)(ws:List ByteArray)(nx:Nat)(wr:Bool)(w:World)(h:RS w R A ws nx wr)(cl:w.cell? ⟨L,0,none⟩=some (.int .i64 lo))(cm:w.cell? ⟨M,0,none⟩=some (.int .i64 hi))(hm:a1b ws.length nx wr=true)(hlt:nx<ws.length)(hb:a0K ws[nx] lo hi=false):
  Calls Tryz.prog 135 #[.pointer (some ⟨R,0,none⟩),.func (.func 191) #[] #[.pointer (some ⟨L,0,none⟩),.pointer (some ⟨M,0,none⟩)]] w fun e w'=>e=.returned (.int .i64 (0))/\RS w' R A ws nx true/\Kept R w w':=by
 have hib:(nx:Int)<(ws.length:Int):=by omega
 have hsz:ws[nx].size<=160:=h.short _ (zg hlt);have HSZ:=hide hsz;clear hsz
 go_enter Tryz.func135,Tryz.ntmps135
 go_wp2_with fail
 refine (a0X R A ws nx wr w h).mono ?_;rintro e w1 ⟨rfl,n,hw⟩;have h1:RS w1 R A ws nx wr:=by rw[hw];exact h.drewN n
 have k1:Kept R w w1:=by rw[hw];exact (Kept.refl R w).drewN n
 have cl1:Hid (w1.cell? ⟨L,0,none⟩=some (.int .i64 lo)):=by show w1.cell? _=_;rw[hw];exact cl
 have cm1:Hid (w1.cell? ⟨M,0,none⟩=some (.int .i64 hi)):=by show w1.cell? _=_;rw[hw];exact cm
 clear cl cm;have c0:=h1.c0;have c1:=h1.c1;have c2:=h1.c2;have f2:=h1.f2;have cr:=h1.rows nx hlt;have hl:=h1.len;clear hw;go_wp2
 go_quiet ((go_at_call 191;exact Calls.quiet_of (b0o _ L M lo hi _ (a0d HSZ) (a0d cl1) (a0d cm1))))
 go_wp2;go_ret;exact⟨rfl,(h1.drewN _).bad,(k1.drewN _).setCell _ _⟩
theorem b4r(f:Value)(R A:Nat)(ws:List ByteArray)(nx:Nat)(wr:Bool)(w:World)(h:RS w R A ws nx wr)(hm:a1b ws.length nx wr=false):
  Calls Tryz.prog 130 #[.pointer (some ⟨R,0,none⟩),f] w fun e w'=>e=.returned (.string ⟨#[]⟩)/\RS w' R A ws nx true/\Kept R w w':=by
 go_enter Tryz.func130,Tryz.ntmps130
 go_wp2_with fail
 refine (a0X R A ws nx wr w h).mono ?_;rintro e w1 ⟨rfl,n,hw⟩;have h1:RS w1 R A ws nx wr:=by rw[hw];exact h.drewN n
 have k1:Kept R w w1:=by rw[hw];exact (Kept.refl R w).drewN n
 have c2:=h1.c2;have f2:=h1.f2;clear hw;go_wp2;go_ret;exact⟨rfl,h1.bad,k1.setCell _ _⟩
theorem b4u(R A:Nat)(ws:List ByteArray)(nx:Nat)(wr:Bool)(w:World)(h:RS w R A ws nx wr)(hm:a1b ws.length nx wr=true)(hlt:nx<ws.length)(hb:Txt.a1j ws[nx].data.toList=true):
  Calls Tryz.prog 130 #[.pointer (some ⟨R,0,none⟩),.func (.func 131) #[] #[]] w fun e w'=>e=.returned (.string (b4S ws[nx]))/\RS w' R A ws (nx+1) wr/\Kept R w w':=by
 have hi:(nx:Int)<(ws.length:Int):=by omega
 have hi0:(0:Int)<=(nx:Int):=Int.natCast_nonneg _;have hsz:ws[nx].size<=160:=h.short _ (zg hlt);have HSZ:=hide hsz;clear hsz
 go_enter Tryz.func130,Tryz.ntmps130
 go_wp2_with fail
 refine (a0X R A ws nx wr w h).mono ?_;rintro e w1 ⟨rfl,n,hw⟩;have h1:RS w1 R A ws nx wr:=by rw[hw];exact h.drewN n
 have k1:Kept R w w1:=by rw[hw];exact (Kept.refl R w).drewN n
 have c0:=h1.c0;have c1:=h1.c1;have cr:=h1.rows nx hlt;have hl:=h1.len;clear hw
 go_wp2_with fail
 go_region_held3 (fun w'=>w'.cell? ⟨R,0,none⟩=some (.slice (some ⟨A,0,none⟩) ws.length ws.length)/\w'.cell? ⟨R,1,none⟩=some (.int .i64 nx)/\w'.cell? ⟨A,nx,none⟩=some (.string ws[nx]))
  (first
   |go_keep
   |(
    go_split_ands
    refine⟨?_,?_,?_⟩
    ·exact cell_later hbf (by assumption)
    ·exact cell_later hbf (by assumption)
    ·exact cell_later hbf (by assumption)))
  ((go_at_call 131;refine (a8a _ _ (a0d HSZ)).mono ?_;rintro e w4 ⟨rfl,hbf⟩))
 have hbf':Below w1.heap.size w1 w4:=⟨hbf.os,hbf.tape,hbf.output,hbf.size,hbf.block⟩;have h4:=h1.of_below hbf';have k4:=k1.trans (Kept.of_below hbf');have d1:=h4.c1;have d2:=h4.c2;have g1:=h4.f1;have g2:=h4.f2;clear c0 c1 cr;go_wp2;go_ret;exact⟨rfl,h4.step hlt,k4.setCell _ _⟩
theorem b4v(R A:Nat)(ws:List ByteArray)(nx:Nat)(wr:Bool)(w:World)(h:RS w R A ws nx wr)(hm:a1b ws.length nx wr=true)(hlt:nx<ws.length)(hb:Txt.a1j ws[nx].data.toList=false):
  Calls Tryz.prog 130 #[.pointer (some ⟨R,0,none⟩),.func (.func 131) #[] #[]] w fun e w'=>e=.returned (.string ⟨#[]⟩)/\RS w' R A ws nx true/\Kept R w w':=by
 have hi:(nx:Int)<(ws.length:Int):=by omega
 have hi0:(0:Int)<=(nx:Int):=Int.natCast_nonneg _;have hsz:ws[nx].size<=160:=h.short _ (zg hlt);have HSZ:=hide hsz;clear hsz
 go_enter Tryz.func130,Tryz.ntmps130
 go_wp2_with fail
 refine (a0X R A ws nx wr w h).mono ?_;rintro e w1 ⟨rfl,n,hw⟩;have h1:RS w1 R A ws nx wr:=by rw[hw];exact h.drewN n
 have k1:Kept R w w1:=by rw[hw];exact (Kept.refl R w).drewN n
 have c0:=h1.c0;have c1:=h1.c1;have cr:=h1.rows nx hlt;have hl:=h1.len;clear hw
 go_wp2_with fail
 go_region_held3 (fun w'=>w'.cell? ⟨R,0,none⟩=some (.slice (some ⟨A,0,none⟩) ws.length ws.length)/\w'.cell? ⟨R,1,none⟩=some (.int .i64 nx)/\w'.cell? ⟨A,nx,none⟩=some (.string ws[nx]))
  (first
   |go_keep
   |(
    go_split_ands
    refine⟨?_,?_,?_⟩
    ·exact cell_later hbf (by assumption)
    ·exact cell_later hbf (by assumption)
    ·exact cell_later hbf (by assumption)))
  ((go_at_call 131;refine (a8a _ _ (a0d HSZ)).mono ?_;rintro e w4 ⟨rfl,hbf⟩))
 have hbf':Below w1.heap.size w1 w4:=⟨hbf.os,hbf.tape,hbf.output,hbf.size,hbf.block⟩;have h4:=h1.of_below hbf';have k4:=k1.trans (Kept.of_below hbf');have d1:=h4.c1;have d2:=h4.c2;have g1:=h4.f1;have g2:=h4.f2;clear c0 c1 cr;go_wp2;go_ret;exact⟨rfl,h4.bad,k4.setCell _ _⟩
theorem a8I(h:a1b ws.length nx wr=false):tkB ws nx wr B=false:=by simp[tkB,h]
theorem a7h{b:Bool}(h:a1b ws.length nx wr=true)(hlt:nx<ws.length)(hb:B ws[nx]=b):tkB ws nx wr B=b:=by
 rw[tkB,h,a5f ws nx hlt,hb,Bool.true_and]
theorem b4t(R A:Nat)(ws:List ByteArray)(nx:Nat)(wr:Bool)(w:World)(h:RS w R A ws nx wr):
  Calls Tryz.prog 135 #[.pointer (some ⟨R,0,none⟩),.func (.func 139) #[] #[]] w fun e w'=>e=.returned (.int .i64 (tkV ws nx wr (fun s=>Txt.isNum s.data.toList) (fun s=>Txt.a2f s.data.toList)))/\RS w' R A ws (tkN ws nx wr (fun s=>Txt.isNum s.data.toList)) (tkW ws nx wr (fun s=>Txt.isNum s.data.toList))/\Kept R w w':=by
 cases hm:a1b ws.length nx wr
 ·have t:=a8I (B:=(fun s=>Txt.isNum s.data.toList)) hm;rw[tkV,tkN,tkW,t];exact a3s _ R A ws nx wr w h hm
 ·have hlt:=a4q hm
  cases hb:(fun s=>Txt.isNum s.data.toList) ws[nx]
  ·have t:=a7h (B:=(fun s=>Txt.isNum s.data.toList)) hm hlt hb;rw[tkV,tkN,tkW,t];exact b7O R A ws nx wr w h hm hlt (small (h.short _ (zg hlt))) hb
  ·have t:=a7h (B:=(fun s=>Txt.isNum s.data.toList)) hm hlt hb;rw[tkV,tkN,tkW,t,a5f ws nx hlt];exact b7N R A ws nx wr w h hm hlt (small (h.short _ (zg hlt))) hb
theorem a7V(R A:Nat)(ws:List ByteArray)(nx:Nat)(wr:Bool)(w:World)(h:RS w R A ws nx wr)(he:Env w):
  Calls Tryz.prog 135 #[.pointer (some ⟨R,0,none⟩),.func (.func 140) #[] #[]] w fun e w'=>e=.returned (.int .i64 (tkV ws nx wr a0n a1J))/\RS w' R A ws (tkN ws nx wr a0n) (tkW ws nx wr a0n)/\Kept R w w':=by
 cases hm:a1b ws.length nx wr
 ·have t:=a8I (B:=a0n) hm;rw[tkV,tkN,tkW,t];exact a3s _ R A ws nx wr w h hm
 ·have hlt:=a4q hm
  cases hb:a0n ws[nx]
  ·have t:=a7h (B:=a0n) hm hlt hb;rw[tkV,tkN,tkW,t];exact b4q R A ws nx wr w h he hm hlt hb
  ·have t:=a7h (B:=a0n) hm hlt hb;rw[tkV,tkN,tkW,t,a5f ws nx hlt];exact b4p R A ws nx wr w h he hm hlt hb
theorem b0b(L M:Nat)(lo hi:Int)(R A:Nat)(ws:List ByteArray)(nx:Nat)(wr:Bool)(w:World)(h:RS w R A ws nx wr)(cl:w.cell? ⟨L,0,none⟩=some (.int .i64 lo))(cm:w.cell? ⟨M,0,none⟩=some (.int .i64 hi)):
  Calls Tryz.prog 135 #[.pointer (some ⟨R,0,none⟩),.func (.func 191) #[] #[.pointer (some ⟨L,0,none⟩),.pointer (some ⟨M,0,none⟩)]] w fun e w'=>e=.returned (.int .i64 (tkV ws nx wr (fun s=>a0K s lo hi) (fun s=>Txt.a2f s.data.toList)))/\RS w' R A ws (tkN ws nx wr (fun s=>a0K s lo hi)) (tkW ws nx wr (fun s=>a0K s lo hi))/\Kept R w w':=by
 cases hm:a1b ws.length nx wr
 ·have t:=a8I (B:=(fun s=>a0K s lo hi)) hm;rw[tkV,tkN,tkW,t];exact a3s _ R A ws nx wr w h hm
 ·have hlt:=a4q hm
  cases hb:(fun s=>a0K s lo hi) ws[nx]
  ·have t:=a7h (B:=(fun s=>a0K s lo hi)) hm hlt hb;rw[tkV,tkN,tkW,t];exact b1s L M lo hi R A ws nx wr w h cl cm hm hlt hb
  ·have t:=a7h (B:=(fun s=>a0K s lo hi)) hm hlt hb;rw[tkV,tkN,tkW,t,a5f ws nx hlt];exact b1r L M lo hi R A ws nx wr w h cl cm hm hlt hb
def tkS(ws:List ByteArray)(nx:Nat)(wr:Bool):ByteArray:=if tkB ws nx wr (fun s=>Txt.a1j s.data.toList) then b4S (ws.getD nx ByteArray.empty) else ⟨#[]⟩
theorem b2E(R A:Nat)(ws:List ByteArray)(nx:Nat)(wr:Bool)(w:World)(h:RS w R A ws nx wr):
  Calls Tryz.prog 130 #[.pointer (some ⟨R,0,none⟩),.func (.func 131) #[] #[]] w fun e w'=>e=.returned (.string (tkS ws nx wr))/\RS w' R A ws (tkN ws nx wr (fun s=>Txt.a1j s.data.toList)) (tkW ws nx wr (fun s=>Txt.a1j s.data.toList))/\Kept R w w':=by
 cases hm:a1b ws.length nx wr
 ·have t:=a8I (B:=fun s=>Txt.a1j s.data.toList) hm;rw[tkS,tkN,tkW,t];exact b4r _ R A ws nx wr w h hm
 ·have hlt:=a4q hm
  cases hb:Txt.a1j ws[nx].data.toList
  ·have t:=a7h (B:=fun s=>Txt.a1j s.data.toList) hm hlt hb;rw[tkS,tkN,tkW,t];exact b4v R A ws nx wr w h hm hlt hb
  ·have t:=a7h (B:=fun s=>Txt.a1j s.data.toList) hm hlt hb;rw[tkS,tkN,tkW,t,a5f ws nx hlt];exact b4u R A ws nx wr w h hm hlt hb
theorem a4n(lo hi:Int)(R A:Nat)(ws:List ByteArray)(nx:Nat)(wr:Bool)(w:World)(h:RS w R A ws nx wr):
  Calls Tryz.prog 132 #[.pointer (some ⟨R,0,none⟩),.int .i64 lo,.int .i64 hi] w fun e w'=>e=.returned (.int .i64 (tkV ws nx wr (fun s=>a0K s lo hi) (fun s=>Txt.a2f s.data.toList)))/\RS w' R A ws (tkN ws nx wr (fun s=>a0K s lo hi)) (tkW ws nx wr (fun s=>a0K s lo hi))/\Kept R w w':=by
 go_enter Tryz.func132,Tryz.ntmps132
 go_wp2_with fail
 obtain⟨X,hX⟩:∃ X,X=(w.alloc (.cells #[.int .i64 lo] 3)).alloc (.cells #[.int .i64 hi] 3):=⟨_,rfl⟩;rw[<- hX];have hb:Below w.heap.size w X:=by rw[hX];exact ((zr _ _).alloc (zq _) _).alloc (by simp) _
 have cl:X.cell? ⟨w.heap.size,0,none⟩=some (.int .i64 lo):=by rw[hX];simp
 have cm:X.cell? ⟨w.heap.size+1,0,none⟩=some (.int .i64 hi):=by rw[hX];simp
 clear hX;refine (b0b w.heap.size (w.heap.size+1) lo hi R A ws nx wr X (h.of_below hb) cl cm).mono ?_;rintro e w1 ⟨rfl,h1,k1⟩;have kk:=(Kept.of_below (R:=R) hb).trans k1;go_wp2;go_ret;exact⟨rfl,h1,kk⟩
theorem a3v(R A:Nat)(ws:List ByteArray)(nx:Nat)(wr:Bool)(w:World)(h:RS w R A ws nx wr):
  Calls Tryz.prog 83 #[.pointer (some ⟨R,0,none⟩)] w fun e w'=>e=.returned (.string (tkS ws nx wr))/\RS w' R A ws (tkN ws nx wr (fun s=>Txt.a1j s.data.toList)) (tkW ws nx wr (fun s=>Txt.a1j s.data.toList))/\Kept R w w':=by
 go_enter Tryz.func83,Tryz.ntmps83
 go_wp2_with fail
 refine (b2E R A ws nx wr w h).mono ?_;rintro e w1 ⟨rfl,h1,k1⟩;go_wp2;go_ret;exact⟨rfl,h1,k1⟩
theorem b9J(R A:Nat)(ws:List ByteArray)(nx:Nat)(wr:Bool)(w:World)(h:RS w R A ws nx wr):
  Calls Tryz.prog 88 #[.pointer (some ⟨R,0,none⟩)] w fun e w'=>e=.returned (.int .i64 (tkV ws nx wr (fun s=>Txt.isNum s.data.toList) (fun s=>Txt.a2f s.data.toList)))/\RS w' R A ws (tkN ws nx wr (fun s=>Txt.isNum s.data.toList)) (tkW ws nx wr (fun s=>Txt.isNum s.data.toList))/\Kept R w w':=by
 go_enter Tryz.func88,Tryz.ntmps88
 go_wp2_with fail
 refine (b4t R A ws nx wr w h).mono ?_;rintro e w1 ⟨rfl,h1,k1⟩;go_wp2;go_ret;exact⟨rfl,h1,k1⟩
theorem a5v(R A:Nat)(ws:List ByteArray)(nx:Nat)(wr:Bool)(w:World)(h:RS w R A ws nx wr):
  Calls Tryz.prog 84 #[.pointer (some ⟨R,0,none⟩)] w fun e w'=>e=.returned (.int .i64 (tkV ws nx wr (fun s=>a0K s 1 9) (fun s=>Txt.a2f s.data.toList)))/\RS w' R A ws (tkN ws nx wr (fun s=>a0K s 1 9)) (tkW ws nx wr (fun s=>a0K s 1 9))/\Kept R w w':=by
 go_enter Tryz.func84,Tryz.ntmps84
 go_wp2_with fail
 refine (a4n 1 9 R A ws nx wr w h).mono ?_;rintro e w1 ⟨rfl,h1,k1⟩;go_wp2;go_ret;exact⟨rfl,h1,k1⟩
theorem a2S(R A:Nat)(ws:List ByteArray)(nx:Nat)(wr:Bool)(w:World)(h:RS w R A ws nx wr):
  Calls Tryz.prog 86 #[.pointer (some ⟨R,0,none⟩)] w fun e w'=>e=.returned (.int .i64 (tkV ws nx wr (fun s=>a0K s 1 1048320) (fun s=>Txt.a2f s.data.toList)))/\RS w' R A ws (tkN ws nx wr (fun s=>a0K s 1 1048320)) (tkW ws nx wr (fun s=>a0K s 1 1048320))/\Kept R w w':=by
 go_enter Tryz.func86,Tryz.ntmps86
 go_wp2_with fail
 refine (a4n 1 1048320 R A ws nx wr w h).mono ?_;rintro e w1 ⟨rfl,h1,k1⟩;go_wp2;go_ret;exact⟨rfl,h1,k1⟩
theorem RS.other(h:RS w R A ws nx wr)(hR:b≠R)(hA:0<ws.length->b≠A):RS (w.setCell ⟨b,o,none⟩ v) R A ws nx wr:=by
 have g:∀ j:Nat,(w.setCell ⟨b,o,none⟩ v).cell? ⟨R,j,none⟩=w.cell? ⟨R,j,none⟩:=fun j=>World.cell?_setCell_far w ⟨b,o,none⟩ ⟨R,j,none⟩ v hR
 refine⟨(g 0).trans h.c0,(g 1).trans h.c1,(g 2).trans h.c2,(zF ..).trans h.f1,(zF ..).trans h.f2,h.ne,fun i hi=>?_,h.len,h.c6c,h.short⟩;exact (World.cell?_setCell_far w ⟨b,o,none⟩ ⟨A,i,none⟩ v (hA (by omega))).trans (h.rows i hi)
theorem RS.lt(h:RS w R A ws nx wr):R<w.heap.size/\(0<ws.length->A<w.heap.size) :=
 ⟨World.block_lt_of_cell? _ ⟨R,0,none⟩ h.c0,fun hl=>World.block_lt_of_cell? _ ⟨A,0,none⟩ (h.rows 0 hl)⟩
theorem Kept.setNew(h:Kept R w w')(hb:w.heap.size<=b)(v:Value):Kept R w (w'.setCell ⟨b,o,none⟩ v) :=
 ⟨(Below.setCell (B:=0) (Below.refl 0 w') (p:=⟨b,o,none⟩) (zN _) v).os.trans h.os,(Below.setCell (B:=0) (Below.refl 0 w') (p:=⟨b,o,none⟩) (zN _) v).tape.trans h.tape,(Below.setCell (B:=0) (Below.refl 0 w') (p:=⟨b,o,none⟩) (zN _) v).output.trans h.output,Nat.le_trans h.size (Below.setCell (B:=0) (Below.refl 0 w') (p:=⟨b,o,none⟩) (zN _) v).size,fun k hk hr=>(Below.heap_setCell w' ⟨b,o,none⟩ v k (show k≠b by omega)).trans (h.block k hk hr)⟩
theorem Kept.frozen(h:Kept R w w')(hne:b≠R)(hb:b<w.heap.size):w'.frozen? ⟨b,o,none⟩=w.frozen? ⟨b,o,none⟩:=World.frozen?_of_block (w:=w) (h.block b hb hne)
def tN2(ws:List ByteArray)(nx:Nat)(wr:Bool)(B C:ByteArray->Bool):Nat:=tkN ws (tkN ws nx wr B) (tkW ws nx wr B) C
def tW2(ws:List ByteArray)(nx:Nat)(wr:Bool)(B C:ByteArray->Bool):Bool:=tkW ws (tkN ws nx wr B) (tkW ws nx wr B) C
theorem a6F(R A:Nat)(ws:List ByteArray)(nx:Nat)(wr:Bool)(w:World)(h:RS w R A ws nx wr)(he:Env w)(hR:10<=R):
  Calls Tryz.prog 90 #[.pointer (some ⟨R,0,none⟩)] w fun e w'=>e=.returned (.agg #[.int .i64 (tkV ws nx wr a0n a1J),.int .i64 (tkV ws (tkN ws nx wr a0n) (tkW ws nx wr a0n) a0n a1J)])/\RS w' R A ws (tN2 ws nx wr a0n a0n) (tW2 ws nx wr a0n a0n)/\Kept R w w':=by
 have HE:=hide he;clear he
 go_enter Tryz.func90,Tryz.ntmps90
 go_wp2_with fail
 obtain⟨hRl,hAl⟩:=h.lt;obtain⟨X,hX⟩:∃ X,X=w.alloc (.cells #[.int .i64 0,.int .i64 0] 60):=⟨_,rfl⟩;rw[<- hX];have hb:Below w.heap.size w X:=by rw[hX];exact (zr _ _).alloc (zq _) _
 have x0:X.cell? ⟨w.heap.size,0,none⟩=some (.int .i64 0):=by rw[hX];simp
 have x1:X.cell? ⟨w.heap.size,1,none⟩=some (.int .i64 0):=by rw[hX];simp
 have xf:∀ j:Nat,X.frozen? ⟨w.heap.size,j,none⟩=false:=fun j=>by rw[hX];simp
 have xs:w.heap.size<X.heap.size:=by rw[hX];simp
 clear hX;have eX:=(a0d HE).later hb;refine (a7V R A ws nx wr X (h.of_below hb) eX).mono ?_;rintro e w1 ⟨rfl,h1,k1⟩;have e1:=eX.kept k1 hR
 go_wp2_with fail
 refine (a7V R A ws _ _ w1 h1 e1).mono ?_;rintro e w2 ⟨rfl,h2,k2⟩;have k12:=k1.trans k2;have y0:=k12.cell (b:=w.heap.size) (o:=0) (by omega) x0;have y1:=k12.cell (b:=w.heap.size) (o:=1) (by omega) x1;have yf:∀ j:Nat,w2.frozen? ⟨w.heap.size,j,none⟩=false:=fun j=>(k12.frozen (by omega) xs).trans (xf j)
 have kk:=(Kept.of_below (R:=R) hb).trans k12;have H2:=hide h2;clear h1 h2 e1 eX x0 x1 xf;go_wp2;refine bodyPost_ret (v:=.agg #[.int .i64 (tkV ws nx wr a0n a1J),.int .i64 (tkV ws (tkN ws nx wr a0n) (tkW ws nx wr a0n) a0n a1J)]) (by simp[results,Tryz.results90,go_sem,y0,y1]) rfl ⟨rfl,?_,?_⟩
 ·exact ((a0d H2).other (by omega) (fun hl=>by have:=hAl hl;omega)).other (by omega) (fun hl=>by have:=hAl hl;omega)
 ·exact (kk.setNew (zq _) _).setNew (zq _) _
def nmB(s:ByteArray):Bool:=Txt.a1j s.data.toList
def unB(s:ByteArray):Bool:=a0K s 1 9
def nvF(s:ByteArray):Int:=Txt.a2f s.data.toList
def stp(ws:List ByteArray)(B:ByteArray->Bool)(st:Nat × Bool):Nat × Bool:=(tkN ws st.1 st.2 B,tkW ws st.1 st.2 B)
def a0M(ws:List ByteArray)(Bs:List (ByteArray->Bool))(st:Nat × Bool):Nat × Bool:=Bs.foldl (fun st B=>stp ws B st) st
def a2F(ws:List ByteArray)(st:Nat × Bool):ByteArray:=tkS ws st.1 st.2
def a0v(ws:List ByteArray)(st:Nat × Bool)(B:ByteArray->Bool)(V:ByteArray->Int):Int:=tkV ws st.1 st.2 B V
theorem a7w(R A:Nat)(ws:List ByteArray)(st:Nat × Bool)(w:World)(h:RS w R A ws st.1 st.2)(he:Env w)(hR:10<=R):
  Calls Tryz.prog 85 #[.pointer (some ⟨R,0,none⟩)] w fun e w' =>
   e=.returned (.agg #[.string (a2F ws st),.int .i64 (a0v ws (a0M ws [nmB] st) unB nvF),.int .i64 (a0v ws (a0M ws [nmB,unB] st) a0n a1J),.int .i64 (a0v ws (a0M ws [nmB,unB,a0n] st) a0n a1J)]) /\
   RS w' R A ws (a0M ws [nmB,unB,a0n,a0n] st).1 (a0M ws [nmB,unB,a0n,a0n] st).2/\Kept R w w':=by
 have HE:=hide he;clear he
 go_enter Tryz.func85,Tryz.ntmps85
 go_wp2_with fail
 obtain⟨hRl,hAl⟩:=h.lt;obtain⟨X,hX⟩:∃ X,X=w.alloc (.cells #[.string ⟨#[]⟩,.int .i64 0,.int .i64 0,.int .i64 0] 151):=⟨_,rfl⟩;rw[<- hX];have hb:Below w.heap.size w X:=by rw[hX];exact (zr _ _).alloc (zq _) _
 have x0:X.cell? ⟨w.heap.size,0,none⟩=some (.string ⟨#[]⟩):=by rw[hX];simp
 have x1:X.cell? ⟨w.heap.size,1,none⟩=some (.int .i64 0):=by rw[hX];simp
 have x2:X.cell? ⟨w.heap.size,2,none⟩=some (.int .i64 0):=by rw[hX];simp
 have x3:X.cell? ⟨w.heap.size,3,none⟩=some (.int .i64 0):=by rw[hX];simp
 have xf:∀ j:Nat,X.frozen? ⟨w.heap.size,j,none⟩=false:=fun j=>by rw[hX];simp
 have xs:w.heap.size<X.heap.size:=by rw[hX];simp
 clear hX;have eX:=(a0d HE).later hb;refine (a3v R A ws st.1 st.2 X (h.of_below hb)).mono ?_;rintro e w1 ⟨rfl,h1,k1⟩;have e1:=eX.kept k1 hR
 go_wp2_with fail
 refine (a5v R A ws _ _ w1 h1).mono ?_;rintro e w2 ⟨rfl,h2,k2⟩;have e2:=e1.kept k2 hR
 go_wp2_with fail
 refine (a6F R A ws _ _ w2 h2 e2 hR).mono ?_;rintro e w3 ⟨rfl,h3,k3⟩;have k13:=(k1.trans k2).trans k3;have y0:=k13.cell (b:=w.heap.size) (o:=0) (by omega) x0;have y1:=k13.cell (b:=w.heap.size) (o:=1) (by omega) x1;have y2:=k13.cell (b:=w.heap.size) (o:=2) (by omega) x2;have y3:=k13.cell (b:=w.heap.size) (o:=3) (by omega) x3;have yf:∀ j:Nat,w3.frozen? ⟨w.heap.size,j,none⟩=false:=fun j=>(k13.frozen (by omega) xs).trans (xf j)
 have kk:=(Kept.of_below (R:=R) hb).trans k13;have H3:=hide h3;clear h1 h2 h3 e1 e2 eX x0 x1 x2 x3 xf;go_wp2;refine bodyPost_ret (v:=.agg #[.string (a2F ws st),.int .i64 (a0v ws (a0M ws [nmB] st) unB nvF),.int .i64 (a0v ws (a0M ws [nmB,unB] st) a0n a1J),.int .i64 (a0v ws (a0M ws [nmB,unB,a0n] st) a0n a1J)]) (by simp[results,Tryz.results85,go_sem,y0,y1,y2,y3];exact⟨rfl,rfl,rfl,rfl⟩) rfl ⟨rfl,?_,?_⟩
 ·exact ((((a0d H3).other (by omega) (fun hl=>by have:=hAl hl;omega)).other (by omega) (fun hl=>by have:=hAl hl;omega)).other (by omega) (fun hl=>by have:=hAl hl;omega)).other (by omega) (fun hl=>by have:=hAl hl;omega)
 ·exact (((kk.setNew (zq _) _).setNew (zq _) _).setNew (zq _) _).setNew (zq _) _
end Go.Proofs.YtfigmlfdnickmaaGreatDoor
