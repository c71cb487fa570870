import Derived.Test.YtfigmlfdnickmaaGreatDoorL01
import Derived.Test.YtfigmlfdnickmaaGreatDoorShelf
import Derived.Lib.SmallJoins
import Derived.Lib.FieldsP
import Derived.Lib.Split
import Derived.Lib.SplitLaws
set_option maxRecDepth 100000
set_option maxHeartbeats 8000000
variable{s:ByteArray}{acc:List Int}{l:List UInt8}{b hi k lo:Nat}{v:Go.Value}{w wx:Go.World}
namespace Go.Proofs.YtfigmlfdnickmaaGreatDoor
open Go.RowKit
structure Env(w:World):Prop where
 tab:Tab w
 c5L:∃ m,w.cell? ⟨2,0,none⟩=some (.int .i64 m)
 pow : Lib.TabIs Tryz.prog w "internal/strconv.uint64pow10" .u64 Lib.pow10Tab
 size:10<=w.heap.size
 mo:w.cell? ⟨3,0,none⟩=some (.string ⟨#[109,111]⟩)
 tu:w.cell? ⟨3,1,none⟩=some (.string ⟨#[116,117]⟩)
 we:w.cell? ⟨3,2,none⟩=some (.string ⟨#[119,101]⟩)
 th:w.cell? ⟨3,3,none⟩=some (.string ⟨#[116,104]⟩)
 fr:w.cell? ⟨3,4,none⟩=some (.string ⟨#[102,114]⟩)
 sa:w.cell? ⟨3,5,none⟩=some (.string ⟨#[115,97]⟩)
 su:w.cell? ⟨3,6,none⟩=some (.string ⟨#[115,117]⟩)
theorem c6q : Tryz.prog.globalNamed "internal/strconv.uint64pow10" = some 0 := by kernel_rfl
theorem Env.later(h:Env w)(hb:Below w.heap.size w wx):Env wx:=by
 obtain⟨m,hm⟩:=h.c5L;refine⟨h.tab.later hb,⟨m,cell_later hb hm⟩,?_,Nat.le_trans h.size hb.size,cell_later hb h.mo,cell_later hb h.tu,cell_later hb h.we,cell_later hb h.th,cell_later hb h.fr,cell_later hb h.sa,cell_later hb h.su⟩;have hp:=h.pow;have hz:=h.size;unfold Lib.TabIs World.var? at hp ⊢;simp only[c6q,Option.bind_some] at hp ⊢;rw[hb.block 0 (by omega)];exact hp
theorem Env.drewN(h:Env w)(n:Nat):Env (w.drewN n):=h.later (w:=w) (wx:=w.drewN n) ⟨rfl,rfl,rfl,Nat.le_refl _,fun _ _=>rfl⟩
theorem b1z{a b:ByteArray}{c d:Bool}(h:a=b)(g:c=d):Ending.returned (.tuple #[.string a,.bool c])=.returned (.tuple #[.string b,.bool d]):=by rw[h,g]
theorem b3Q(s:ByteArray)(w:World)(hs:s.size<=281474976710656):
  Calls Tryz.prog 142 #[.string s] w fun e w'=>e=.returned (.string s)/\Below w.heap.size w w':=by
 go_enter Tryz.func142,Tryz.ntmps142
 go_wp2_with fail
 refine (Tryz.stringslite_Clone s w hs).mono ?_;rintro e w' ⟨rfl,hb⟩;go_wp2;go_ret;exact⟨rfl,hb⟩
def b4S(s:ByteArray):ByteArray:=if Txt.a1j s.data.toList then s else ⟨#[]⟩
theorem a8a(s:ByteArray)(w:World)(hs:s.size<=160):
  Calls Tryz.prog 131 #[.string s] w fun e w'=>e=.returned (.tuple #[.string (b4S s),.bool (Txt.a1j s.data.toList)])/\Below w.heap.size w w':=by
 by_cases h0:s.size=0
 ·have H:Hid (Txt.a1j s.data.toList=false):=Txt.b0K (by rw[Txt.a1d];omega);have h1:((s.size:Int)==0)=true:=beq_iff_eq.2 (by omega)
  go_enter Tryz.func131,Tryz.ntmps131
  go_wp2;go_ret2;exact⟨b1z (by simp[b4S,H.out]) (by rw[H.out]),Below.refl _ _⟩
 ·have h1:((s.size:Int)==0)=false:=beq_eq_false_iff_ne.2 (by omega)
  by_cases h7:8<s.size
  ·have H:Hid (Txt.a1j s.data.toList=false):=Txt.b0K (by rw[Txt.a1d];omega);clear h0
   go_enter Tryz.func131,Tryz.ntmps131
   go_wp2;go_ret2;exact⟨b1z (by simp[b4S,H.out]) (by rw[H.out]),Below.refl _ _⟩
  ·go_enter Tryz.func131,Tryz.ntmps131
   go_wp2
   go_loop [4] (fun i=>∃ k:Nat,k<=s.size/\i=.int .i64 k/\Txt.c1M (s.data.toList.take k)=true) (fun i=>s.size-(intOf i).toNat)
   case atStart=>exact⟨0,Nat.zero_le _,rfl,rfl⟩
   case round =>
    obtain⟨k,hk,rfl,hd⟩:=hrel;have HD:=hide hd;clear hd
    by_cases hlt:k<s.size
    ·have HT:Hid (s.data.toList.take (k+1)=s.data.toList.take k++[s[k]]):=Txt.a8N s k hlt
     by_cases hc:Txt.low s[k]=true
     ·have hc':=(Txt.c0s _).1 hc;have HC:=hide hc;obtain⟨hc1,hc2⟩:=hc';clear hc;go_wp2
      go_round
      case rel=>exact⟨k+1,by omega,by go_num,by rw[HT.out,Txt.b3c,HD.out,HC.out];rfl⟩
      case measure=>simp[intOf];omega
     ·have HC:Hid (Txt.a1j s.data.toList=false):=Txt.b8r (Txt.b3d _ (k+1) (by rw[HT.out,Txt.b3c,HD.out];simpa using hc))
      have hc':(s[k].toNat:Int)<97\/(¬ (s[k].toNat:Int)<97/\122<(s[k].toNat:Int)):=by
       have:=mt (Txt.c0s s[k]).2 hc;omega
      clear hc;rcases hc' with hc' |⟨hc',hc''⟩
      all_goals
       go_wp2;go_ret2;exact⟨b1z (by simp[b4S,HC.out]) (by rw[HC.out]),Below.refl _ _⟩
    ·have HA:Hid (s.data.toList.take k=s.data.toList):=Txt.a5t s k (by omega);have HN:Hid (Txt.a1j s.data.toList=true):=Txt.b5b (by rw[Txt.a1d];omega) (by rw[Txt.a1d];omega) (by rw[<- HA.out];exact HD.out)
     go_wp2_with fail
     refine (b3Q s w (by omega)).mono ?_;rintro e w' ⟨rfl,hb⟩;go_wp2;go_ret2;exact⟨b1z (by simp[b4S,HN.out]) (by rw[HN.out]),hb⟩
theorem f4Z(s:ByteArray)(w:World)(hs:s.size<=160):
  Calls Tryz.prog 186 #[.string s] w fun e w'=>e=.returned (.bool (Txt.a1j s.data.toList))/\w'=w:=by
 by_cases h0:s.size<1
 ·have H:Hid (Txt.a1j s.data.toList=false):=Txt.b0K (by rw[Txt.a1d];omega);have h1:((s.size:Int)<1):=by omega
  go_enter Tryz.func186,Tryz.ntmps186
  go_wp2;go_ret;exact⟨a2a (by rw[H.out]),rfl⟩
 ·have h1:¬ ((s.size:Int)<1):=by omega
  by_cases h7:8<s.size
  ·have H:Hid (Txt.a1j s.data.toList=false):=Txt.b0K (by rw[Txt.a1d];omega)
   go_enter Tryz.func186,Tryz.ntmps186
   go_wp2;go_ret;exact⟨a2a (by rw[H.out]),rfl⟩
  ·go_enter Tryz.func186,Tryz.ntmps186
   go_wp2
   go_loop [3] (fun i=>∃ k:Nat,k<=s.size/\i=.int .i64 k/\Txt.c1M (s.data.toList.take k)=true) (fun i=>s.size-(intOf i).toNat)
   case atStart=>exact⟨0,Nat.zero_le _,rfl,rfl⟩
   case round =>
    obtain⟨k,hk,rfl,hd⟩:=hrel;have HD:=hide hd;clear hd
    by_cases hlt:k<s.size
    ·have HT:Hid (s.data.toList.take (k+1)=s.data.toList.take k++[s[k]]):=Txt.a8N s k hlt
     by_cases hc:Txt.low s[k]=true
     ·have hc':=(Txt.c0s _).1 hc;have HC:=hide hc;obtain⟨hc1,hc2⟩:=hc';clear hc;go_wp2
      go_round
      case rel=>exact⟨k+1,by omega,by go_num,by rw[HT.out,Txt.b3c,HD.out,HC.out];rfl⟩
      case measure=>simp[intOf];omega
     ·have HC:Hid (Txt.a1j s.data.toList=false):=Txt.b8r (Txt.b3d _ (k+1) (by rw[HT.out,Txt.b3c,HD.out];simpa using hc))
      have hc':(s[k].toNat:Int)<97\/(¬ (s[k].toNat:Int)<97/\122<(s[k].toNat:Int)):=by
       have:=mt (Txt.c0s s[k]).2 hc;omega
      clear hc;rcases hc' with hc' |⟨hc',hc''⟩
      all_goals
       go_wp2;go_ret;exact⟨a2a (by rw[HC.out]),rfl⟩
    ·have HA:Hid (s.data.toList.take k=s.data.toList):=Txt.a5t s k (by omega);have HN:Hid (Txt.a1j s.data.toList=true):=Txt.b5b (by rw[Txt.a1d];omega) (by rw[Txt.a1d];omega) (by rw[<- HA.out];exact HD.out);go_wp2;go_ret;exact⟨a2a (by rw[HN.out]),rfl⟩
theorem b3K(l:List UInt8):∀ acc:Nat,Txt.a6j l=true->∃ n:Nat,Lib.decFrom acc l=some n/\(n:Int)=l.foldl (fun n c=>n*10+((c.toNat:Int)-48)) (acc:Int):=by
 induction l with
 |nil=>intro acc _;exact⟨acc,rfl,rfl⟩
 |cons c l ih =>
  intro acc h;simp only[Txt.a6j,List.all_cons,Bool.and_eq_true] at h;have hc:=(Txt.a6k c).1 h.1;obtain⟨n,h1,h2⟩:=ih (acc*10+(c.toNat-48)) h.2;refine⟨n,?_,?_⟩
  ·simp only[Lib.decFrom,Lib.digitVal];rw[if_pos (by omega)];exact h1
  ·rw[h2,List.foldl_cons]
   congr 1
   omega
theorem c1z(l:List UInt8)(h:Txt.a6j l=true)(h0:l≠[]):Lib.atoi l=some (Txt.b4R l):=by
 obtain⟨n,h1,h2⟩:=b3K l 0 h
 cases l with
 |nil=>exact absurd rfl h0
 |cons b r =>
  simp only[Txt.a6j,List.all_cons,Bool.and_eq_true] at h;have hb:=(Txt.a6k b).1 h.1
  have b1:(b==45)=false:=by
   rw[beq_eq_false_iff_ne];intro e;subst e;revert hb;decide
  have b2:(b==43)=false:=by
   rw[beq_eq_false_iff_ne];intro e;subst e;revert hb;decide
  simp only[Lib.atoi,b1,b2,Bool.false_eq_true,if_false,Lib.decNat,List.isEmpty_cons,h1,Option.map_some];rw[h2];rfl
def b4g(s:ByteArray)(lo hi:Nat):Int:=if lo<=s.size/\s.size<=hi/\Txt.a6j s.data.toList=true then Txt.b4R s.data.toList else -1
theorem b6z(h:¬ (lo<=s.size/\s.size<=hi)):b4g s lo hi=-1:=by
 unfold b4g;rw[if_neg (fun g=>h ⟨g.1,g.2.1⟩)]
theorem b6A(h:Txt.a6j s.data.toList=false):b4g s lo hi=-1:=by
 unfold b4g;rw[if_neg (fun g=>by rw[h] at g;exact absurd g.2.2 (by decide))]
theorem b6y(h1:lo<=s.size)(h2:s.size<=hi)(h:Txt.a6j s.data.toList=true):b4g s lo hi=Txt.b4R s.data.toList:=by
 unfold b4g;rw[if_pos ⟨h1,h2,h⟩]
theorem b0E(s:ByteArray)(lo hi:Nat)(w:World)(hs:s.size<=160)(hlo:1<=lo)(hhi:hi<=7):
  Calls Tryz.prog 126 #[.string s,.int .i64 lo,.int .i64 hi] w fun e w'=>e=.returned (.int .i64 (b4g s lo hi))/\Below w.heap.size w w':=by
 by_cases h0:s.size<lo
 ·have H:Hid (b4g s lo hi=-1):=b6z (by omega);have h1:((s.size:Int)<(lo:Int)):=by omega
  go_enter Tryz.func126,Tryz.ntmps126
  go_wp2;go_ret;exact⟨a3w (by rw[H.out]),Below.refl _ _⟩
 ·have h1:¬ ((s.size:Int)<(lo:Int)):=by omega
  by_cases h7:hi<s.size
  ·have H:Hid (b4g s lo hi=-1):=b6z (by omega);have h2:((hi:Int)<(s.size:Int)):=by omega
   go_enter Tryz.func126,Tryz.ntmps126
   go_wp2;go_ret;exact⟨a3w (by rw[H.out]),Below.refl _ _⟩
  ·have h2:¬ ((hi:Int)<(s.size:Int)):=by omega
   go_enter Tryz.func126,Tryz.ntmps126
   go_wp2
   go_loop [7] (fun i=>∃ k:Nat,k<=s.size/\i=.int .i64 k/\Txt.a6j (s.data.toList.take k)=true) (fun i=>s.size-(intOf i).toNat)
   case atStart=>exact⟨0,Nat.zero_le _,rfl,rfl⟩
   case round =>
    obtain⟨k,hk,rfl,hd⟩:=hrel;have HD:=hide hd;clear hd
    by_cases hlt:k<s.size
    ·have HT:Hid (s.data.toList.take (k+1)=s.data.toList.take k++[s[k]]):=Txt.a8N s k hlt
     by_cases hc:Txt.dig s[k]=true
     ·have hc':=(Txt.a6k _).1 hc;have HC:=hide hc;obtain⟨hc1,hc2⟩:=hc';clear hc;go_wp2
      go_round
      case rel=>exact⟨k+1,by omega,by go_num,by rw[HT.out,Txt.a6X,HD.out,HC.out];rfl⟩
      case measure=>simp[intOf];omega
     ·have HC:Hid (b4g s lo hi=-1):=b6A (Txt.a8h _ (k+1) (by rw[HT.out,Txt.a6X,HD.out];simpa using hc))
      have hc':(s[k].toNat:Int)<48\/(¬ (s[k].toNat:Int)<48/\57<(s[k].toNat:Int)):=by
       have:=mt (Txt.a6k s[k]).2 hc;omega
      clear hc;rcases hc' with hc' |⟨hc',hc''⟩
      all_goals
       go_wp2;go_ret;exact⟨a3w (by rw[HC.out]),Below.refl _ _⟩
    ·have HA:Hid (s.data.toList.take k=s.data.toList):=Txt.a5t s k (by omega);have hdg:Txt.a6j s.data.toList=true:=by rw[<- HA.out];exact HD.out
     have HN:Hid (b4g s lo hi=Txt.b4R s.data.toList):=b6y (by omega) (by omega) hdg;have HE:Hid (Lib.atoi s.data.toList=some (Txt.b4R s.data.toList)):=c1z _ hdg (fun e=>by have:=Txt.a1d s;rw[e] at this;simp at this;omega);clear hdg
     go_wp2_with fail
     refine (Tryz.strconv_Atoi s _ (by omega) HE.out w).mono ?_;rintro e w' ⟨rfl,t,hw⟩;have hb:Below w.heap.size w w':=by rw[hw];exact Joins.below_bytesWorld _ _ _ _ (zq _)
     clear hw;go_wp2;go_ret;exact⟨a3w (by rw[HN.out]),hb⟩
theorem b2L(s:ByteArray)(a b:Nat)(h:s.size<=160):(s.extract a b).size<=160:=by
 have:(s.extract a b).size=min b s.size-a:=ByteArray.size_extract ..;omega
theorem b2K(s:ByteArray)(a b n:Nat)(h:min b s.size-a=n):(s.extract a b).size=n:=(ByteArray.size_extract ..).trans h
theorem b2X(t:ByteArray)(n:Nat)(h:t.size=n)(h1:1<=n)(h7:n<=7):b4g t n n=if Txt.isNum t.data.toList then Txt.a2f t.data.toList else -1:=by
 have hl:=Txt.a1d t
 cases hd:Txt.a6j t.data.toList
 ·rw[b6A hd,Txt.b3q hd];rfl
 ·have hn:Txt.isNum t.data.toList=true:=Txt.b0J (by omega) (by omega) hd;rw[b6y (by omega) (by omega) hd,hn];simp[Txt.a2f,hn]
theorem d5I(t:ByteArray):b4g t 1 7=if Txt.isNum t.data.toList then Txt.a2f t.data.toList else -1:=by
 have hl:=Txt.a1d t
 cases hd:Txt.a6j t.data.toList
 ·rw[b6A hd,Txt.b3q hd];rfl
 ·by_cases h:1<=t.size/\t.size<=7
  ·have hn:Txt.isNum t.data.toList=true:=Txt.b0J (by omega) (by omega) hd;rw[b6y h.1 h.2 hd,hn];simp[Txt.a2f,hn]
  ·rw[b6z h,Txt.b3o (by omega)];rfl
def c5N(s:ByteArray):Int:=if Txt.a3a s then Txt.a6J s else -1
def g2R(s:ByteArray):Int:=if Txt.a5j s=true/\0<=Txt.a2o s/\Txt.a2o s<=728 then Txt.a2o s else -1
theorem b1d(h:Txt.a3a s=false):c5N s=-1:=by simp[c5N,h]
theorem d4C(h:Txt.a5j s=false):g2R s=-1:=by simp[g2R,h]
theorem c5y(s:ByteArray)(w:World)(hm:s.size<=160):
  Calls Tryz.prog 188 #[.string s] w fun e w'=>e=.returned (.int .i64 (c5N s))/\Below w.heap.size w w':=by
 by_cases hs:s.size=5
 ·have h5:((s.size:Int) != 5)=false:=b5z (by omega);have h2n:2<s.size:=by omega
  have h6:(2:Int)<(s.size:Int):=by omega
  have h7:(3:Int)<=(s.size:Int):=by omega
  by_cases hb:Txt.a0V s 2=58
  ·have hc:(((s[2]'h2n).toNat:Int) != 58)=false:=b5z (by rw[<- Txt.a2W];exact hb);have b1:=Txt.a2B (Txt.part s 0 2);have b2:=Txt.a2B (Txt.part s 3 5);have HF:=hide (Txt.b6G hs hb);have e1:b4g (s.extract 0 2) 2 2=if Txt.isNum (Txt.part s 0 2) then Txt.a2f (Txt.part s 0 2) else -1:=b2X _ 2 (b2K _ _ _ _ (by omega)) (by omega) (by omega)
   have e2:b4g (s.extract 3 s.size) 2 2=if Txt.isNum (Txt.part s 3 5) then Txt.a2f (Txt.part s 3 5) else -1:=by
    rw[hs];exact b2X _ 2 (b2K _ _ _ _ (by omega)) (by omega) (by omega)
   have hx:∃ x y:Int,b4g (s.extract 0 2) 2 2=x/\b4g (s.extract 3 s.size) 2 2=y:=⟨_,_,rfl,rfl⟩;obtain⟨x,y,hx,hy⟩:=hx;have bx:-1<=x/\x<=9999999:=by rw[<- hx,e1];split <;> omega
   have by':-1<=y/\y<=9999999:=by rw[<- hy,e2];split <;> omega
   have HR:Hid (c5N s=if x<0\/23<x\/y<0\/59<y then -1 else 60*x+y):=by
    show c5N s=_;rw[<- hx,<- hy,e1,e2,c5N,Txt.a6J,a0d HF]
    cases Txt.isNum (Txt.part s 0 2)
    ·simp
    ·cases Txt.isNum (Txt.part s 3 5)
     ·simp
     ·simp only[Bool.true_and,if_true]
      by_cases g1:Txt.a2f (Txt.part s 0 2)<=23
      ·by_cases g2:Txt.a2f (Txt.part s 3 5)<=59
       ·simp only[g1,g2,decide_true,Bool.and_self,if_true];rw[if_neg (by omega)];omega
       ·simp only[g1,g2,decide_true,decide_false,Bool.and_false,Bool.false_eq_true,if_false];rw[if_pos (by omega)]
      ·simp only[g1,decide_false,Bool.false_and,Bool.false_eq_true,if_false];rw[if_pos (by omega)]
   have HX:=hide hx;have HY:=hide hy;clear e1 e2 hx hy hs hb b1 b2 HF;have hcase:x<0\/(¬ x<0/\23<x)\/(¬ x<0/\¬ 23<x/\y<0)\/(¬ x<0/\¬ 23<x/\¬ y<0/\59<y)\/(¬ x<0/\¬ 23<x/\¬ y<0/\¬ 59<y):=by omega
   rcases hcase with g|⟨g,g'⟩|⟨g,g',g''⟩|⟨g,g',g'',g3⟩|⟨g,g',g'',g3⟩
   all_goals
    go_enter Tryz.func188,Tryz.ntmps188
    go_wp2_with fail
    refine (b0E (s.extract 0 2) 2 2 _ (b2L _ _ _ hm) (by omega) (by omega)).mono ?_;rintro e w1 ⟨rfl,hb1⟩;rw[a0d HX]
    go_wp2_with fail
    refine (b0E (s.extract 3 s.size) 2 2 _ (b2L _ _ _ hm) (by omega) (by omega)).mono ?_;rintro e w2 ⟨rfl,hb2⟩;rw[a0d HY];have hbb:=hb1.trans (hb2.mono hb1.size);go_wp2;go_ret;refine⟨a3w ?_,hbb⟩;rw[HR.out]
    first|rw[if_pos (by omega)]|rw[if_neg (by omega)]
  ·have hc:(((s[2]'h2n).toNat:Int) != 58)=true:=b5y (by rw[<- Txt.a2W];exact hb);have HF:=hide (b1d (Txt.a5D (s:=s) (by omega)));clear hs hb
   go_enter Tryz.func188,Tryz.ntmps188
   go_wp2;go_ret;exact⟨a3w (by rw[a0d HF]),Below.refl _ _⟩
 ·have h5:((s.size:Int) != 5)=true:=b5y (by omega);have HF:=hide (b1d (Txt.a5D (s:=s) (by omega)));clear hs
  go_enter Tryz.func188,Tryz.ntmps188
  go_wp2;go_ret;exact⟨a3w (by rw[a0d HF]),Below.refl _ _⟩
theorem d4B(s:ByteArray)(w:World)(hm:s.size<=160):
  Calls Tryz.prog 187 #[.string s] w fun e w'=>e=.returned (.int .i64 (g2R s))/\Below w.heap.size w w':=by
 by_cases hs:s.size=10
 ·have h5:((s.size:Int) != 10)=false:=b5z (by omega);have h4n:4<s.size:=by omega
  have h7n:7<s.size:=by omega
  have h4:(4:Int)<(s.size:Int):=by omega
  have h7:(7:Int)<(s.size:Int):=by omega
  have h8:(8:Int)<=(s.size:Int):=by omega
  by_cases hb:Txt.a0V s 4=45
  ·have hc:(((s[4]'h4n).toNat:Int) != 45)=false:=b5z (by rw[<- Txt.a2W];exact hb)
   by_cases hd:Txt.a0V s 7=45
   ·have he:(((s[7]'h7n).toNat:Int) != 45)=false:=b5z (by rw[<- Txt.a2W];exact hd);have HF:=hide (Txt.c1h hs hb hd);have e1:b4g (s.extract 0 4) 4 4=if Txt.isNum (Txt.part s 0 4) then Txt.a2f (Txt.part s 0 4) else -1:=b2X _ 4 (b2K _ _ _ _ (by omega)) (by omega) (by omega)
    have e2:b4g (s.extract 5 7) 2 2=if Txt.isNum (Txt.part s 5 7) then Txt.a2f (Txt.part s 5 7) else -1:=b2X _ 2 (b2K _ _ _ _ (by omega)) (by omega) (by omega)
    have e3:b4g (s.extract 8 s.size) 2 2=if Txt.isNum (Txt.part s 8 10) then Txt.a2f (Txt.part s 8 10) else -1:=by
     rw[hs];exact b2X _ 2 (b2K _ _ _ _ (by omega)) (by omega) (by omega)
    have hx:∃ x y z:Int,b4g (s.extract 0 4) 4 4=x/\b4g (s.extract 5 7) 2 2=y/\b4g (s.extract 8 s.size) 2 2=z:=⟨_,_,_,rfl,rfl,rfl⟩;obtain⟨x,y,z,hx,hy,hz⟩:=hx
    have HR:Hid (g2R s=if Cal.ok x y z=true/\0<=Cal.num x y z/\Cal.num x y z<=728 then Cal.num x y z else -1):=by
     show g2R s=_;rw[<- hx,<- hy,<- hz,e1,e2,e3,g2R,Txt.a2o,a0d HF]
     cases Txt.isNum (Txt.part s 0 4)
     ·simp[a5A (y:=-1) (m:=_) (d:=_) (by omega)]
     ·cases Txt.isNum (Txt.part s 5 7)
      ·simp[a5A (y:=_) (m:=-1) (d:=_) (by omega)]
      ·cases Txt.isNum (Txt.part s 8 10)
       ·simp[a5A (y:=_) (m:=_) (d:=-1) (by omega)]
       ·simp only[Bool.true_and,if_true]
        cases Cal.ok (Txt.a2f (Txt.part s 0 4)) (Txt.a2f (Txt.part s 5 7)) (Txt.a2f (Txt.part s 8 10)) <;> simp
    have HX:=hide hx;have HY:=hide hy;have HZ:=hide hz;clear e1 e2 e3 hx hy hz hs hb hd HF
    cases ho:Cal.ok x y z
    ·go_enter Tryz.func187,Tryz.ntmps187
     go_wp2_with fail
     refine (b0E (s.extract 0 4) 4 4 _ (b2L _ _ _ hm) (by omega) (by omega)).mono ?_;rintro e w1 ⟨rfl,hb1⟩;rw[a0d HX]
     go_wp2_with fail
     refine (b0E (s.extract 5 7) 2 2 _ (b2L _ _ _ hm) (by omega) (by omega)).mono ?_;rintro e w2 ⟨rfl,hb2⟩;rw[a0d HY]
     go_wp2_with fail
     refine (b0E (s.extract 8 s.size) 2 2 _ (b2L _ _ _ hm) (by omega) (by omega)).mono ?_;rintro e w3 ⟨rfl,hb3⟩;rw[a0d HZ];have hbb:=(hb1.trans (hb2.mono hb1.size)).trans (hb3.mono (Nat.le_trans hb1.size hb2.size))
     go_wp2_with fail
     refine (f3X _ _ _ _ ho).mono ?_;rintro e w4 ⟨rfl,rfl⟩;go_wp2;go_ret;exact⟨a3w (by rw[HR.out,ho];simp),hbb⟩
    ·have hcase:Cal.num x y z<0\/(¬ Cal.num x y z<0/\728<Cal.num x y z)\/(¬ Cal.num x y z<0/\¬ 728<Cal.num x y z):=by omega
     rcases hcase with g|⟨g,g'⟩|⟨g,g'⟩
     all_goals
      go_enter Tryz.func187,Tryz.ntmps187
      go_wp2_with fail
      refine (b0E (s.extract 0 4) 4 4 _ (b2L _ _ _ hm) (by omega) (by omega)).mono ?_;rintro e w1 ⟨rfl,hb1⟩;rw[a0d HX]
      go_wp2_with fail
      refine (b0E (s.extract 5 7) 2 2 _ (b2L _ _ _ hm) (by omega) (by omega)).mono ?_;rintro e w2 ⟨rfl,hb2⟩;rw[a0d HY]
      go_wp2_with fail
      refine (b0E (s.extract 8 s.size) 2 2 _ (b2L _ _ _ hm) (by omega) (by omega)).mono ?_;rintro e w3 ⟨rfl,hb3⟩;rw[a0d HZ];have hbb:=(hb1.trans (hb2.mono hb1.size)).trans (hb3.mono (Nat.le_trans hb1.size hb2.size))
      go_wp2_with fail
      refine (f1m _ _ _ _ ho).mono ?_;rintro e w4 ⟨rfl,rfl⟩;go_wp2;go_ret;refine⟨a3w ?_,hbb⟩;rw[HR.out]
      first|rw[if_neg (by omega)]|rw[if_pos ⟨ho,by omega,by omega⟩]
   ·have he:(((s[7]'h7n).toNat:Int) != 45)=true:=b5y (by rw[<- Txt.a2W];exact hd);have HF:=hide (d4C (Txt.a6l (s:=s) (by omega)));clear hs hb hd
    go_enter Tryz.func187,Tryz.ntmps187
    go_wp2;go_ret;exact⟨a3w (by rw[a0d HF]),Below.refl _ _⟩
  ·have hc:(((s[4]'h4n).toNat:Int) != 45)=true:=b5y (by rw[<- Txt.a2W];exact hb);have HF:=hide (d4C (Txt.a6l (s:=s) (by omega)));clear hs hb
   go_enter Tryz.func187,Tryz.ntmps187
   go_wp2;go_ret;exact⟨a3w (by rw[a0d HF]),Below.refl _ _⟩
 ·have h5:((s.size:Int) != 10)=true:=b5y (by omega);have HF:=hide (d4C (Txt.a6l (s:=s) (by omega)));clear hs
  go_enter Tryz.func187,Tryz.ntmps187
  go_wp2;go_ret;exact⟨a3w (by rw[a0d HF]),Below.refl _ _⟩
def b0a(s:ByteArray):Int:=if Txt.a2y s then Txt.a2o s else 0
def a8J(s:ByteArray):Int:=if Txt.isNum s.data.toList then Txt.a2f s.data.toList else Txt.dmV s
def a0n(s:ByteArray):Bool:=(Txt.isNum s.data.toList || Txt.dmB s) && decide (0<=a8J s/\a8J s<=1048320)
def a1J(s:ByteArray):Int:=if a0n s then a8J s else 0
def g2T(s:ByteArray):Int:=if a0n s then a8J s else -1
theorem c1o(s:ByteArray)(h:s.size<=160):(Txt.b1a s).size<=160:=by
 rw[<- Txt.a1d];unfold Txt.b1a Lib.cut;have:=Txt.a1d s
 split <;> simp <;> omega
theorem c1n(s:ByteArray)(h:s.size<=160):(Txt.b0Z s).size<=160:=by
 rw[<- Txt.a1d];unfold Txt.b0Z Lib.cut;have:=Txt.a1d s
 split <;> simp <;> omega
theorem a1u(s:ByteArray)(w:World)(he:Env w)(hm:s.size<=160):
  Calls Tryz.prog 196 #[.string s] w fun e w'=>e=.returned (.tuple #[.int .i64 (Txt.dmV s),.bool (Txt.dmB s)])/\∃ n,w'=w.drewN n:=by
 obtain⟨m,hmx⟩:=he.c5L;have HE:=hide he;have HC:=hide (Txt.c6H s);have b1:=Txt.c3w (Txt.b1a s);have b2:=Txt.c4W (Txt.b0Z s);have hA:(Txt.b1a s).size<=maxLen:=by have:=c1o s hm;unfold maxLen;omega
 have hB:(Txt.b0Z s).size<=maxLen:=by have:=c1n s hm;unfold maxLen;omega
 have HA:=hide hA;have HB:=hide hB;clear he hA hB
 cases hf:Txt.c1N s
 ·have HD:Hid (Txt.dmB s=false):=by show Txt.dmB s=false;rw[<- (a0d HC).1,hf];rfl
  go_enter Tryz.func196,Tryz.ntmps196
  go_wp2_with fail
  refine (Tryz.strings_Cut s ⟨#[47]⟩ m w (by omega) hmx).mono ?_;rintro e w1 ⟨rfl,n,rfl⟩;rw[show (Lib.cut s.data.toList (ByteArray.mk #[47]).data.toList).snd.snd=Txt.c1N s from rfl];go_wp2;go_ret2;exact⟨a0A (by simp[Txt.dmV,HD.out]) (by rw[HD.out]),_,rfl⟩
 ·cases hd:Txt.a5j (Txt.b1a s)
  ·have HD:Hid (Txt.dmB s=false):=by show Txt.dmB s=false;rw[<- (a0d HC).1,hf,hd];rfl
   go_enter Tryz.func196,Tryz.ntmps196
   go_wp2_with fail
   refine (Tryz.strings_Cut s ⟨#[47]⟩ m w (by omega) hmx).mono ?_;rintro e w1 ⟨rfl,n,rfl⟩;rw[show (Lib.cut s.data.toList (ByteArray.mk #[47]).data.toList).snd.snd=Txt.c1N s from rfl,show (ByteArray.mk (Lib.cut s.data.toList (ByteArray.mk #[47]).data.toList).fst.toArray)=Txt.b1a s from rfl,show (ByteArray.mk (Lib.cut s.data.toList (ByteArray.mk #[47]).data.toList).snd.fst.toArray)=Txt.b0Z s from rfl]
   go_wp2_with fail
   refine (a1U (Txt.b1a s) _ ((a0d HE).drewN n).tab (a0d HA)).mono ?_;rintro e w1 ⟨rfl,rfl⟩
   go_wp2_with fail
   refine (a2m (Txt.b0Z s) _ (a0d HB)).mono ?_;rintro e w1 ⟨rfl,rfl⟩;go_wp2;go_ret2;exact⟨a0A (by simp[Txt.dmV,HD.out]) (by rw[HD.out]),_,rfl⟩
  ·cases hn:Txt.a3a (Txt.b0Z s)
   ·have HD:Hid (Txt.dmB s=false):=by show Txt.dmB s=false;rw[<- (a0d HC).1,hf,hd,hn];rfl
    go_enter Tryz.func196,Tryz.ntmps196
    go_wp2_with fail
    refine (Tryz.strings_Cut s ⟨#[47]⟩ m w (by omega) hmx).mono ?_;rintro e w1 ⟨rfl,n,rfl⟩;rw[show (Lib.cut s.data.toList (ByteArray.mk #[47]).data.toList).snd.snd=Txt.c1N s from rfl,show (ByteArray.mk (Lib.cut s.data.toList (ByteArray.mk #[47]).data.toList).fst.toArray)=Txt.b1a s from rfl,show (ByteArray.mk (Lib.cut s.data.toList (ByteArray.mk #[47]).data.toList).snd.fst.toArray)=Txt.b0Z s from rfl]
    go_wp2_with fail
    refine (a1U (Txt.b1a s) _ ((a0d HE).drewN n).tab (a0d HA)).mono ?_;rintro e w1 ⟨rfl,rfl⟩
    go_wp2_with fail
    refine (a2m (Txt.b0Z s) _ (a0d HB)).mono ?_;rintro e w1 ⟨rfl,rfl⟩;go_wp2;go_ret2;exact⟨a0A (by simp[Txt.dmV,HD.out]) (by rw[HD.out]),_,rfl⟩
   ·have HD:Hid (Txt.dmB s=true):=by show Txt.dmB s=true;rw[<- (a0d HC).1,hf,hd,hn];rfl
    have HV:=hide ((a0d HC).2 HD.out)
    go_enter Tryz.func196,Tryz.ntmps196
    go_wp2_with fail
    refine (Tryz.strings_Cut s ⟨#[47]⟩ m w (by omega) hmx).mono ?_;rintro e w1 ⟨rfl,n,rfl⟩;rw[show (Lib.cut s.data.toList (ByteArray.mk #[47]).data.toList).snd.snd=Txt.c1N s from rfl,show (ByteArray.mk (Lib.cut s.data.toList (ByteArray.mk #[47]).data.toList).fst.toArray)=Txt.b1a s from rfl,show (ByteArray.mk (Lib.cut s.data.toList (ByteArray.mk #[47]).data.toList).snd.fst.toArray)=Txt.b0Z s from rfl]
    go_wp2_with fail
    refine (a1U (Txt.b1a s) _ ((a0d HE).drewN n).tab (a0d HA)).mono ?_;rintro e w1 ⟨rfl,rfl⟩
    go_wp2_with fail
    refine (a2m (Txt.b0Z s) _ (a0d HB)).mono ?_;rintro e w1 ⟨rfl,rfl⟩;go_wp2;go_ret2;exact⟨a0A (a0d HV) (by rw[HD.out]),_,rfl⟩
theorem b9f(h:Txt.isNum s.data.toList=true):a0n s=decide (Txt.a2f s.data.toList<=1048320)/\a8J s=Txt.a2f s.data.toList:=by
 have b:=Txt.a2B s.data.toList;have e:a8J s=Txt.a2f s.data.toList:=by simp[a8J,h]
 refine⟨?_,e⟩;unfold a0n;rw[e,h,Bool.eq_iff_iff];simp;omega
theorem c1X(h:Txt.isNum s.data.toList=false):a0n s=(Txt.dmB s && decide (0<=Txt.dmV s/\Txt.dmV s<=1048320))/\a8J s=Txt.dmV s:=by
 have e:a8J s=Txt.dmV s:=by simp[a8J,h]
 exact⟨by unfold a0n;rw[e,h];rfl,e⟩
theorem a7Z(s:ByteArray)(w:World)(he:Env w)(hm:s.size<=160):
  Calls Tryz.prog 140 #[.string s] w fun e w'=>e=.returned (.tuple #[.int .i64 (a1J s),.bool (a0n s)])/\∃ n,w'=w.drewN n:=by
 have HE:=hide he;have hm':s.size<=maxLen:=by unfold maxLen;omega
 clear he
 cases hn:Txt.isNum s.data.toList
 ·have HT:=hide (c1X hn)
  cases hd:Txt.dmB s
  ·have HB:Hid (a0n s=false):=by show a0n s=false;rw[(a0d HT).1,hd];rfl
   go_enter Tryz.func140,Tryz.ntmps140
   go_wp2_with fail
   refine (a0m s w hm').mono ?_;rintro e w' ⟨rfl,rfl⟩
   go_wp2_with fail
   refine (a1u s _ (a0d HE) hm).mono ?_;rintro e w1 ⟨rfl,n,rfl⟩;go_wp2;go_ret2;exact⟨a0A (by simp[a1J,HB.out]) (by rw[HB.out]),_,rfl⟩
  ·have hcase:Txt.dmV s<0\/(¬ Txt.dmV s<0/\1048320<Txt.dmV s)\/(¬ Txt.dmV s<0/\¬ 1048320<Txt.dmV s):=by omega
   rcases hcase with g|⟨g,g'⟩|⟨g,g'⟩
   ·have HB:Hid (a0n s=false):=by show a0n s=false;rw[(a0d HT).1,hd,decide_eq_false (by omega)];rfl
    go_enter Tryz.func140,Tryz.ntmps140
    go_wp2_with fail
    refine (a0m s w hm').mono ?_;rintro e w' ⟨rfl,rfl⟩
    go_wp2_with fail
    refine (a1u s _ (a0d HE) hm).mono ?_;rintro e w1 ⟨rfl,n,rfl⟩;go_wp2;go_ret2;exact⟨a0A (by simp[a1J,HB.out]) (by rw[HB.out]),_,rfl⟩
   ·have HB:Hid (a0n s=false):=by show a0n s=false;rw[(a0d HT).1,hd,decide_eq_false (by omega)];rfl
    go_enter Tryz.func140,Tryz.ntmps140
    go_wp2_with fail
    refine (a0m s w hm').mono ?_;rintro e w' ⟨rfl,rfl⟩
    go_wp2_with fail
    refine (a1u s _ (a0d HE) hm).mono ?_;rintro e w1 ⟨rfl,n,rfl⟩;go_wp2;go_ret2;exact⟨a0A (by simp[a1J,HB.out]) (by rw[HB.out]),_,rfl⟩
   ·have HB:Hid (a0n s=true):=by show a0n s=true;rw[(a0d HT).1,hd,decide_eq_true (by omega)];rfl
    have HV:=hide (a0d HT).2
    go_enter Tryz.func140,Tryz.ntmps140
    go_wp2_with fail
    refine (a0m s w hm').mono ?_;rintro e w' ⟨rfl,rfl⟩
    go_wp2_with fail
    refine (a1u s _ (a0d HE) hm).mono ?_;rintro e w1 ⟨rfl,n,rfl⟩;go_wp2;go_ret2;exact⟨a0A (by simp[a1J,HB.out,a0d HV]) (by rw[HB.out]),_,rfl⟩
 ·have HT:=hide (b9f hn);have b:=Txt.a2B s.data.toList
  by_cases g:1048320<Txt.a2f s.data.toList
  ·have HB:Hid (a0n s=false):=by show a0n s=false;rw[(a0d HT).1,decide_eq_false (by omega)]
   go_enter Tryz.func140,Tryz.ntmps140
   go_wp2_with fail
   refine (a0m s w hm').mono ?_;rintro e w' ⟨rfl,rfl⟩;go_wp2;go_ret2;exact⟨a0A (by simp[a1J,HB.out]) (by rw[HB.out]),0,rfl⟩
  ·have HB:Hid (a0n s=true):=by show a0n s=true;rw[(a0d HT).1,decide_eq_true (by omega)]
   have HV:=hide (a0d HT).2
   go_enter Tryz.func140,Tryz.ntmps140
   go_wp2_with fail
   refine (a0m s w hm').mono ?_;rintro e w' ⟨rfl,rfl⟩;go_wp2;go_ret2;exact⟨a0A (by simp[a1J,HB.out,a0d HV]) (by rw[HB.out]),0,rfl⟩
theorem g2f(h:s.size=16):Txt.isNum s.data.toList=false:=Txt.b3o (by rw[Txt.a1d];omega)
theorem g1h(hs:s.size=16)(hb:Txt.a0V s 10=47):g2T s=if g2R (s.extract 0 10)<0\/c5N (s.extract 11 16)<0\/1048320<1440*g2R (s.extract 0 10)+c5N (s.extract 11 16) then -1 else 1440*g2R (s.extract 0 10)+c5N (s.extract 11 16):=by
 have ⟨e1,e2⟩:=c1X (g2f hs);have bm:=Txt.c4W (s.extract 11 16);have bd:=Txt.c3w (s.extract 0 10)
 have hdm:Txt.dmB s=(Txt.a5j (s.extract 0 10) && Txt.a3a (s.extract 11 16)):=by
  rw[Bool.eq_iff_iff];simp[Txt.dmB,hs,hb]
 unfold g2T;rw[e1,e2,Txt.dmV,hdm]
 cases hd:Txt.a5j (s.extract 0 10)
 ·rw[d4C hd];simp
 ·cases hn:Txt.a3a (s.extract 11 16)
  ·rw[b1d hn];simp
  ·have ec:c5N (s.extract 11 16)=Txt.a6J (s.extract 11 16):=by simp[c5N,hn]
   simp only[Bool.and_self,Bool.true_and,if_true,ec,decide_eq_true_eq]
   by_cases g:0<=Txt.a2o (s.extract 0 10)/\Txt.a2o (s.extract 0 10)<=728
   ·have ed:g2R (s.extract 0 10)=Txt.a2o (s.extract 0 10):=by simp[g2R,hd,g]
    rw[ed]
    by_cases q:Txt.a2o (s.extract 0 10)*1440+Txt.a6J (s.extract 11 16)<=1048320
    ·rw[if_pos (by omega),if_neg (by omega)];omega
    ·rw[if_neg (by omega),if_pos (by omega)]
   ·have ed:g2R (s.extract 0 10)=-1:=by unfold g2R;rw[if_neg (fun h=>g h.2)]
    rw[ed,if_neg (by omega),if_pos (by omega)]
theorem e7S(h:¬ (s.size=16/\Txt.a0V s 10=47)):g2T s=if 1048320<b4g s 1 7 then -1 else b4g s 1 7:=by
 have hdm:Txt.dmB s=false:=by
  cases hd:Txt.dmB s
  ·rfl
  ·have:=of_decide_eq_true hd;exact absurd ⟨this.1,this.2.1⟩ h
 rw[d5I]
 cases hn:Txt.isNum s.data.toList
 ·have ⟨e1,e2⟩:=c1X hn;unfold g2T;rw[e1,hdm];simp
 ·have ⟨e1,e2⟩:=b9f hn;unfold g2T;rw[e1,e2]
  by_cases g:Txt.a2f s.data.toList<=1048320
  ·rw[decide_eq_true g];simp;omega
  ·rw[decide_eq_false g];simp;omega
theorem d0T(s:ByteArray)(w:World)(hm:s.size<=160):
  Calls Tryz.prog 127 #[.string s] w fun e w'=>e=.returned (.int .i64 (g2T s))/\Below w.heap.size w w':=by
 by_cases hs:s.size=16
 ·have h5:((s.size:Int)==16)=true:=beq_iff_eq.2 (by omega);have h2n:10<s.size:=by omega
  have h6:(10:Int)<(s.size:Int):=by omega
  have h7:(11:Int)<=(s.size:Int):=by omega
  by_cases hb:Txt.a0V s 10=47
  ·have hc:(((s[10]'h2n).toNat:Int)==47)=true:=beq_iff_eq.2 (by rw[<- Txt.a2W];exact hb);have HR:=hide (g1h hs hb);have hx:∃ x y:Int,g2R (s.extract 0 10)=x/\c5N (s.extract 11 16)=y:=⟨_,_,rfl,rfl⟩;obtain⟨x,y,hx,hy⟩:=hx;have bx:-1<=x/\x<=728:=by rw[<- hx,g2R];split <;> omega
   have by':-1<=y/\y<=1439:=by have:=Txt.c4W (s.extract 11 16);rw[<- hy,c5N];split <;> omega
   have HX:=hide hx;have HY:Hid (c5N (s.extract 11 s.size)=y):=by show c5N (s.extract 11 s.size)=y;rw[hs];exact hy
   have HQ:Hid (g2T s=if x<0\/y<0\/1048320<1440*x+y then -1 else 1440*x+y):=by
    show g2T s=_;rw[a0d HR,hx,hy]
   clear hx hy hs hb HR;have hcase:x<0\/(¬ x<0/\y<0)\/(¬ x<0/\¬ y<0/\1048320<1440*x+y)\/(¬ x<0/\¬ y<0/\¬ 1048320<1440*x+y):=by omega
   rcases hcase with g|⟨g,g'⟩|⟨g,g',g''⟩|⟨g,g',g''⟩
   all_goals
    go_enter Tryz.func127,Tryz.ntmps127
    go_wp2_with fail
    refine (d4B (s.extract 0 10) _ (b2L _ _ _ hm)).mono ?_;rintro e w1 ⟨rfl,hb1⟩;rw[a0d HX]
    go_wp2_with fail
    refine (c5y (s.extract 11 s.size) _ (b2L _ _ _ hm)).mono ?_;rintro e w2 ⟨rfl,hb2⟩;rw[HY.out];have hbb:=hb1.trans (hb2.mono hb1.size);go_wp2;go_ret;refine⟨a3w ?_,hbb⟩;rw[HQ.out]
    first|rw[if_pos (by omega)]|rw[if_neg (by omega)]
  ·have hc:(((s[10]'h2n).toNat:Int)==47)=false:=beq_eq_false_iff_ne.2 (by rw[<- Txt.a2W];exact hb);have HR:=hide (e7S (s:=s) (by omega));clear hs hb;have hx:∃ x:Int,b4g s 1 7=x:=⟨_,rfl⟩;obtain⟨x,hx⟩:=hx;have HX:=hide hx
   have HQ:Hid (g2T s=if 1048320<x then -1 else x):=by
    show g2T s=_;rw[a0d HR,hx]
   clear hx HR
   by_cases g:1048320<x
   all_goals
    go_enter Tryz.func127,Tryz.ntmps127
    go_wp2_with fail
    refine (b0E s 1 7 _ hm (by omega) (by omega)).mono ?_;rintro e w1 ⟨rfl,hb1⟩;rw[a0d HX];go_wp2;go_ret;refine⟨a3w ?_,hb1⟩;rw[HQ.out]
    first|rw[if_pos (by omega)]|rw[if_neg (by omega)]
 ·have h5:((s.size:Int)==16)=false:=beq_eq_false_iff_ne.2 (by omega);have HR:=hide (e7S (s:=s) (by omega));clear hs;have hx:∃ x:Int,b4g s 1 7=x:=⟨_,rfl⟩;obtain⟨x,hx⟩:=hx;have HX:=hide hx
  have HQ:Hid (g2T s=if 1048320<x then -1 else x):=by
   show g2T s=_;rw[a0d HR,hx]
  clear hx HR
  by_cases g:1048320<x
  all_goals
   go_enter Tryz.func127,Tryz.ntmps127
   go_wp2_with fail
   refine (b0E s 1 7 _ hm (by omega) (by omega)).mono ?_;rintro e w1 ⟨rfl,hb1⟩;rw[a0d HX];go_wp2;go_ret;refine⟨a3w ?_,hb1⟩;rw[HQ.out]
   first|rw[if_pos (by omega)]|rw[if_neg (by omega)]
end Go.Proofs.YtfigmlfdnickmaaGreatDoor
namespace Go.Proofs.YtfigmlfdnickmaaGreatDoor.Txt
open Go
def a3H(b:Bool)(pos:Nat)(x:List (Nat × Nat) × Option Nat):List (Nat × Nat) × Option Nat :=
 if b then (match x.2 with|some a=>(x.1++[(a,pos)],none)|none=>(x.1,none)) else (x.1,some (x.2.getD pos))
def spK(s:ByteArray):Nat->List (Nat × Nat) × Option Nat
 |0=>([],none)
 |k+1=>a3H (decide (a0V s k=32)) k (spK s k)
def a1v(s:ByteArray):List ByteArray:=(Lib.closeSpans s (spK s s.size)).map fun x=>s.extract x.1 x.2
theorem b0R(s:ByteArray)(i:Nat)(h:i<s.size):(s.get! i).toNat=(a0V s i).toNat:=by
 unfold a0V;rw[List.getD_eq_getElem?_getD,List.getElem?_eq_getElem (by simpa using h)];simp only[Option.getD_some,Int.toNat_natCast]
 congr 1
 cases s with
 |mk a=>simp only[ByteArray.get!];rw[getElem!_pos a i h];simp
theorem b3J(s:ByteArray)(i:Nat)(h:i<s.size):
  ((s.get! i).toNat<128/\Utf8.decode s i=((s.get! i).toNat,1)) \/
  (128<=(Utf8.decode s i).1/\1<=(Utf8.decode s i).2/\∀ j,j<(Utf8.decode s i).2->128<=(s.get! (i+j)).toNat/\i+j<s.size):=by
 unfold Utf8.decode;simp only[Nat.add_zero]
 by_cases h0:(s.get! i).toNat<128
 ·left;exact⟨h0,by rw[if_pos (by omega)]⟩
 ·right;rw[if_neg (by omega)]
  have one:∀ j,j<1->128<=(s.get! (i+j)).toNat/\i+j<s.size:=fun j hj=>by
   obtain rfl:j=0:=by omega
   exact⟨by simpa using h0,by omega⟩
  split
  ·rename_i hc
   simp only[Bool.and_eq_true,decide_eq_true_eq,beq_iff_eq] at hc
   split
   ·refine⟨by simp only;omega,by simp,fun j hj=>?_⟩;simp only at hj;rcases (show j=0\/j=1 by omega) with rfl|rfl
    ·exact one 0 (by omega)
    ·exact⟨by omega,by omega⟩
   ·exact⟨by simp[Utf8.runeError],by simp,one⟩
  ·split
   ·rename_i hc
    simp only[Bool.and_eq_true,decide_eq_true_eq,beq_iff_eq] at hc
    split
    ·rename_i hv
     simp only[Bool.and_eq_true,decide_eq_true_eq] at hv;refine⟨by simp only;omega,by simp,fun j hj=>?_⟩;simp only at hj;rcases (show j=0\/j=1\/j=2 by omega) with rfl|rfl|rfl
     ·exact one 0 (by omega)
     ·exact⟨by omega,by omega⟩
     ·exact⟨by omega,by omega⟩
    ·exact⟨by simp[Utf8.runeError],by simp,one⟩
   ·split
    ·rename_i hc
     simp only[Bool.and_eq_true,decide_eq_true_eq,beq_iff_eq] at hc
     split
     ·rename_i hv
      simp only[Bool.and_eq_true,decide_eq_true_eq] at hv;refine⟨by simp only;omega,by simp,fun j hj=>?_⟩;simp only at hj;rcases (show j=0\/j=1\/j=2\/j=3 by omega) with rfl|rfl|rfl|rfl
      ·exact one 0 (by omega)
      ·exact⟨by omega,by omega⟩
      ·exact⟨by omega,by omega⟩
      ·exact⟨by omega,by omega⟩
     ·exact⟨by simp[Utf8.runeError],by simp,one⟩
    ·exact⟨by simp[Utf8.runeError],by simp,one⟩
theorem c4C(s:ByteArray)(pos:Nat):∀ n:Nat,(∀ j,j<n+1->a0V s (pos+j)≠32)->spK s (pos+(n+1))=((spK s pos).1,some ((spK s pos).2.getD pos)):=by
 intro n
 induction n with
 |zero =>
  intro h;have:=h 0 (by omega);simp only[Nat.add_zero] at this;show a3H _ pos (spK s pos)=_;rw[decide_eq_false this];rfl
 |succ n ih =>
  intro h;have i:=ih (fun j hj=>h j (by omega));have:=h (n+1) (by omega);show a3H (decide (a0V s (pos+(n+1))=32)) (pos+(n+1)) (spK s (pos+(n+1)))=_;rw[decide_eq_false this,i];rfl
theorem c2l(s:ByteArray):∀ (f pos:Nat),pos<=s.size->s.size-pos<=f->Lib.spansFromP (fun r=>r==32) s f pos (spK s pos).2 (spK s pos).1=spK s s.size:=by
 intro f
 induction f with
 |zero =>
  intro pos h1 h2;obtain rfl:pos=s.size:=by omega
  rfl
 |succ f ih =>
  intro pos h1 h2
  by_cases hlt:pos<s.size
  ·unfold Lib.spansFromP;rw[if_pos hlt];rcases b3J s pos hlt with ⟨hb,hd⟩|⟨hr,hw,hj⟩
   ·rw[hd];simp only;have gb:=b0R s pos hlt;have nb:0<=a0V s pos:=by unfold a0V;omega
    have i:=ih (pos+1) (by omega) (by omega);have st:spK s (pos+1)=a3H (decide (a0V s pos=32)) pos (spK s pos):=rfl
    by_cases h32:a0V s pos=32
    ·have e:((s.get! pos).toNat==32)=true:=by rw[beq_iff_eq];omega
     rw[e,if_pos rfl];rw[decide_eq_true h32] at st
     cases hs:(spK s pos).2 with
     |none=>simp only;rw[st] at i;simp only[a3H,hs,if_true] at i;exact i
     |some a=>simp only;rw[st] at i;simp only[a3H,hs,if_true] at i;exact i
    ·have e:((s.get! pos).toNat==32)=false:=by rw[beq_eq_false_iff_ne];omega
     rw[e,if_neg (by decide)];rw[decide_eq_false h32] at st
     cases hs:(spK s pos).2 with
     |none=>simp only;rw[st] at i;simp only[a3H,hs,Bool.false_eq_true,if_false,Option.getD_none] at i;exact i
     |some a=>simp only;rw[st] at i;simp only[a3H,hs,Bool.false_eq_true,if_false,Option.getD_some] at i;exact i
   ·have e:((Utf8.decode s pos).1==32)=false:=by rw[beq_eq_false_iff_ne];omega
    rw[e,if_neg (by decide)];obtain⟨n,hn⟩:∃ n,(Utf8.decode s pos).2=n+1:=⟨(Utf8.decode s pos).2-1,by omega⟩;have lastj:=hj ((Utf8.decode s pos).2-1) (by omega)
    have st:=c4C s pos n (fun j hjn=>by
     have q:=hj j (by omega);have gb:=b0R s (pos+j) q.2;have nb:0<=a0V s (pos+j):=by unfold a0V;omega
     omega)
    have i:=ih (pos+(n+1)) (by omega) (by omega);rw[st] at i;rw[hn]
    cases hs:(spK s pos).2 with
    |none=>simp only;simp only[hs,Option.getD_none] at i;exact i
    |some a=>simp only;simp only[hs,Option.getD_some] at i;exact i
  ·obtain rfl:pos=s.size:=by omega
   unfold Lib.spansFromP;rw[if_neg hlt]
theorem b3C(s:ByteArray):Lib.goFieldsP (fun r=>r==32) s=a1v s:=by
 unfold Lib.goFieldsP Lib.spansOfP a1v;have:=c2l s s.size 0 (zN _) (by omega);rw[show (spK s 0).2=none from rfl,show (spK s 0).1=[] from rfl] at this;rw[this]
end Go.Proofs.YtfigmlfdnickmaaGreatDoor.Txt
namespace Go.Proofs.YtfigmlfdnickmaaGreatDoor.Txt
open Go
def a8z(s:ByteArray)(k:Nat):ByteArray:=match (spK s k).2 with|none=>⟨#[]⟩|some a=>s.extract a k
def b7w(s:ByteArray)(k:Nat):List ByteArray:=(spK s k).1.map fun x=>s.extract x.1 x.2
theorem b5U(s:ByteArray):∀ (k a:Nat),(spK s k).2=some a->a<k
 |0,a,h=>by simp[spK] at h
 |k+1,a,h=>by
  simp only[spK,a3H] at h
  split at h
  ·split at h <;> simp at h
  ·simp only[Option.some.injEq] at h
   cases hs:(spK s k).2 with
   |none=>rw[hs] at h;simp at h;omega
   |some b=>rw[hs] at h;simp at h;have:=b5U s k b hs;omega
theorem a1X(a b:ByteArray):(a++b).data.toList=a.data.toList++b.data.toList:=by
 rw[ByteArray.data_append,Array.toList_append]
theorem c5l(s:ByteArray)(a k:Nat)(h:a<=k):s.extract a k++s.extract k (k+1)=s.extract a (k+1):=by
 apply a7x;rw[a1X,a3g,a3g,a3g]
 have h1:(s.data.toList.take k).drop a=((s.data.toList.take (k+1)).drop a).take (k-a):=by
  rw[List.drop_take,List.drop_take,List.take_take,show min (k-a) (k+1-a)=k-a from by omega]
 have h2:(s.data.toList.take (k+1)).drop k=((s.data.toList.take (k+1)).drop a).drop (k-a):=by
  rw[List.drop_drop,show a+(k-a)=k from by omega]
 rw[h1,h2,List.take_append_drop]
theorem b7k(s:ByteArray)(k:Nat):(a8z s k).size<=k:=by
 unfold a8z
 split
 ·exact zN _
 ·have:∀ a b,(s.extract a b).size=min b s.size-a:=fun a b=>ByteArray.size_extract ..
  rw[this];omega
theorem c0V(b:ByteArray):(⟨#[]⟩:ByteArray)++b=b:=by
 apply a7x;rw[a1X];rfl
theorem b7l(s:ByteArray)(k:Nat)(h:a0V s k≠32):a8z s k++s.extract k (k+1)=a8z s (k+1)/\b7w s (k+1)=b7w s k:=by
 have e:spK s (k+1)=((spK s k).1,some ((spK s k).2.getD k)):=by simp only[spK,a3H,decide_eq_false h];rfl
 refine⟨?_,by unfold b7w;rw[e]⟩;unfold a8z;rw[e]
 cases hs:(spK s k).2 with
 |none=>simp only[Option.getD_none];exact c0V _
 |some a=>simp only[Option.getD_some];exact c5l s a k (Nat.le_of_lt (b5U s k a hs))
theorem b3O(s:ByteArray)(k:Nat)(hk:k<=s.size)(h:a0V s k=32):a8z s (k+1)=⟨#[]⟩/\b7w s (k+1)=b7w s k++(if (a8z s k).size=0 then [] else [a8z s k]):=by
 have e:spK s (k+1)=a3H true k (spK s k):=by simp only[spK,decide_eq_true h]
 cases hs:(spK s k).2 with
 |none =>
  have e2:spK s (k+1)=((spK s k).1,none):=by rw[e];simp[a3H,hs]
  have c:a8z s k=⟨#[]⟩:=by unfold a8z;rw[hs]
  refine⟨by unfold a8z;rw[e2],?_⟩;rw[c];unfold b7w;rw[e2];simp;rfl
 |some a =>
  have e2:spK s (k+1)=((spK s k).1++[(a,k)],none):=by rw[e];simp[a3H,hs]
  have c:a8z s k=s.extract a k:=by unfold a8z;rw[hs]
  have lt:=b5U s k a hs;have sz:(s.extract a k).size=min k s.size-a:=ByteArray.size_extract ..;refine⟨by unfold a8z;rw[e2],?_⟩;rw[c,if_neg (by omega)];unfold b7w;rw[e2];simp
theorem b2t(s:ByteArray):a1v s=b7w s s.size++(if (a8z s s.size).size=0 then [] else [a8z s s.size]):=by
 unfold a1v b7w a8z Lib.closeSpans
 cases hs:(spK s s.size).2 with
 |none=>simp;rfl
 |some a =>
  have lt:=b5U s _ a hs;have sz:(s.extract a s.size).size=min s.size s.size-a:=ByteArray.size_extract ..;simp only;rw[if_neg (by omega)];simp
theorem b5J(s:ByteArray):∀ k:Nat,(b7w s k).length<=k
 |0=>zq _
 |k+1=>by
  have ih:=b5J s k;unfold b7w at *;rw[List.length_map] at *;simp only[spK,a3H]
  split
  ·split <;> simp <;> omega
  ·simp;omega
end Go.Proofs.YtfigmlfdnickmaaGreatDoor.Txt
namespace Go.Proofs.YtfigmlfdnickmaaGreatDoor
open Go.RowKit
theorem c1x(x:Nat)(w:World):
  Calls Tryz.prog 81 #[.int .i32 x] w fun e w'=>e=.returned (.bool (x==32))/\∃ q,w'=w.drewN q:=by
 go_enter Tryz.func81,Tryz.ntmps81
 go_wp2;go_ret;refine⟨a2a ?_,0,rfl⟩;rw[Bool.eq_iff_iff];simp;omega
theorem b5j(args:Array Value)(w:World):Sem.run Tryz.prog (callFunc 81 args) w=.ok (.enter 81 args) w:=by kernel_rfl
theorem b9v(s:ByteArray)(w:World)(hs:s.size<=160):
  Calls Tryz.prog 61 #[.string s] w fun e w'=>∃ A,e=.returned (.slice (some ⟨A,0,none⟩) (Txt.a1v s).length (Txt.a1v s).length)/\w.heap.size<=A /\
   w'.ownsRow w.heap.size 9 1 (.slice (some ⟨A,0,none⟩) (Txt.a1v s).length (Txt.a1v s).length) (Txt.a1v s).length ((Txt.a1v s).map Value.string)/\Below w.heap.size w w':=by
 have hp:PredAtRunes Tryz.prog 81 #[] (fun r=>r==32) w:=fun W x _ _=>c1x x W
 have HP:=hide hp;clear hp
 go_enter Tryz.func61,Tryz.ntmps61
 go_wp2_with fail
 refine (Tryz.strings_FieldsFunc_runes 81 #[] b5j (fun r=>r==32) s w (by omega) (a0d HP)).mono ?_;rintro e w' ⟨A,rfl,hA,ho,hb⟩;rw[Txt.b3C] at ho ⊢;go_wp2;go_ret;exact⟨A,rfl,hA,ho,hb⟩
theorem toList_data(b:ByteArray):b.toList=b.data.toList:=Lib.toList_data b
theorem d4z{b:ByteArray}(h:b.toList.isEmpty=true):b.size=0:=by
 rw[toList_data,List.isEmpty_iff] at h;rw[<- Txt.a1d,h];rfl
theorem d1p{b:ByteArray}(h:b.toList.isEmpty=false):b.size≠0:=by
 intro e;rw[toList_data,List.isEmpty_eq_false_iff] at h;exact h (List.eq_nil_of_length_eq_zero (by rw[Txt.a1d];exact e))
theorem d0U{base e size n:Nat}{xs:List Value}(h:w.ownsRow base e size v n xs)(hk:v.ownBlock=some k):base<=k:=by
 rcases h.2 with ⟨rfl,_⟩|⟨g,cap,cur,rfl,hb,_⟩
 ·simp[Value.ownBlock] at hk
 ·simp[Value.ownBlock] at hk;omega
theorem e4B:(Tryz.prog.info? 9).map (fun i=>(i.zero,i.size,i.bytes))=some (some (.string ⟨#[]⟩),1,16):=by kernel_rfl
theorem e3b(s:ByteArray)(w:World)(hs:s.size<=160):
  Calls Tryz.prog 59 #[.string s] w fun e w'=>∃ v,e=.returned v/\w'.ownsRow w.heap.size 9 1 v (Txt.a1v s).length ((Txt.a1v s).map Value.string)/\Below w.heap.size w w':=by
 obtain⟨i0,hi,hz0,hz1,hz2⟩:=info_parts e4B
 go_enter Tryz.func59,Tryz.ntmps59
 go_wp2
 go_loopw [3,4,5] (fun v c i wr=>∃ k:Nat,k<=s.size/\i=.int .i64 k/\c=.string (Txt.a8z s k)/\wr.ownsRow w.heap.size 9 1 v (Txt.b7w s k).length ((Txt.b7w s k).map Value.string)/\Below w.heap.size w wr) (fun _ _ i _=>s.size-(intOf i).toNat)
 case atStart=>exact⟨0,Nat.zero_le _,rfl,rfl,World.ownsRow_nil _ _ _ _,Below.refl _ _⟩
 case round =>
  obtain⟨k,hk,rfl,rfl,hown,hnx⟩:=hrel;have cz:=Txt.b7k s k
  by_cases hlt:k<s.size
  ·by_cases hb:Txt.a0V s k=32
   ·have hb':((s[k].toNat:Int)==32)=true:=beq_iff_eq.2 (by rw[<- Txt.a2W];exact hb);have HB:=hide (Txt.b3O s k hk hb);clear hb
    cases he:(Txt.a8z s k).toList.isEmpty
    ·have HE:Hid ((Txt.a8z s k).size≠0):=(d1p he);have hal:=Txt.b5J s k
     go_wp2_with (first
      |(at_builtin;refine wpList_append_own _ rfl _ _ 26 rfl w.heap.size 9 i0 (.string ⟨#[]⟩) 1 16 Tryz.underlying26 hi hz0 hz1 hz2 rfl (by decide) _ _ _ rfl (hown.alloc _) ⟨wr.heap.size,0,none⟩ 1 1 [.string (Txt.a8z s k)] rfl rfl ?c1 ?c2 ?c3 ?c4 ?c5 ?_)
      |go_in)
     case c1=>exact cell_one_new _ _ _
     case c2=>intro u hu;simp at hu;subst hu;rfl
     case c3=>unfold maxLen;omega
     case c4=>omega
     case c5=>have:=hnx.size;simp;omega
     intro v' w1 hown' hgrow _;go_wp2;refine⟨⟨k+1,by omega,by go_num,by rw[(a0d HB).1],?_,?_⟩,by simp[intOf];omega⟩
     ·rw[(a0d HB).2,if_neg HE.out,List.map_append,List.length_append];exact hown'
     ·refine (hnx.alloc hnx.size _).grown hgrow (by have:=hnx.size;simp;omega) (fun k hk=>?_);exact d0U hown hk
    ·have HE:Hid ((Txt.a8z s k).size=0):=(d4z he);go_wp2;exact⟨⟨k+1,by omega,by go_num,by rw[(a0d HB).1],by rw[(a0d HB).2,if_pos HE.out,List.append_nil];exact hown,hnx⟩,by simp[intOf];omega⟩
   ·have hb':((s[k].toNat:Int)==32)=false:=beq_eq_false_iff_ne.2 (by rw[<- Txt.a2W];exact hb);have HB:=hide (Txt.b7l s k hb);clear hb;go_wp2;exact⟨⟨k+1,by omega,by go_num,by rw[(a0d HB).1],by rw[(a0d HB).2];exact hown,hnx⟩,by simp[intOf];omega⟩
  ·obtain rfl:k=s.size:=by omega
   have HW:=hide (Txt.b2t s)
   cases he:(Txt.a8z s s.size).toList.isEmpty
   ·have HE:Hid ((Txt.a8z s s.size).size≠0):=(d1p he);have hal:=Txt.b5J s s.size
    go_wp2_with (first
     |(at_builtin;refine wpList_append_own _ rfl _ _ 26 rfl w.heap.size 9 i0 (.string ⟨#[]⟩) 1 16 Tryz.underlying26 hi hz0 hz1 hz2 rfl (by decide) _ _ _ rfl (hown.alloc _) ⟨wr.heap.size,0,none⟩ 1 1 [.string (Txt.a8z s s.size)] rfl rfl ?c1 ?c2 ?c3 ?c4 ?c5 ?_)
     |go_in)
    case c1=>exact cell_one_new _ _ _
    case c2=>intro u hu;simp at hu;subst hu;rfl
    case c3=>unfold maxLen;omega
    case c4=>omega
    case c5=>have:=hnx.size;simp;omega
    intro v' w1 hown' hgrow _;go_wp2;go_ret;refine⟨v',rfl,?_,?_⟩
    ·rw[a0d HW,if_neg HE.out,List.map_append,List.length_append];exact hown'
    ·refine (hnx.alloc hnx.size _).grown hgrow (by have:=hnx.size;simp;omega) (fun k hk=>?_);exact d0U hown hk
   ·have HE:Hid ((Txt.a8z s s.size).size=0):=(d4z he);go_wp2;go_ret;exact⟨_,rfl,by rw[a0d HW,if_pos HE.out,List.append_nil];exact hown,hnx⟩
end Go.Proofs.YtfigmlfdnickmaaGreatDoor
namespace Go.Proofs.YtfigmlfdnickmaaGreatDoor.Txt
open Go
def wdL(l:List UInt8):Int :=
 if l==[109,111] then 0 else if l==[116,117] then 1 else if l==[119,101] then 2 else if l==[116,104] then 3 else if l==[102,114] then 4 else if l==[115,97] then 5 else if l==[115,117] then 6 else -1
theorem c3Q(l:List UInt8):-1<=wdL l/\wdL l<=6:=by
 unfold wdL;(repeat' split) <;> omega
def a4D(acc:List Int)(d:Int):Option (List Int):=if 0<=d/\acc.contains d=false then some (d :: acc) else none
def onC:List UInt8->List Int->Option (List Int)
 |[a,b],acc=>a4D acc (wdL [a,b])
 |a :: b :: c :: r,acc=>if c=44 then (a4D acc (wdL [a,b])).bind (onC r) else none
 |_,_=>none
theorem f4x:∀ (l:List UInt8)(acc r:List Int),onC l acc=some r->l.length % 3=2
 |[],_,_,h=>by simp[onC] at h
 |[_],_,_,h=>by simp[onC] at h
 |[_,_],_,_,_=>rfl
 |a :: b :: c :: l,acc,r,h=>by
  unfold onC at h
  split at h
  ·simp only[Option.bind_eq_some_iff] at h;obtain⟨x,_,h⟩:=h;have:=f4x l x r h;simp only[List.length_cons];omega
  ·cases h
def onW(s:ByteArray):Option (List Int):=onC s.data.toList []
def onB(s:ByteArray):Bool:=(onW s).isSome
end Go.Proofs.YtfigmlfdnickmaaGreatDoor.Txt
namespace Go.Proofs.YtfigmlfdnickmaaGreatDoor
def isd(acc:List Int)(j:Int):Bool:=acc.contains j
end Go.Proofs.YtfigmlfdnickmaaGreatDoor
namespace Go.Proofs.YtfigmlfdnickmaaGreatDoor
open Go.RowKit
def a3C(k:Nat):List UInt8:=match k with|0=>[109,111]|1=>[116,117]|2=>[119,101]|3=>[116,104]|4=>[102,114]|5=>[115,97]|_=>[115,117]
theorem b4j(hk:k<7)(h:(l==a3C k)=true)(hn:∀ j,j<k->(l==a3C j)=false):Txt.wdL l=k:=by
 have e:=beq_iff_eq.1 h;subst e;rcases (show k=0\/k=1\/k=2\/k=3\/k=4\/k=5\/k=6 by omega) with rfl|rfl|rfl|rfl|rfl|rfl|rfl <;> decide
theorem c4q(hn:∀ j,j<7->(l==a3C j)=false):Txt.wdL l=-1:=by
 have h0:=hn 0 (by omega);have h1:=hn 1 (by omega);have h2:=hn 2 (by omega);have h3:=hn 3 (by omega);have h4:=hn 4 (by omega);have h5:=hn 5 (by omega);have h6:=hn 6 (by omega);simp only[a3C] at h0 h1 h2 h3 h4 h5 h6;simp[Txt.wdL,h0,h1,h2,h3,h4,h5,h6]
theorem a3m(hn:∀ j,j<k->(l==a3C j)=false)(h:(l==a3C k)=false):∀ j,j<k+1->(l==a3C j)=false:=fun j hj=>by
 by_cases e:j=k
 ·subst e;exact h
 ·exact hn j (by omega)
theorem e5W(s:ByteArray)(w:World):
  Calls Tryz.prog 190 #[.string s] w fun e w'=>e=.returned (.int .i64 (Txt.wdL s.data.toList))/\Below w.heap.size w w':=by
 have HL:=hide (toList_data s);have HB:Hid (∀ o,Below w.heap.size w (w.alloc o)):=fun o=>(zr _ _).alloc (zq _) o
 go_enter Tryz.func190,Tryz.ntmps190
 go_wp2
 go_loop [4] (fun i=>∃ k:Nat,k<=7/\i=.int .i64 k/\∀ j,j<k->(s.data.toList==a3C j)=false) (fun i=>7-(intOf i).toNat)
 case atStart=>exact⟨0,by omega,rfl,fun j hj=>absurd hj (by omega)⟩
 case round =>
  obtain⟨k,hk,rfl,hn⟩:=hrel;have HN:=hide hn;clear hn;rcases (show k=0\/k=1\/k=2\/k=3\/k=4\/k=5\/k=6\/k=7 by omega) with rfl|rfl|rfl|rfl|rfl|rfl|rfl|rfl
  ·cases hq:(s.toList==[109,111])
   ·have HQ:Hid ((s.data.toList==a3C 0)=false):=by
     show (s.data.toList==a3C 0)=false;rw[<- a0d HL];exact hq
    go_wp2
    go_round
    case rel=>exact⟨1,by omega,by go_num,a3m (a0d HN) HQ.out⟩
    case measure=>simp[intOf]
   ·have HQ:Hid (Txt.wdL s.data.toList=0):=b4j (k:=0) (by omega) (by rw[<- a0d HL];exact hq) (a0d HN);go_wp2;go_ret;exact⟨a3w (by rw[HQ.out]),HB.out _⟩
  ·cases hq:(s.toList==[116,117])
   ·have HQ:Hid ((s.data.toList==a3C 1)=false):=by
     show (s.data.toList==a3C 1)=false;rw[<- a0d HL];exact hq
    go_wp2
    go_round
    case rel=>exact⟨2,by omega,by go_num,a3m (a0d HN) HQ.out⟩
    case measure=>simp[intOf]
   ·have HQ:Hid (Txt.wdL s.data.toList=1):=b4j (k:=1) (by omega) (by rw[<- a0d HL];exact hq) (a0d HN);go_wp2;go_ret;exact⟨a3w (by rw[HQ.out]),HB.out _⟩
  ·cases hq:(s.toList==[119,101])
   ·have HQ:Hid ((s.data.toList==a3C 2)=false):=by
     show (s.data.toList==a3C 2)=false;rw[<- a0d HL];exact hq
    go_wp2
    go_round
    case rel=>exact⟨3,by omega,by go_num,a3m (a0d HN) HQ.out⟩
    case measure=>simp[intOf]
   ·have HQ:Hid (Txt.wdL s.data.toList=2):=b4j (k:=2) (by omega) (by rw[<- a0d HL];exact hq) (a0d HN);go_wp2;go_ret;exact⟨a3w (by rw[HQ.out]),HB.out _⟩
  ·cases hq:(s.toList==[116,104])
   ·have HQ:Hid ((s.data.toList==a3C 3)=false):=by
     show (s.data.toList==a3C 3)=false;rw[<- a0d HL];exact hq
    go_wp2
    go_round
    case rel=>exact⟨4,by omega,by go_num,a3m (a0d HN) HQ.out⟩
    case measure=>simp[intOf]
   ·have HQ:Hid (Txt.wdL s.data.toList=3):=b4j (k:=3) (by omega) (by rw[<- a0d HL];exact hq) (a0d HN);go_wp2;go_ret;exact⟨a3w (by rw[HQ.out]),HB.out _⟩
  ·cases hq:(s.toList==[102,114])
   ·have HQ:Hid ((s.data.toList==a3C 4)=false):=by
     show (s.data.toList==a3C 4)=false;rw[<- a0d HL];exact hq
    go_wp2
    go_round
    case rel=>exact⟨5,by omega,by go_num,a3m (a0d HN) HQ.out⟩
    case measure=>simp[intOf]
   ·have HQ:Hid (Txt.wdL s.data.toList=4):=b4j (k:=4) (by omega) (by rw[<- a0d HL];exact hq) (a0d HN);go_wp2;go_ret;exact⟨a3w (by rw[HQ.out]),HB.out _⟩
  ·cases hq:(s.toList==[115,97])
   ·have HQ:Hid ((s.data.toList==a3C 5)=false):=by
     show (s.data.toList==a3C 5)=false;rw[<- a0d HL];exact hq
    go_wp2
    go_round
    case rel=>exact⟨6,by omega,by go_num,a3m (a0d HN) HQ.out⟩
    case measure=>simp[intOf]
   ·have HQ:Hid (Txt.wdL s.data.toList=5):=b4j (k:=5) (by omega) (by rw[<- a0d HL];exact hq) (a0d HN);go_wp2;go_ret;exact⟨a3w (by rw[HQ.out]),HB.out _⟩
  ·cases hq:(s.toList==[115,117])
   ·have HQ:Hid ((s.data.toList==a3C 6)=false):=by
     show (s.data.toList==a3C 6)=false;rw[<- a0d HL];exact hq
    go_wp2
    go_round
    case rel=>exact⟨7,by omega,by go_num,a3m (a0d HN) HQ.out⟩
    case measure=>simp[intOf]
   ·have HQ:Hid (Txt.wdL s.data.toList=6):=b4j (k:=6) (by omega) (by rw[<- a0d HL];exact hq) (a0d HN);go_wp2;go_ret;exact⟨a3w (by rw[HQ.out]),HB.out _⟩
  ·have HQ:Hid (Txt.wdL s.data.toList=-1):=c4q (a0d HN);go_wp2;go_ret;exact⟨a3w (by rw[HQ.out]),HB.out _⟩
structure DS(w:World)(b:Nat)(acc:List Int):Prop where
 c0:w.cell? ⟨b,0,none⟩=some (.bool (isd acc 0))
 c1:w.cell? ⟨b,1,none⟩=some (.bool (isd acc 1))
 c2:w.cell? ⟨b,2,none⟩=some (.bool (isd acc 2))
 c3:w.cell? ⟨b,3,none⟩=some (.bool (isd acc 3))
 c4:w.cell? ⟨b,4,none⟩=some (.bool (isd acc 4))
 c5:w.cell? ⟨b,5,none⟩=some (.bool (isd acc 5))
 c6:w.cell? ⟨b,6,none⟩=some (.bool (isd acc 6))
 f:∀ j:Nat,w.frozen? ⟨b,j,none⟩=false
theorem DS.later(h:DS w b acc)(hb:Below w.heap.size w wx):DS wx b acc :=
 ⟨cell_later hb h.c0,cell_later hb h.c1,cell_later hb h.c2,cell_later hb h.c3,cell_later hb h.c4,cell_later hb h.c5,cell_later hb h.c6,fun j=>(hb.frozen (p:=⟨b,j,none⟩) (show b<w.heap.size from World.block_lt_of_cell? _ ⟨b,0,none⟩ h.c0)).trans (h.f j)⟩
theorem DS.at(h:DS w b acc)(d:Int)(h0:0<=d)(h6:d<7):w.cell? ⟨b,d.toNat,none⟩=some (.bool (isd acc d)):=by
 rcases (show d=0\/d=1\/d=2\/d=3\/d=4\/d=5\/d=6 by omega) with rfl|rfl|rfl|rfl|rfl|rfl|rfl
 ·exact h.c0
 ·exact h.c1
 ·exact h.c2
 ·exact h.c3
 ·exact h.c4
 ·exact h.c5
 ·exact h.c6
theorem a8U(d:Int)(h0:0<=d){u:Value}(hk:w.cell? ⟨b,k,none⟩=some (.bool (isd acc k)))(_hu:u=.bool true):(w.setCell ⟨b,d.toNat,none⟩ (.bool true)).cell? ⟨b,k,none⟩=some (.bool (isd (d :: acc) k)):=by
 by_cases e:d.toNat=k
 ·have ed:d=(k:Int):=by omega
  rw[e,World.cell?_setCell_same _ _ _ hk];simp[isd,ed]
 ·rw[World.cell?_setCell_other _ _ _ _ (by simp),hk];have ne:(k:Int)≠d:=by omega
  simp[isd,ne]
theorem DS.set(h:DS w b acc)(d:Int)(h0:0<=d):DS (w.setCell ⟨b,d.toNat,none⟩ (.bool true)) b (d :: acc) :=
 ⟨a8U (k:=0) d h0 h.c0 rfl,a8U (k:=1) d h0 h.c1 rfl,a8U (k:=2) d h0 h.c2 rfl,a8U (k:=3) d h0 h.c3 rfl,a8U (k:=4) d h0 h.c4 rfl,a8U (k:=5) d h0 h.c5 rfl,a8U (k:=6) d h0 h.c6 rfl,fun j=>(zF ..).trans (h.f j)⟩
theorem c3s{b' o:Nat}(h:DS w b acc)(_hne:b'≠b):DS (w.setCell ⟨b',o,none⟩ v) b acc:=by
 have g:∀ j:Nat,(w.setCell ⟨b',o,none⟩ v).cell? ⟨b,j,none⟩=w.cell? ⟨b,j,none⟩:=fun j=>zS _ _ _ _ (by simp)
 exact⟨(g 0).trans h.c0,(g 1).trans h.c1,(g 2).trans h.c2,(g 3).trans h.c3,(g 4).trans h.c4,(g 5).trans h.c5,(g 6).trans h.c6,fun j=>(zF ..).trans (h.f j)⟩
def a3E(acc:List Int):Value:=.agg #[.bool (isd acc 0),.bool (isd acc 1),.bool (isd acc 2),.bool (isd acc 3),.bool (isd acc 4),.bool (isd acc 5),.bool (isd acc 6)]
def g1I(s:ByteArray)(k:Nat)(acc:List Int):Prop :=
 (3*k<s.size/\Txt.onW s=Txt.onC (s.data.toList.drop (3*k)) acc)\/(3*k=s.size+1/\Txt.onW s=some acc)
theorem e0F(s:ByteArray)(k:Nat)(h:s.size % 3=2)(hk:3*k<s.size):
  (3*k+2=s.size/\s.data.toList.drop (3*k)=Txt.part s (3*k) (3*k+2)/\(Txt.part s (3*k) (3*k+2)).length=2) \/
  (3*k+3<s.size/\∃ a b c,s.data.toList.drop (3*k)=a :: b :: c :: s.data.toList.drop (3*(k+1))/\Txt.part s (3*k) (3*k+2)=[a,b]/\(c.toNat:Int)=Txt.a0V s (3*k+2)):=by
 have hl:=Txt.a1d s
 have hp:Txt.part s (3*k) (3*k+2)=(s.data.toList.drop (3*k)).take 2:=by
  unfold Txt.part;rw[Txt.a3g,List.drop_take];congr 1;omega
 by_cases h2:3*k+2=s.size
 ·left;have e:(s.data.toList.drop (3*k)).length=2:=by rw[List.length_drop];omega
  refine⟨h2,?_,?_⟩
  ·rw[hp,List.take_of_length_le (by omega)]
  ·rw[hp,List.length_take];omega
 ·right;have hlt:3*k+3<s.size:=by omega
  refine⟨hlt,s.data.toList[3*k]'(by omega),s.data.toList[3*k+1]'(by omega),s.data.toList[3*k+2]'(by omega),?_,?_,?_⟩
  ·rw[List.drop_eq_getElem_cons (by omega),List.drop_eq_getElem_cons (i:=3*k+1) (by omega),List.drop_eq_getElem_cons (i:=3*k+1+1) (by omega),show 3*k+1+1+1=3*(k+1) from by omega]
  ·rw[hp,List.drop_eq_getElem_cons (by omega),List.drop_eq_getElem_cons (i:=3*k+1) (by omega)];rfl
  ·unfold Txt.a0V;rw[List.getD_eq_getElem?_getD,List.getElem?_eq_getElem (by omega)];rfl
theorem f1q(s:ByteArray)(h:s.size % 3=2):g1I s 0 []:=.inl ⟨by omega,rfl⟩
theorem f8F(h:g1I s k acc)(h3:s.size % 3=2)(hk:3*k<s.size)(hd:Txt.wdL (Txt.part s (3*k) (3*k+2))<0\/isd acc (Txt.wdL (Txt.part s (3*k) (3*k+2)))=true\/(3*k+2<s.size/\Txt.a0V s (3*k+2)≠44)):Txt.onW s=none:=by
 rcases h with ⟨_,h⟩|⟨h,_⟩
 ·rw[h]
  have bad:Txt.wdL (Txt.part s (3*k) (3*k+2))<0\/isd acc (Txt.wdL (Txt.part s (3*k) (3*k+2)))=true->Txt.a4D acc (Txt.wdL (Txt.part s (3*k) (3*k+2)))=none:=fun q=>by
   unfold Txt.a4D;rw[if_neg];rintro ⟨q1,q2⟩;rcases q with q|q
   ·omega
   ·unfold isd at q;rw[q] at q2;cases q2
  rcases e0F s k h3 hk with ⟨e1,e2,e3⟩|⟨e1,a,b,c,e2,e3,e4⟩
  ·rw[e2];rcases hd with hd|hd|hd
   all_goals first|omega|skip
   all_goals
    obtain⟨x,y,hxy⟩:∃ x y,Txt.part s (3*k) (3*k+2)=[x,y]:=by
     match hm:Txt.part s (3*k) (3*k+2),e3 with
     |[x,y],_=>exact⟨x,y,rfl⟩
    have:=bad (by first|exact .inl hd|exact .inr hd);rw[hxy] at this ⊢;exact this
  ·rw[e2,Txt.onC]
   split
   ·rename_i hc
    rcases hd with hd|hd|hd
    ·have:=bad (.inl hd);rw[e3] at this;rw[this];rfl
    ·have:=bad (.inr hd);rw[e3] at this;rw[this];rfl
    ·subst hc;exfalso;apply hd.2;rw[<- e4];rfl
   ·rfl
 ·omega
theorem f4y(h:g1I s k acc)(h3:s.size % 3=2)(hk:3*k<s.size)(h0:0<=Txt.wdL (Txt.part s (3*k) (3*k+2)))(hm:isd acc (Txt.wdL (Txt.part s (3*k) (3*k+2)))=false)(hs:3*k+2<s.size->Txt.a0V s (3*k+2)=44):g1I s (k+1) (Txt.wdL (Txt.part s (3*k) (3*k+2)) :: acc):=by
 have st:Txt.a4D acc (Txt.wdL (Txt.part s (3*k) (3*k+2)))=some (Txt.wdL (Txt.part s (3*k) (3*k+2)) :: acc):=by
  unfold Txt.a4D;rw[if_pos ⟨h0,hm⟩]
 rcases h with ⟨_,h⟩|⟨h,_⟩
 ·rcases e0F s k h3 hk with ⟨e1,e2,e3⟩|⟨e1,a,b,c,e2,e3,e4⟩
  ·right;refine⟨by omega,?_⟩;rw[h,e2]
   obtain⟨x,y,hxy⟩:∃ x y,Txt.part s (3*k) (3*k+2)=[x,y]:=by
    match hm:Txt.part s (3*k) (3*k+2),e3 with
    |[x,y],_=>exact⟨x,y,rfl⟩
   rw[hxy] at st ⊢;exact st
  ·left;refine⟨by omega,?_⟩
   have hc:c=44:=by
    have:=hs (by omega);rw[<- e4] at this;exact UInt8.toNat_inj.1 (by simpa using (by omega:(c.toNat)=44))
   rw[h,e2,Txt.onC,if_pos hc,<- e3,st];rfl
 ·omega
theorem g0u(s:ByteArray)(w:World)(hm:s.size<=160):
  Calls Tryz.prog 129 #[.string s] w fun e w'=>(∃ acc,e=.returned (.tuple #[a3E acc,.bool (Txt.onB s)])/\(Txt.onB s=true->Txt.onW s=some acc))/\Below w.heap.size w w':=by
 by_cases h3:s.size % 3=2
 ·have h3':(((s.size:Int) % 3) != 2)=false:=b5z (by omega)
  go_enter Tryz.func129,Tryz.ntmps129
  go_wp2;obtain⟨W,hW⟩:∃ W,W=(w.alloc (.cells #[.bool false,.bool false,.bool false,.bool false,.bool false,.bool false,.bool false] 159)).alloc (.cells #[.bool false,.bool false,.bool false,.bool false,.bool false,.bool false,.bool false] 159):=⟨_,rfl⟩;rw[<- hW];have hB:Below w.heap.size w W:=by rw[hW];exact ((zr _ _).alloc (zq _) _).alloc (by simp) _
  have hZ:w.heap.size+2=W.heap.size:=by rw[hW];simp
  have dR:DS W w.heap.size []:=by
   rw[hW];refine⟨?_,?_,?_,?_,?_,?_,?_,fun j=>?_⟩ <;> simp[isd]
  have dD:DS W (w.heap.size+1) []:=by
   rw[hW];refine⟨?_,?_,?_,?_,?_,?_,?_,fun j=>?_⟩ <;> simp[isd]
  clear hW
  go_loopw [5,6] (fun i _ wx=>∃ (k:Nat) (acc:List Int),3*k<=s.size+1/\i=.int .i64 ((3*k:Nat):Int)/\g1I s k acc/\DS wx (w.heap.size+1) acc/\DS wx w.heap.size []/\Below w.heap.size w wx/\w.heap.size+2<=wx.heap.size) (fun i _ _=>s.size+3-(intOf i).toNat)
  case atStart=>exact⟨0,[],by omega,rfl,f1q s h3,dD,dR,hB,by omega⟩
  case round =>
   obtain⟨k,acc,hk,rfl,hat,hD,hR,hnx,hsz⟩:=hrel
   by_cases hlt:3*k<s.size
   ·have hd:=Txt.c3Q (Txt.part s (3*k) (3*k+2));have HAT:=hide hat;clear hat
    go_wp2_with fail
    refine (e5W _ _).mono ?_;rintro e w1 ⟨rfl,hbw⟩;rw[show (s.extract (3*k) (3*k+2)).data.toList=Txt.part s (3*k) (3*k+2) from rfl];have hb1:Below w.heap.size w w1:=hnx.trans (hbw.mono hnx.size);have hs1:w.heap.size+2<=w1.heap.size:=Nat.le_trans hsz hbw.size;have hD1:=hD.later hbw;have hR1:=hR.later hbw;have q0:=hD1.c0;have q1:=hD1.c1;have q2:=hD1.c2;have q3:=hD1.c3;have q4:=hD1.c4;have q5:=hD1.c5;have q6:=hD1.c6;have r0:=hR1.c0;have r1:=hR1.c1;have r2:=hR1.c2;have r3:=hR1.c3;have r4:=hR1.c4;have r5:=hR1.c5;have r6:=hR1.c6;have fR:=hR1.f;have fD:=hD1.f;obtain⟨d,hdd⟩:∃ d,d=Txt.wdL (Txt.part s (3*k) (3*k+2)):=⟨_,rfl⟩;have HBAD:=hide (fun q=>f8F (a0d HAT) h3 hlt q);have HNEXT:=hide (fun q1 q2 q3=>f4y (a0d HAT) h3 hlt q1 q2 q3);rw[<- hdd] at hd HBAD HNEXT ⊢;clear hdd hD hR hnx hsz hbw hB hZ dR dD
    by_cases hneg:d<0
    ·have HN:Hid (Txt.onB s=false):=by show Txt.onB s=false;unfold Txt.onB;rw[a0d HBAD (.inl hneg)];rfl
     go_wp2;refine bodyPost_ret (v:=.tuple #[a3E acc,.bool false]) (by simp[results,Tryz.results129,go_sem,a3E,r0,r1,r2,r3,r4,r5,r6]) rfl ⟨⟨acc,?_,?_⟩,?_⟩
     ·rw[HN.out]
     ·intro h;rw[HN.out] at h;cases h
     ·exact (((((((hb1.setCell (zq _) _).setCell (zq _) _).setCell (zq _) _).setCell (zq _) _).setCell (zq _) _).setCell (zq _) _).setCell (zq _) _)
    ·have hc:=hD1.at d (by omega) (by omega)
     cases hmk:isd acc d
     ·rw[hmk] at hc
      by_cases h2:3*k+2<s.size
      ·cases hsep:(((s[3*k+2]'h2).toNat:Int) != 44)
       ·have HX:Hid (g1I s (k+1) (d :: acc)):=a0d HNEXT (by omega) hmk (fun _=>by
         rw[Txt.a2W s _ h2];simpa using hsep)
        go_wp2;refine⟨⟨k+1,d :: acc,by omega,by go_num,HX.out,?_,?_,?_,?_⟩,by simp[intOf];omega⟩
        ·exact hD1.set d (by omega)
        ·exact c3s hR1 (by omega)
        ·exact hb1.setCell (by simp) _
        ·simp;omega
       ·have HN:Hid (Txt.onB s=false):=by
         show Txt.onB s=false;unfold Txt.onB;rw[a0d HBAD (.inr (.inr ⟨h2,by rw[Txt.a2W s _ h2];simpa using hsep⟩))];rfl
        go_wp2;refine bodyPost_ret (v:=.tuple #[a3E acc,.bool false]) (by simp[results,Tryz.results129,go_sem,a3E,r0,r1,r2,r3,r4,r5,r6]) rfl ⟨⟨acc,?_,?_⟩,?_⟩
        ·rw[HN.out]
        ·intro h;rw[HN.out] at h;cases h
        ·exact (((((((hb1.setCell (zq _) _).setCell (zq _) _).setCell (zq _) _).setCell (zq _) _).setCell (zq _) _).setCell (zq _) _).setCell (zq _) _)
      ·have HX:Hid (g1I s (k+1) (d :: acc)):=a0d HNEXT (by omega) hmk (fun h=>absurd h h2);go_wp2;refine⟨⟨k+1,d :: acc,by omega,by go_num,HX.out,?_,?_,?_,?_⟩,by simp[intOf];omega⟩
       ·exact hD1.set d (by omega)
       ·exact c3s hR1 (by omega)
       ·exact hb1.setCell (by simp) _
       ·simp;omega
     ·rw[hmk] at hc;have HN:Hid (Txt.onB s=false):=by show Txt.onB s=false;unfold Txt.onB;rw[a0d HBAD (.inr (.inl hmk))];rfl
      go_wp2;refine bodyPost_ret (v:=.tuple #[a3E acc,.bool false]) (by simp[results,Tryz.results129,go_sem,a3E,r0,r1,r2,r3,r4,r5,r6]) rfl ⟨⟨acc,?_,?_⟩,?_⟩
      ·rw[HN.out]
      ·intro h;rw[HN.out] at h;cases h
      ·exact (((((((hb1.setCell (zq _) _).setCell (zq _) _).setCell (zq _) _).setCell (zq _) _).setCell (zq _) _).setCell (zq _) _).setCell (zq _) _)
   ·have HF:Hid (Txt.onW s=some acc):=by
     rcases hat with ⟨h,_⟩|⟨_,h⟩
     ·omega
     ·exact h
    have HN:Hid (Txt.onB s=true):=by show Txt.onB s=true;unfold Txt.onB;rw[HF.out];rfl
    clear hat;have q0:=hD.c0;have q1:=hD.c1;have q2:=hD.c2;have q3:=hD.c3;have q4:=hD.c4;have q5:=hD.c5;have q6:=hD.c6;have r0:=hR.c0;have r1:=hR.c1;have r2:=hR.c2;have r3:=hR.c3;have r4:=hR.c4;have r5:=hR.c5;have r6:=hR.c6;have fR:=hR.f;go_wp2;refine bodyPost_ret (v:=.tuple #[a3E acc,.bool true]) (by simp[results,Tryz.results129,go_sem,a3E,r0,r1,r2,r3,r4,r5,r6]) rfl ⟨⟨acc,?_,?_⟩,?_⟩
    ·rw[HN.out]
    ·intro _;exact HF.out
    ·exact (((((((hnx.setCell (zq _) _).setCell (zq _) _).setCell (zq _) _).setCell (zq _) _).setCell (zq _) _).setCell (zq _) _).setCell (zq _) _)
 ·have h3':(((s.size:Int) % 3) != 2)=true:=b5y (by omega)
  have HN:Hid (Txt.onB s=false):=by
   show Txt.onB s=false;unfold Txt.onB
   cases ho:Txt.onW s with
   |none=>rfl
   |some r=>have:=Txt.f4x _ _ _ ho;rw[Txt.a1d] at this;omega
  clear h3
  go_enter Tryz.func129,Tryz.ntmps129
  go_wp2;refine bodyPost_ret (v:=.tuple #[a3E [],.bool false]) (by simp[results,Tryz.results129,go_sem,a3E,isd]) rfl ⟨⟨[],?_,?_⟩,?_⟩
  ·rw[HN.out]
  ·intro h;rw[HN.out] at h;cases h
  ·exact ((zr _ _).alloc (zq _) _).alloc (by simp) _
end Go.Proofs.YtfigmlfdnickmaaGreatDoor
