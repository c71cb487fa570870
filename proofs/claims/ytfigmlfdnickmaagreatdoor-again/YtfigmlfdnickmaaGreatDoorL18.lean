import Derived.Test.YtfigmlfdnickmaaGreatDoorL17
import Derived.Deep.RegionHeld3
import Derived.Deep.AppendLies
set_option maxRecDepth 100000
set_option maxHeartbeats 8000000
variable{a b nm s:ByteArray}{n u:Int}{ws:List ByteArray}{acc:List Int}{xs:List Go.Value}{B F e:Nat}{v:Go.Value}{w w' w0 x y z:Go.World}
namespace Go.Proofs.YtfigmlfdnickmaaGreatDoor.Txt
open Go
def b1m(x:List (List UInt8) × List UInt8)(c:UInt8):List (List UInt8) × List UInt8:=if c=32 then ((if x.2=[] then x.1 else x.1++[x.2]),[]) else (x.1,x.2++[c])
def c4p(l:List UInt8):List (List UInt8) × List UInt8:=l.foldl b1m ([],[])
def c1V(x:List (List UInt8) × List UInt8):List (List UInt8):=if x.2=[] then x.1 else x.1++[x.2]
def b2u(l:List UInt8):List (List UInt8):=c1V (c4p l)
theorem c1t(h:a.data.toList=b.data.toList):a=b:=by
 cases a;cases b
 simp only[ByteArray.mk.injEq];exact Array.toList_inj.1 h
theorem a1l(s:ByteArray):s.data.toList.length=s.size:=by rw[Array.length_toList];rfl
theorem c4i(s:ByteArray)(k:Nat)(h:k<s.size):a0V s k=32↔s.data.toList[k]'(by rw[a1l];exact h)=32:=by
 have hl:k<s.data.toList.length:=by rw[a1l];exact h
 have e:a0V s k=((s.data.toList[k]).toNat:Int):=by
  unfold a0V;rw[List.getD_eq_getElem?_getD,List.getElem?_eq_getElem hl];rfl
 rw[e];constructor
 ·intro e1;apply UInt8.toNat_inj.1;show (s.data.toList[k]).toNat=32;omega
 ·intro k;rw[k];rfl
theorem c2G(s:ByteArray)(k:Nat)(h:k<s.size):(s.extract k (k+1)).data.toList=[s.data.toList[k]'(by rw[a1l];exact h)]:=by
 have hl:k<s.data.toList.length:=by rw[a1l];exact h
 rw[ByteArray.data_extract,Array.toList_extract,List.extract_eq_take_drop];rw[Nat.add_sub_cancel_left,List.drop_eq_getElem_cons hl];simp
theorem a4V(b:ByteArray):b.size=0↔b.data.toList=[]:=by
 rw[<- a1l];exact List.length_eq_zero_iff
theorem c0L(s:ByteArray):∀ k:Nat,k<=s.size->(s.data.toList.take k).foldl b1m ([],[])=((b7w s k).map (·.data.toList),(a8z s k).data.toList)
 |0,_=>by
  have h1:=b5J s 0;have h2:=b7k s 0;have e1:b7w s 0=[]:=List.length_eq_zero_iff.1 (by omega);have e2:(a8z s 0).data.toList=[]:=(a4V _).1 (by omega);simp[e1,e2]
 |k+1,h=>by
  have ih:=c0L s k (by omega);have hl:k<s.data.toList.length:=by rw[a1l];omega
  rw[List.take_succ_eq_append_getElem hl,List.foldl_append,ih];simp only[List.foldl_cons,List.foldl_nil];unfold b1m
  by_cases c:a0V s k=32
  ·rw[if_pos ((c4i s k (by omega)).1 c)];obtain⟨h1,h2⟩:=b3O s k (by omega) c;rw[h1,h2];refine Prod.ext ?_ rfl;show (if (a8z s k).data.toList=[] then _ else _)=_
   by_cases d:(a8z s k).size=0
   ·rw[if_pos ((a4V _).1 d),if_pos d,List.append_nil]
   ·rw[if_neg (fun e=>d ((a4V _).2 e)),if_neg d,List.map_append];rfl
  ·rw[if_neg (fun e=>c ((c4i s k (by omega)).2 e))];obtain⟨h1,h2⟩:=b7l s k c;rw[h2,<- h1,a1X,c2G s k (by omega)]
theorem b7B(s:ByteArray):(a1v s).map (·.data.toList)=b2u s.data.toList:=by
 have h:=c0L s s.size (zq _);rw[List.take_of_length_le (by rw[a1l];exact zq _)] at h;unfold b2u c4p c1V;rw[h,b2t,List.map_append]
 by_cases d:(a8z s s.size).size=0
 ·rw[if_pos d,if_pos ((a4V _).1 d)];simp
 ·rw[if_neg d,if_neg (fun e=>d ((a4V _).2 e))];simp
theorem c1R(h:b2u s.data.toList=ws.map (·.data.toList)):a1v s=ws:=by
 rw[<- b7B] at h;generalize a1v s=l at h
 induction l generalizing ws with
 |nil =>
  cases ws with
  |nil=>rfl
  |cons w ws=>simp at h
 |cons x l ih =>
  cases ws with
  |nil=>simp at h
  |cons w ws =>
   simp only[List.map_cons,List.cons.injEq] at h;rw[c1t h.1,ih h.2]
def a3V(w:List UInt8):Bool:=!w.isEmpty && w.all fun c=>decide (c≠32)
theorem a8C{w:List UInt8}:a3V w=true↔w≠[]/\∀ c∈w,c≠32:=by
 unfold a3V;rw[Bool.and_eq_true,List.all_eq_true];constructor
 ·rintro ⟨h1,h2⟩;exact⟨fun e=>by simp[e] at h1,fun c hc=>by simpa using h2 c hc⟩
 ·rintro ⟨h1,h2⟩;exact⟨by cases w <;> simp at h1 ⊢,fun c hc=>by simpa using h2 c hc⟩
theorem b3A{w:List UInt8}(h:∀ c∈w,c≠32):∀ x:List (List UInt8) × List UInt8,w.foldl b1m x=(x.1,x.2++w):=by
 induction w with
 |nil=>intro x;simp
 |cons c w ih =>
  intro x;rw[List.foldl_cons];have:b1m x c=(x.1,x.2++[c]):=by unfold b1m;rw[if_neg (h c (by simp))]
  rw[this,ih (fun d hd=>h d (by simp[hd]))];simp
theorem b7S(x:List (List UInt8) × List UInt8):b1m x 32=(c1V x,[]):=by
 unfold b1m c1V;rw[if_pos rfl]
theorem e5P(x:List (List UInt8)):b1m (x,[]) 32=(x,[]):=by rw[b7S];simp[c1V]
def jb:List (List UInt8)->List UInt8
 |[]=>[]
 |w :: r=>w++(match r with| []=>[]|_ :: _=>32 :: jb r)
theorem a6Q(w v:List UInt8)(r:List (List UInt8)):jb (w :: v :: r)=w++32 :: jb (v :: r):=rfl
theorem b3k(w:List UInt8):jb [w]=w:=by simp[jb]
theorem c0K:∀ (ws:List (List UInt8))(acc:List (List UInt8)),(∀ w∈ws,a3V w=true)->c1V ((jb ws).foldl b1m (acc,[]))=acc++ws
 |[],acc,_=>by simp[jb,c1V]
 |[w],acc,h=>by
  obtain⟨h1,h2⟩:=a8C.1 (h w (by simp));rw[b3k,b3A h2];simp[c1V,h1]
 |w :: v :: r,acc,h=>by
  obtain⟨h1,h2⟩:=a8C.1 (h w (by simp));rw[a6Q,List.foldl_append,b3A h2,List.foldl_cons,b7S];have e:c1V (acc,[]++w)=acc++[w]:=by simp[c1V,h1]
  rw[e,c0K (v :: r) (acc++[w]) (fun z hz=>h z (by simp at hz ⊢;exact .inr hz))];simp
theorem c1S{ws:List (List UInt8)}(h:∀ w∈ws,a3V w=true):b2u (jb ws)=ws:=by
 unfold b2u c4p;rw[c0K ws [] h];simp
theorem a5p(hs:s.data.toList=jb (ws.map (·.data.toList)))(h:∀ w∈ws,a3V w.data.toList=true):a1v s=ws:=by
 apply c1R;rw[hs];apply c1S;intro w hw;obtain⟨v,hv,rfl⟩:=List.mem_map.1 hw;exact h v hv
end Go.Proofs.YtfigmlfdnickmaaGreatDoor.Txt
namespace Go.Proofs.YtfigmlfdnickmaaGreatDoor.Txt
open Go
theorem c4f(u:Nat)(h:u<10):dig (UInt8.ofNat (48+u))=true/\((UInt8.ofNat (48+u)).toNat:Int)=48+u:=by
 have e:(UInt8.ofNat (48+u)).toNat=48+u:=by rw[UInt8.toNat_ofNat'];omega
 refine⟨?_,by rw[e];omega⟩;unfold dig;rw[e];exact decide_eq_true (by omega)
theorem b7h(n:Nat):a6j (Lib.decDigits n)=true/\b4R (Lib.decDigits n)=n/\1<=(Lib.decDigits n).length:=by
 induction n using Nat.strongRecOn with
 |_ n ih =>
  by_cases c:n<10
  ·rw[c1f n c];obtain⟨h1,h2⟩:=c4f n c;refine⟨by unfold a6j;rw[List.all_cons,h1];rfl,?_,by simp⟩;unfold b4R;simp only[List.foldl_cons,List.foldl_nil];omega
  ·rw[c5x n c];obtain⟨i1,i2,i3⟩:=ih (n / 10) (by omega);obtain⟨h1,h2⟩:=c4f (n % 10) (by omega);refine⟨?_,?_,by simp⟩
   ·unfold a6j at i1 ⊢;rw[List.all_append,i1,List.all_cons,h1];rfl
   ·rw[b2Y,i2,h2];omega
theorem a9j(n:Int)(h:0<=n):(a0x n).data.toList=Lib.decDigits n.toNat:=by
 unfold a0x Lib.itoa;rw[if_neg (by omega)]
theorem b6O(h0:0<=n)(h1:n<=9999999):isNum (a0x n).data.toList=true/\a2f (a0x n).data.toList=n:=by
 obtain⟨d1,d2,d3⟩:=b7h n.toNat;have hl:=b5p 6 n.toNat (by omega)
 have e:isNum (a0x n).data.toList=true:=by
  rw[a9j n h0];unfold isNum;rw[d1,decide_eq_true (by omega)];rfl
 refine⟨e,?_⟩;unfold a2f;rw[if_pos e,a9j n h0,d2];omega
theorem c1c{l:List UInt8}(h:a6j l=true)(hl:1<=l.length):a3V l=true:=by
 rw[a8C];refine⟨fun e=>by rw[e] at hl;simp at hl,fun c hc e=>?_⟩;have:=List.all_eq_true.1 h c hc;rw[e] at this;exact absurd this (by decide)
theorem b3l(h:0<=n):a3V (a0x n).data.toList=true:=by
 obtain⟨d1,_,d3⟩:=b7h n.toNat;rw[a9j n h];exact c1c d1 d3
end Go.Proofs.YtfigmlfdnickmaaGreatDoor.Txt
namespace Go.Proofs.YtfigmlfdnickmaaGreatDoor
open Go.RowKit
theorem a0G{x:Int}(h1:-9223372036854775808<=x)(h2:x<=9223372036854775807):IntKind.i64.wrap x=x:=by
 rw[IntKind.wrap_i64];omega
def a2s(c n:Int):Int:=(if c<0 then -(c+1) else c) % n
theorem a6G{c:Int}(hn:1<=n):0<=a2s c n/\a2s c n<n:=⟨Int.emod_nonneg _ (by omega),Int.emod_lt_of_pos _ (by omega)⟩
theorem b9M(c n:Int)(w:World)(h1:-9223372036854775808<=c)(h2:c<=9223372036854775807)(hn:1<=n)(hn2:n<=1000000):
  Calls Tryz.prog 38 #[.int .i64 c,.int .i64 n] w fun e w'=>e=.returned (.int .i64 (a2s c n))/\w'=w:=by
 have hz:(n==0)=false:=by simp;omega
 have hb:=a6G (c:=c) hn
 by_cases h:c<0
 ·have k1:IntKind.i64.wrap (c+1)=c+1:=a0G (by omega) (by omega);have k2:IntKind.i64.wrap (-(c+1))=-(c+1):=a0G (by omega) (by omega);have e:(-(c+1)).tmod n=a2s c n:=by unfold a2s;rw[if_pos h];exact Int.tmod_eq_emod_of_nonneg (by omega)
  have k3:IntKind.i64.wrap (a2s c n)=a2s c n:=a0i (by omega) (by omega);generalize a2s c n=v at *
  go_enter Tryz.func38,Tryz.ntmps38
  go_wp2_with fail
  go_ret
  simp_all
 ·have e:c.tmod n=a2s c n:=by unfold a2s;rw[if_neg h];exact Int.tmod_eq_emod_of_nonneg (by omega)
  have k3:IntKind.i64.wrap (a2s c n)=a2s c n:=a0i (by omega) (by omega);generalize a2s c n=v at *
  go_enter Tryz.func38,Tryz.ntmps38
  go_wp2_with fail
  go_ret
  simp_all
theorem a6O(n:Int)(w:World)(he:Env w)(h0:-9223372036854775808<=n)(h1:n<=9223372036854775807):
  Calls Tryz.prog 22 #[.int .i64 n] w fun e w'=>e=.returned (.string (Txt.a0x n))/\Below w.heap.size w w':=by
 have IT:=a0b (c2Y n w he h0 h1);clear he
 go_enter Tryz.func22,Tryz.ntmps22
 go_wp2_with (first
  |(go_at_call 47;refine IT.out.mono ?_;rintro e w1 ⟨rfl,hb⟩))
 go_ret;exact⟨rfl,hb⟩
def f5c(n:Int):ByteArray:=if n<10 then (⟨#[48]⟩:ByteArray)++Txt.a0x n else Txt.a0x n
theorem f6t(n:Int)(w:World)(he:Env w)(h0:0<=n)(h1:n<=1000):
  Calls Tryz.prog 30 #[.int .i64 n] w fun e w'=>e=.returned (.string (f5c n))/\Below w.heap.size w w':=by
 have IT:=a0b (a6O n w he (by omega) (by omega));have hz:=Txt.a0I n h0 (by omega);clear he
 by_cases h:n<10
 ·have e:f5c n=(⟨#[48]⟩:ByteArray)++Txt.a0x n:=by unfold f5c;rw[if_pos h]
  rw[e];generalize Txt.a0x n=t at *
  go_enter Tryz.func30,Tryz.ntmps30
  go_wp2_with (first
   |(go_at_call 22;refine IT.out.mono ?_;rintro e w1 ⟨rfl,hb⟩))
  go_ret;exact⟨rfl,hb⟩
 ·have e:f5c n=Txt.a0x n:=by unfold f5c;rw[if_neg h]
  rw[e];generalize Txt.a0x n=t at *
  go_enter Tryz.func30,Tryz.ntmps30
  go_wp2_with (first
   |(go_at_call 22;refine IT.out.mono ?_;rintro e w1 ⟨rfl,hb⟩))
  go_ret;exact⟨rfl,hb⟩
theorem f1K(l m:List Int)(u v:Value)(B C:Nat)(w:World)(hu:w.ownsRow B 3 1 u l.length (l.map (Value.int .i64)))(hv:w.ownsRow C 3 1 v m.length (m.map (Value.int .i64)))(hl:l.length<=1000000):
  Calls Tryz.prog 34 #[u,v] w fun e w'=>e=.returned (.bool (decide (l=m)))/\Below w.heap.size w w':=by
 obtain⟨a,ca,rfl⟩:=b1C hu;obtain⟨b,cb,rfl⟩:=b1C hv;have HU:=a0b hu;have HV:=a0b hv;clear hu hv
 by_cases hlen:l.length=m.length
 ·have hb:((l.length:Int) != (m.length:Int))=false:=by simp[hlen]
  go_enter Tryz.func34,Tryz.ntmps34
  go_wp2_with fail
  go_loopw [5] (fun v wr=>∃ k:Nat,k<=l.length/\v=.int .i64 k/\l.take k=m.take k/\Below w.heap.size w wr) (fun v _=>l.length-(intOf v).toNat)
  case atStart=>exact⟨0,Nat.zero_le _,rfl,rfl,Below.refl _ _⟩
  case round =>
   obtain⟨k,hk,rfl,hpre,hbl⟩:=hrel
   by_cases hlt:k<l.length
   ·have hlt':(k:Int)<(l.length:Int):=by omega
    have hmt':(k:Int)<(m.length:Int):=by omega
    have ru:=c6T HU.out hbl;have rv:=c6T HV.out hbl;obtain⟨Ha,ca',e1⟩:=Joins.ownsRow_form ru (by omega);simp only[Value.slice.injEq,true_and] at e1;obtain⟨rfl,rfl⟩:=e1;obtain⟨Hb,cb',e2⟩:=Joins.ownsRow_form rv (by omega);simp only[Value.slice.injEq,true_and] at e2;obtain⟨rfl,rfl⟩:=e2;have a0:=ru.cellAt k (by omega);have b0:=rv.cellAt k (by omega);rw[List.getElem?_map,List.getElem?_eq_getElem hlt,Option.map_some] at a0;rw[List.getElem?_map,List.getElem?_eq_getElem (show k<m.length by omega),Option.map_some] at b0;have HP:=a0b hpre;have HB:=a0b hbl
    by_cases hx:l[k]=m[k]
    ·have hxb:(l[k] != m[k])=false:=by simp[hx]
     have HN:Hid (l.take (k+1)=m.take (k+1)):=by
      show l.take (k+1)=m.take (k+1);rw[List.take_succ_eq_append_getElem hlt,List.take_succ_eq_append_getElem (show k<m.length by omega),hpre,hx]
     generalize l[k]=x at *;generalize m[k]=y at *;clear ru rv hpre hbl hx
     go_upto_region 6 with fail
     go_region
     all_goals
      go_wp2_with fail
      go_roundw
      case rel=>exact⟨k+1,by omega,by go_num,HN.out,HB.out.drew⟩
      case measure=>simp[intOf];omega
    ·have hxb:(l[k] != m[k])=true:=by simp[hx]
     have HE:Hid (decide (l=m)=false):=by
      show decide (l=m)=false;simp only[decide_eq_false_iff_not];intro h;apply hx;simp only[h]
     generalize l[k]=x at *;generalize m[k]=y at *;clear ru rv hpre hbl hx
     go_upto_region 6 with fail
     go_region
     all_goals
      go_wp2_with fail
      go_ret;exact⟨by rw[HE.out];rfl,HB.out.drew⟩
   ·have hlt':¬ (k:Int)<(l.length:Int):=by omega
    have HE:Hid (decide (l=m)=true):=by
     show decide (l=m)=true;simp only[decide_eq_true_eq];have hk':k=l.length:=by omega
     rw[hk',List.take_length,hlen,List.take_length] at hpre;exact hpre
    have HB:=a0b hbl;clear hbl hpre
    go_wp2_with fail
    go_ret;exact⟨by rw[HE.out];rfl,HB.out⟩
 ·have hb:((l.length:Int) != (m.length:Int))=true:=by simp;omega
  have e:decide (l=m)=false:=by simp;intro h;exact hlen (by rw[h])
  rw[e]
  go_enter Tryz.func34,Tryz.ntmps34
  go_wp2_with fail
  go_ret;exact⟨rfl,Below.refl _ _⟩
structure c7h(w:World)(F:Nat)(s:ByteArray)(a:Nat):Prop where
 b:w.heap[F]?=some (.cells #[.string s,.int .i64 (a:Int)] 47 (0,0))
 le:a<=s.size
 sz:s.size<=9223372036854775807
structure FW(w0:World)(F:Nat)(s:ByteArray)(w:World):Prop where
 fd:∃ a,c7h w F s a
 env:Env w
 off:Off [F] w0 w
 ten:10<=F
theorem FW.lt(h:FW w0 F s w):F<w.heap.size:=by
 obtain⟨a,h⟩:=h.fd;exact (Array.getElem?_eq_some_iff.1 h.b).1
theorem b9Z(k:Off [F] w w')(hF:10<=F)(hs:10<=w.heap.size):Below 10 w w' :=
 ⟨k.os,k.tape,k.output,k.size,fun b hb=>k.block b (by omega) (by simp;omega)⟩
theorem FW.later(h:FW w0 F s w)(k:Below w.heap.size w w'):FW w0 F s w':=by
 obtain⟨a,fd⟩:=h.fd;exact⟨⟨a,(k.block F h.lt).trans fd.b,fd.le,fd.sz⟩,h.env.later k,h.off.trans (Off.of_below k),h.ten⟩
theorem FW.drew(h:FW w0 F s w):FW w0 F s w.drew:=h.later (a0q w)
theorem FW.alloc(h:FW w0 F s w)(o:Obj):FW w0 F s (w.alloc o):=h.later ((zr w.heap.size w).alloc (zq _) o)
theorem FW.set(h:FW w0 F s w){R:Nat}(hR:w0.heap.size<=R)(hF:R≠F)(h10:10<=R)(o:Nat)(v:Value):FW w0 F s (w.setCell ⟨R,o,none⟩ v):=by
 obtain⟨a,fd⟩:=h.fd;have k:=Off.set0 R w o v;exact⟨⟨a,(k.block F h.lt (by simp;exact fun e=>hF e.symm)).trans fd.b,fd.le,fd.sz⟩,h.env.ten (b9Z k h10 h.env.size),h.off.setCell (.inr hR) o v,h.ten⟩
theorem a2A{W:World}{b i:Nat}{cs:Array Value}{t:TypeId}{q:Nat × Nat}(h:W.heap[b]?=some (.cells cs t q))(v:Value):(W.setCell ⟨b,i,none⟩ v).heap[b]?=some (.cells (cs.setIfInBounds i v) t q):=by
 obtain⟨hlt,hk⟩:=Array.getElem?_eq_some_iff.1 h;show (W.heap.modify b _)[b]?=_;rw[Array.getElem?_eq_getElem (by rw[Array.size_modify];exact hlt),Array.getElem_modify_self,hk];rfl
theorem b0q{x y:Value}{t:TypeId}(h:w.heap[F]?=some (.cells #[x,y] t (0,0))):w.cell? ⟨F,0,none⟩=some x/\w.cell? ⟨F,1,none⟩=some y/\∀ o,w.frozen? ⟨F,o,none⟩=false:=by
 refine⟨?_,?_,fun o=>frozen_of_row _ F o _ _ h⟩ <;> (simp only[World.cell?,h];rfl)
theorem b1X{x y z u:Value}{t:TypeId}(h:w.heap[F]?=some (.cells #[x,y,z,u] t (0,0))):w.cell? ⟨F,0,none⟩=some x/\w.cell? ⟨F,1,none⟩=some y/\w.cell? ⟨F,2,none⟩=some z/\w.cell? ⟨F,3,none⟩=some u/\∀ o,w.frozen? ⟨F,o,none⟩=false:=by
 refine⟨?_,?_,?_,?_,fun o=>frozen_of_row _ F o _ _ h⟩ <;> (simp only[World.cell?,h];rfl)
theorem a1h(h:FW w0 F s w)(n:Int)(h1:1<=n)(h2:n<=1000):
  Calls Tryz.prog 26 #[.pointer (some ⟨F,0,none⟩),.int .i64 n] w fun e w'=>∃ v,e=.returned (.int .i64 v)/\0<=v/\v<n/\FW w0 F s w':=by
 obtain⟨a,fd⟩:=h.fd;obtain⟨c0,c1,fz⟩:=b0q fd.b;have hle:=fd.le;have hsz:=fd.sz;have HF:=a0b h;have HD:=a0b fd;have hz:(n==0)=false:=by simp;omega
 clear h fd
 by_cases hlt:a<s.size
 ·have hlt':¬ (s.size:Int)<=(a:Int):=by omega
  have k1:IntKind.i64.wrap ((a:Int)+1)=((a+1:Nat):Int):=by rw[a0G (by omega) (by omega)];omega
  have hb:s[a].toNat<256:=s[a].toNat_lt;have k2:IntKind.i64.wrap (s[a].toNat:Int)=(s[a].toNat:Int):=a0G (by omega) (by omega);have k3:(s[a].toNat:Int).tmod n=(s[a].toNat:Int) % n:=Int.tmod_eq_emod_of_nonneg (by omega);have b1:0<=(s[a].toNat:Int) % n:=Int.emod_nonneg _ (by omega);have b2:(s[a].toNat:Int) % n<n:=Int.emod_lt_of_pos _ (by omega);have k4:IntKind.i64.wrap ((s[a].toNat:Int) % n)=(s[a].toNat:Int) % n:=a0G (by omega) (by omega)
  have HW:Hid (FW w0 F s (w.drew.drew.setCell ⟨F,1,none⟩ (.int .i64 ((a+1:Nat):Int)))):=by
   have k:=Off.set0 F w.drew.drew 1 (.int .i64 ((a+1:Nat):Int));have h2:=HF.out.drew.drew;exact⟨⟨a+1,a2A (W:=w.drew.drew) HD.out.b _,hlt,hsz⟩,h2.env.ten (b9Z k h2.ten h2.env.size),h2.off.setCell (.inl (by simp)) _ _,h2.ten⟩
  go_enter Tryz.func26,Tryz.ntmps26
  go_upto_region 1 with fail
  go_big_region
  go_upto_region 3 with fail
  go_big_region
  go_wp2_with fail
  go_ret;exact⟨_,rfl,b1,b2,HW.out⟩
 ·have hlt':(s.size:Int)<=(a:Int):=by omega
  go_enter Tryz.func26,Tryz.ntmps26
  go_upto_region 1 with fail
  go_big_region
  go_wp2_with fail
  go_ret;exact⟨0,rfl,by omega,by omega,HF.out.drew⟩
theorem a3L(h:FW w0 F s w)(n:Int)(h0:-9223372036854775808<=n)(h1:n<=9223372036854775807):
  Calls Tryz.prog 22 #[.int .i64 n] w fun e w'=>e=.returned (.string (Txt.a0x n))/\FW w0 F s w' :=
 (a6O n w h.env h0 h1).mono fun _ _ k=>⟨k.1,h.later k.2⟩
def b1O(late:Bool):ByteArray:=if late then ⟨#[50,48,50,53,45,49,50,45]⟩ else ⟨#[50,48,50,52,45,48,49,45]⟩
def b8V(n:Int):ByteArray:=if (Txt.a0x n).size<2 then (⟨#[48]⟩:ByteArray)++Txt.a0x n else Txt.a0x n
theorem b2V(h0:0<=n)(h1:n<=9999999):(b8V n).size<=7:=by
 have:=Txt.a0I n h0 h1;unfold b8V
 split
 ·rw[ByteArray.size_append];show 1+_<=7;omega
 ·omega
theorem b3j(h:FW w0 F s w)(n:Int)(late:Bool)(h0:0<=n)(h1:n<=1000):
  Calls Tryz.prog 68 #[.int .i64 n,.bool late] w fun e w'=>e=.returned (.string (b1O late++b8V (1+n)))/\FW w0 F s w':=by
 have NU:=a0b (a3L h (1+n) (by omega) (by omega));have hz:=Txt.a0I (1+n) (by omega) (by omega);have k1:IntKind.i64.wrap (1+n)=1+n:=a0G (by omega) (by omega);clear h
 by_cases hs:(Txt.a0x (1+n)).size<2
 ·have e:b8V (1+n)=(⟨#[48]⟩:ByteArray)++Txt.a0x (1+n):=by unfold b8V;rw[if_pos hs]
  have hs':((Txt.a0x (1+n)).size:Int)<2:=by omega
  rw[e];generalize Txt.a0x (1+n)=t at *
  cases late
  all_goals
   unfold b1O
   go_enter Tryz.func68,Tryz.ntmps68
   go_wp2_with (first
    |(go_at_call 22;refine NU.out.mono ?_;rintro e w1 ⟨rfl,hb⟩))
   go_ret;exact⟨rfl,hb⟩
 ·have e:b8V (1+n)=Txt.a0x (1+n):=by unfold b8V;rw[if_neg hs]
  have hs':¬ ((Txt.a0x (1+n)).size:Int)<2:=by omega
  rw[e];generalize Txt.a0x (1+n)=t at *
  cases late
  all_goals
   unfold b1O
   go_enter Tryz.func68,Tryz.ntmps68
   go_wp2_with (first
    |(go_at_call 22;refine NU.out.mono ?_;rintro e w1 ⟨rfl,hb⟩))
   go_ret;exact⟨rfl,hb⟩
def c5B(nm:ByteArray)(u fr til:Int):ByteArray:=(((((nm++(⟨#[32]⟩:ByteArray))++Txt.a0x u)++(⟨#[32]⟩:ByteArray))++Txt.a0x fr)++(⟨#[32]⟩:ByteArray))++Txt.a0x til
theorem b3U{fr til:Int}(hn:nm.size<=10)(hu:0<=u/\u<=9999999)(hf:0<=fr/\fr<=9999999)(ht:0<=til/\til<=9999999):(c5B nm u fr til).size<=40:=by
 have z1:=Txt.a0I u hu.1 hu.2;have z2:=Txt.a0I fr hf.1 hf.2;have z3:=Txt.a0I til ht.1 ht.2;unfold c5B;simp only[ByteArray.size_append];show nm.size+1+_+1+_+1+_<=40;omega
def a1P(nm:ByteArray)(u fr til:Int):Obj:=.cells #[.string nm,.int .i64 u,.int .i64 fr,.int .i64 til] 49 (0,0)
theorem b5S(w:World)(he:Env w)(nm:ByteArray)(u fr til:Int)(hn:nm.size<=10)(hu:0<=u/\u<=9999999)(hf:0<=fr/\fr<=9999999)(ht:0<=til/\til<=9999999):
  Calls Tryz.prog 28 #[.agg #[.string nm,.int .i64 u,.int .i64 fr,.int .i64 til]] w fun e w'=>e=.returned (.string (c5B nm u fr til))/\Below w.heap.size w w':=by
 have z1:=Txt.a0I u hu.1 hu.2;have z2:=Txt.a0I fr hf.1 hf.2;have z3:=Txt.a0I til ht.1 ht.2;have hX:Below w.heap.size w (w.alloc (a1P nm u fr til)).drew:=((zr _ _).alloc (zq _) _).drew;have hq:(w.alloc (a1P nm u fr til)).drew.heap[w.heap.size]?=some (a1P nm u fr til):=a0p w _;have NU:Hid (∀ W n,Below w.heap.size w W->0<=n/\n<=9999999->Calls Tryz.prog 22 #[.int .i64 n] W fun e w'=>e=.returned (.string (Txt.a0x n))/\Below W.heap.size W w'):=fun W n hW hn=>a6O n W (he.later hW) (by omega) (by omega)
 have AC:Hid (∀ W,Below (w.alloc (a1P nm u fr til)).drew.heap.size (w.alloc (a1P nm u fr til)).drew W->W.cell? ⟨w.heap.size,0,none⟩=some (.string nm)/\W.cell? ⟨w.heap.size,1,none⟩=some (.int .i64 u)/\W.cell? ⟨w.heap.size,2,none⟩=some (.int .i64 fr)/\W.cell? ⟨w.heap.size,3,none⟩=some (.int .i64 til)):=fun W hW=>by
  have:=(hW.block w.heap.size (Array.getElem?_eq_some_iff.1 hq).1).trans hq;unfold a1P at this;obtain⟨a0,a1,a2,a3,_⟩:=b1X this;exact⟨a0,a1,a2,a3⟩
 have HX:=a0b hX;clear hX hq he;have c0:=AC.out _ (zr _ _);obtain⟨c0,c1,c2,c3⟩:=c0;have sz0:¬ (9223372036854775807<nm.size+1):=by omega
 have sz1:¬ (9223372036854775807<nm.size+1+(Txt.a0x u).size):=by omega
 have sz2:¬ (9223372036854775807<nm.size+1+(Txt.a0x u).size+1):=by omega
 have sz3:¬ (9223372036854775807<nm.size+1+(Txt.a0x u).size+1+(Txt.a0x fr).size):=by omega
 have sz4:¬ (9223372036854775807<nm.size+1+(Txt.a0x u).size+1+(Txt.a0x fr).size+1):=by omega
 have sz5:¬ (9223372036854775807<nm.size+1+(Txt.a0x u).size+1+(Txt.a0x fr).size+1+(Txt.a0x til).size):=by omega
 have HU:=a0b hu;have HT:=a0b ht;have HR:=a0b hf;clear hu ht hf z1 z2 z3 hn
 go_enter Tryz.func28,Tryz.ntmps28
 go_upto_region 1 with fail
 change Code.wp _ _ _ _ (w.alloc (a1P nm u fr til));generalize w.alloc (a1P nm u fr til)=X at *
 go_region_held3 (fun w'=>w'.cell? ⟨w.heap.size,0,none⟩=some (.string nm)/\w'.cell? ⟨w.heap.size,1,none⟩=some (.int .i64 u)/\w'.cell? ⟨w.heap.size,2,none⟩=some (.int .i64 fr)/\w'.cell? ⟨w.heap.size,3,none⟩=some (.int .i64 til))
  (first
   |with_reducible exact AC.out _ HB3.out
   |with_reducible exact AC.out _ HB2.out
   |with_reducible exact AC.out _ HB1.out
   |exact⟨c0,c1,c2,c3⟩)
  (first
   |(go_at_call 22;refine (NU.out _ til (HX.out.trans (HB2.out.mono HX.out.size)) HT.out).mono ?_;rintro e w3 ⟨rfl,hb3⟩;have HB3:=a0b (a0j HB2.out hb3 (zq _));clear hb3)
   |(go_at_call 22;refine (NU.out _ fr (HX.out.trans (HB1.out.mono HX.out.size)) HR.out).mono ?_;rintro e w2 ⟨rfl,hb2⟩;have HB2:=a0b (a0j HB1.out hb2 (zq _));clear hb2)
   |(go_at_call 22;refine (NU.out _ u HX.out HU.out).mono ?_;rintro e w1 ⟨rfl,hb1⟩;have HB1:=a0b hb1;clear hb1))
 have HF:Hid (Below w.heap.size w w3):=HX.out.trans (HB3.out.mono HX.out.size);clear AC NU HB1 HB2 HB3
 go_wp2_with fail
 go_ret;exact⟨rfl,HF.out⟩
open Desk (Ent St Ids kept a0C a0Q a1C a2e ofB a0y a2c Mid a1H a0z Inv)
def Reads(t:ByteArray)(v:Value):Prop:=∀ e,a7T t e->e=.returned (.tuple #[v,.int .i64 0,.int .i64 0])
theorem a5G{t:ByteArray}{n:Nat}(hw:Txt.a1v t=ws)(hs:t.size<=160)(hl:a2H ws v (n,false))(hn:n=ws.length):Reads t v:=fun e he=>by
 subst hw;exact a8v he (.e6J hs v (n,false) hl rfl (by simp[a1b,hn]))
theorem c5P(h0:1<=n)(h1:n<=9):unB (Txt.a0x n)=true/\nvF (Txt.a0x n)=n/\Txt.a3V (Txt.a0x n).data.toList=true:=by
 obtain⟨a,b⟩:=Txt.b6O (n:=n) (by omega) (by omega);refine⟨?_,b,Txt.b3l (by omega)⟩;unfold unB a0K;rw[a,b];simp[h0,h1]
theorem f5w(h0:1<=n)(h1:n<=1048320):miB (Txt.a0x n)=true/\nvF (Txt.a0x n)=n/\Txt.a3V (Txt.a0x n).data.toList=true:=by
 obtain⟨a,b⟩:=Txt.b6O (n:=n) (by omega) (by omega);refine⟨?_,b,Txt.b3l (by omega)⟩;unfold miB a0K;rw[a,b];simp[h0,h1]
theorem f6A(h0:0<=n)(h1:n<=9999999):idB (Txt.a0x n)=true/\nvF (Txt.a0x n)=n/\Txt.a3V (Txt.a0x n).data.toList=true:=by
 obtain⟨a,b⟩:=Txt.b6O (n:=n) (by omega) (by omega);exact⟨a,b,Txt.b3l (by omega)⟩
theorem b1q(h0:0<=n)(h1:n<=1048320):a0n (Txt.a0x n)=true/\a1J (Txt.a0x n)=n/\Txt.a3V (Txt.a0x n).data.toList=true:=by
 obtain⟨a,b⟩:=Txt.b6O (n:=n) (by omega) (by omega);have v:a8J (Txt.a0x n)=n:=by unfold a8J;rw[a,b];rfl
 have t:a0n (Txt.a0x n)=true:=by unfold a0n;rw[a,v];simp[h0,h1]
 exact⟨t,by unfold a1J;rw[t,v];rfl,Txt.b3l (by omega)⟩
structure Nm(nm:ByteArray):Prop where
 b:nmB nm=true
 w:Txt.a3V nm.data.toList=true
 s:nm.size=1
theorem c7k:Nm ⟨#[97]⟩:=⟨by decide +kernel,by decide +kernel,by decide +kernel⟩
theorem c7j:Nm ⟨#[98]⟩:=⟨by decide +kernel,by decide +kernel,by decide +kernel⟩
theorem g3c:Nm ⟨#[99]⟩:=⟨by decide +kernel,by decide +kernel,by decide +kernel⟩
theorem a8A{n:Nat}{x:ByteArray}(h:ws[n]?=some x)(hB:nmB x=true):a2F ws (n,false)=x:=by
 obtain⟨y,hy,e⟩:=a2Q (ws:=ws) (st:=(n,false)) (by rw[(takes h hB).1]);have hn:n<ws.length:=(List.getElem?_eq_some_iff.1 h).1;have hg:ws.getD n ByteArray.empty=x:=by rw[List.getD_eq_getElem?_getD,h];rfl
 have t:tkB ws n false (fun s=>Txt.a1j s.data.toList)=true:=by
  unfold tkB;rw[hg];have:Txt.a1j x.data.toList=true:=hB;simp[a1b,hn,this]
 unfold a2F tkS;rw[t,hg];exact if_pos hB
theorem a8t:Txt.a3V a3F.data.toList=true/\Txt.a3V a9P.data.toList=true/\Txt.a3V b5f.data.toList=true/\Txt.a3V b4k.data.toList=true/\Txt.a3V a6m.data.toList=true/\Txt.a3V a4z.data.toList=true/\Txt.a3V a5Q.data.toList=true/\Txt.a3V a9a.data.toList=true/\Txt.a3V b5h.data.toList=true/\Txt.a3V b4n.data.toList=true:=by decide +kernel
theorem a8K{t:ByteArray}(hn:Nm nm)(hu:1<=u/\u<=9)(ht:t.data.toList=a3F.data.toList++32 :: (nm.data.toList++32 :: (Txt.a0x u).data.toList)):
  Reads t (.iface 149 (.agg #[.string nm,.int .i64 u])):=by
 obtain⟨u1,u2,u3⟩:=c5P hu.1 hu.2
 have hw:Txt.a1v t=[a3F,nm,Txt.a0x u]:=by
  refine Txt.a5p ?_ ?_
  ·rw[ht];simp only[List.map_cons,List.map_nil,Txt.a6Q,Txt.b3k]
  ·intro x hx;simp only[List.mem_cons,List.not_mem_nil,or_false] at hx;rcases hx with rfl|rfl|rfl
   ·exact a8t.1
   ·exact hn.w
   ·exact u3
 have hs:t.size<=160:=by
  have a:=Txt.a0I u (by omega) (by omega);rw[<- Txt.a1l] at a ⊢;rw[ht];have:=hn.s;rw[<- Txt.a1l] at this;simp only[List.length_append,List.length_cons];have:a3F.data.toList.length=5:=rfl;omega
 have t1:=takes (ws:=[a3F,nm,Txt.a0x u]) (n:=1) (x:=nm) (B:=nmB) rfl hn.b;have t2:=takes (ws:=[a3F,nm,Txt.a0x u]) (n:=2) (x:=Txt.a0x u) (B:=unB) rfl u1;have h:=a2H.a0k (ws:=[a3F,nm,Txt.a0x u]) (b1P rfl);simp only[a4T,a6y,t1.1,t2.1,t2.2,a8A (ws:=[a3F,nm,Txt.a0x u]) (n:=1) rfl hn.b,u2] at h;exact a5G hw hs h rfl
theorem b8g{t:ByteArray}(hn:Nm nm)(ht:t.data.toList=a5Q.data.toList++32 :: nm.data.toList):
  Reads t (.iface 170 (.agg #[.string nm,.bool false,.int .i64 0,.int .i64 0])):=by
 have hw:Txt.a1v t=[a5Q,nm]:=by
  refine Txt.a5p ?_ ?_
  ·rw[ht];simp only[List.map_cons,List.map_nil,Txt.a6Q,Txt.b3k]
  ·intro x hx;simp only[List.mem_cons,List.not_mem_nil,or_false] at hx;rcases hx with rfl|rfl
   ·exact a8t.2.2.2.2.2.2.1
   ·exact hn.w
 have hs:t.size<=160:=by
  rw[<- Txt.a1l];rw[ht];have:=hn.s;rw[<- Txt.a1l] at this;simp only[List.length_append,List.length_cons];have:a5Q.data.toList.length=4:=rfl;omega
 have t1:=takes (ws:=[a5Q,nm]) (n:=1) (x:=nm) (B:=nmB) rfl hn.b;have h:=a2H.list0 (ws:=[a5Q,nm]) (b1P rfl) (by simp only[a4T,a6y,t1.1];rfl);simp only[a4T,a6y,t1.1,a8A (ws:=[a5Q,nm]) (n:=1) rfl hn.b] at h;exact a5G hw hs h rfl
theorem c3J(x nm:ByteArray)(u fr til:Int):((x++c5B nm u fr til)).data.toList=x.data.toList++(nm.data.toList++32 :: ((Txt.a0x u).data.toList++32 :: ((Txt.a0x fr).data.toList++32 :: (Txt.a0x til).data.toList))):=by
 unfold c5B;simp only[Txt.a1X,List.append_assoc];rfl
def g2m(w:ByteArray)(lo hi:Int):Bool:=decide (lo<=b4g w 1 7/\b4g w 1 7<=hi)
def g2B(sym w:ByteArray):Bool :=
 if sym.toList==[78,65,77,69] then Txt.a1j w.data.toList else
 if sym.toList==[85,78,73,84,83] then g2m w 1 9 else
 if sym.toList==[77,73,78,85,84,69,83] then g2m w 1 1048320 else
 if sym.toList==[69,86,69,82,89] then g2m w 1 99 else
 if sym.toList==[73,68] then decide (0<=b4g w 1 7) else
 if sym.toList==[84,73,77,69] then decide (0<=g2T w) else
 if sym.toList==[68,65,84,69] then decide (0<=g2R w/\g2R w<728) else
 if sym.toList==[77,73,78,85,84,69] then decide (0<=c5N w) else
 if sym.toList==[79,78] then Txt.onB w else
 sym.toList==w.toList
theorem c9G{base base' size n:Nat}(h:w.ownsRow base e size v n xs)(hb:base'<=base):w.ownsRow base' e size v n xs:=by
 refine⟨h.1,?_⟩;rcases h.2 with h0|⟨g,cap,cur,hv,hg,rest⟩
 ·exact .inl h0
 ·exact .inr ⟨g,cap,cur,hv,Nat.le_trans hb hg,rest⟩
theorem c9H{base size n:Nat}(h:w.ownsRow base e size v n xs)(hb:Below w.heap.size w w'):w'.ownsRow base e size v n xs:=by
 refine⟨h.1,?_⟩;rcases h.2 with h0|⟨g,cap,cur,hv,hg,hh,rest⟩
 ·exact .inl h0
 ·refine .inr ⟨g,cap,cur,hv,hg,?_,rest⟩
  have:g<w.heap.size:=by
   by_cases hl:g<w.heap.size
   ·exact hl
   ·rw[Array.getElem?_eq_none (by omega)] at hh;cases hh
  rw[hb.block g this];exact hh
theorem d8s{base n:Nat}(h:w.ownsRow base e 1 v n xs)(hn:0<n):∃ g cap,v=.slice (some ⟨g,0,none⟩) n cap/\base<=g/\g<w.heap.size/\∀ j u,xs[j]?=some u->w.cell? (Addr.add ⟨g,0,none⟩ j)=some u:=by
 rcases h.2 with ⟨_,h0⟩|⟨g,cap,cur,hv,hg,hh,hc,_,hs,ht⟩
 ·omega
 ·have hl:g<w.heap.size:=by
   by_cases hl:g<w.heap.size
   ·exact hl
   ·rw[Array.getElem?_eq_none (by omega)] at hh;cases hh
  refine⟨g,cap,hv,hg,hl,fun j u hj=>?_⟩
  have ha:Addr.add ⟨g,0,none⟩ j=⟨g,j,none⟩:=by
   unfold Addr.add;split
   ·subst_vars;rfl
   ·simp
  have hjn:j<n:=by
   have h1:=h.1;have:=(List.getElem?_eq_some_iff.1 hj).1;omega
  have hcur:cur[j]?=some u:=by
   rw[<- ht,List.getElem?_take,if_pos (by omega)] at hj
   simpa using hj
  rw[ha];simp[World.cell?,hh,hcur]
def pre:List ByteArray->List ByteArray->Nat
 |s :: p,w :: ws=>if g2B s w then pre p ws+1 else 0
 |_,_=>0
def scan:List (List ByteArray)->List ByteArray->Nat->Option (List ByteArray) × Nat
 |[],_,m=>(none,m)
 |p :: ps,ws,m=>if pre p ws=p.length/\pre p ws=ws.length then (some p,0) else scan ps ws (if m<pre p ws then pre p ws else m)
def g2n:List (List ByteArray):=patsL.map Txt.a1v
def g0V(s:ByteArray):Option (List ByteArray) × Nat:=scan g2n (Txt.a1v s) 0
structure Row(w:World)(a:Option Addr)(g:Nat)(xs:List ByteArray):Prop where
 at_:0<xs.length->a=some ⟨g,0,none⟩
 cells:∀ (j:Nat) (h:j<xs.length),w.cell? ⟨g,j,none⟩=some (.string xs[j])
theorem e0O{base n:Nat}{xs:List ByteArray}(h:w.ownsRow base 9 1 v n (xs.map Value.string))(hn:n=xs.length):∃ a cap g,v=.slice a xs.length cap/\Row w a g xs:=by
 subst hn
 by_cases h0:0<xs.length
 ·obtain⟨g,cap,hv,_,_,hc⟩:=d8s h h0;refine⟨some ⟨g,0,none⟩,cap,g,hv,fun _=>rfl,fun j hj=>?_⟩;have:=hc j (.string xs[j]) (by simp[hj])
  have ha:Addr.add ⟨g,0,none⟩ j=⟨g,j,none⟩:=by
   unfold Addr.add;split
   ·subst_vars;rfl
   ·simp
  rwa [ha] at this
 ·rcases h.2 with ⟨hv,h1⟩|⟨g,cap,cur,hv,_⟩
  ·exact⟨none,0,0,by rw[hv,h1],fun h=>absurd h h0,fun j hj=>absurd hj (by omega)⟩
  ·exact⟨_,cap,g,hv,fun h=>absurd h h0,fun j hj=>absurd hj (by omega)⟩
def RR(s:ByteArray)(w':World)(e:Ending):Prop :=
 (∃ (p:List ByteArray) (a b:Option Addr) (c d g h:Nat),g0V s=(some p,0)/\e=.returned (.tuple #[.slice a (Txt.a1v s).length c,.slice b p.length d,.int .i64 0,.int .i64 0])/\Row w' a g (Txt.a1v s)/\Row w' b h p) \/
 (∃ m:Nat,g0V s=(none,m)/\e=.returned (.tuple #[.slice none 0 0,.slice none 0 0,.int .i64 2,.int .i64 m]))
theorem f2O(h:a=b):Ending.returned (.string a)=.returned (.string b):=by rw[h]
def g2O:Value->Nat
 |.string s=>s.size
 |_=>0
theorem f2P(j:Nat)(t:ByteArray):(⟨#[48]⟩:ByteArray)++Txt.pz j t=Txt.pz (j+1) t:=by
 apply Txt.a7x;rw[Txt.a1X,Txt.e2g,Txt.e2g,List.replicate_succ];rfl
theorem g2o(n:Int)(size:Nat)(w:World)(he:Env w)(h0:0<=n)(h1:n<=9999999)(hs:size<=9):
  Calls Tryz.prog 128 #[.int .i64 n,.int .i64 size] w fun e w'=>e=.returned (.string (Txt.b8V n size))/\Below w.heap.size w w':=by
 have hz:=Txt.a0I n h0 h1;have HE:=hide he;clear he
 go_enter Tryz.func128,Tryz.ntmps128
 go_wp2_with fail
 refine (c2Y n w (a0d HE) (by omega) (by omega)).mono ?_;rintro e w1 ⟨rfl,hb1⟩;go_wp2
 go_loop [5] (fun t=>∃ j:Nat,j<=size-(Txt.a0x n).size/\t=.string (Txt.pz j (Txt.a0x n))) (fun t=>size-g2O t)
 case atStart=>exact⟨0,Nat.zero_le _,rfl⟩
 case round =>
  obtain⟨j,hj,rfl⟩:=hrel;have pzz:=Txt.e2f j (Txt.a0x n);have HZ:=hide pzz;have pb:(Txt.pz j (Txt.a0x n)).size<=20:=by omega
  clear pzz
  by_cases hlt:(Txt.pz j (Txt.a0x n)).size<size
  ·have hlt':((Txt.pz j (Txt.a0x n)).size:Int)<(size:Int):=by omega
   have HN:=hide (f2P j (Txt.a0x n));have HZ2:Hid (((⟨#[48]⟩:ByteArray)++Txt.pz j (Txt.a0x n)).size=1+(Txt.pz j (Txt.a0x n)).size):=ByteArray.size_append;go_wp2
   go_round
   case rel=>exact⟨j+1,by have:=a0d HZ;omega,by rw[a0d HN]⟩
   case measure =>
    have q:=a0d HZ2;show size-((⟨#[48]⟩:ByteArray)++Txt.pz j (Txt.a0x n)).size<size-(Txt.pz j (Txt.a0x n)).size;omega
  ·have hlt':¬ ((Txt.pz j (Txt.a0x n)).size:Int)<(size:Int):=by omega
   have HJ:Hid (Txt.b8V n size=Txt.pz j (Txt.a0x n)):=by
    show Txt.b8V n size=_;unfold Txt.b8V;rw[show size-(Txt.a0x n).size=j from by have:=a0d HZ;omega]
   go_wp2;go_ret;exact⟨f2O (by rw[HJ.out]),hb1⟩
theorem d0r(n:Int)(w:World)(he:Env w)(h0:-9223372036854775808<=n)(h1:n<=9223372036854775807):
  Calls Tryz.prog 327 #[.int .i64 n] w fun e w'=>e=.returned (.string (Txt.a0x n))/\Below w.heap.size w w':=by
 have HE:=hide he;clear he
 go_enter Tryz.func327,Tryz.ntmps327
 go_wp2_with fail
 refine (c2Y n w (a0d HE) h0 h1).mono ?_;rintro e w1 ⟨rfl,hb1⟩;go_wp2;go_ret;exact⟨rfl,hb1⟩
theorem d3g(n:Int)(size:Nat)(w:World)(he:Env w)(h0:0<=n)(h1:n<=9999999)(hs:size<=9):
  Calls Tryz.prog 333 #[.int .i64 n,.int .i64 size] w fun e w'=>e=.returned (.string (Txt.b8V n size))/\Below w.heap.size w w':=by
 have hz:=Txt.a0I n h0 h1;have HE:=hide he;clear he
 go_enter Tryz.func333,Tryz.ntmps333
 go_wp2_with fail
 refine (d0r n w (a0d HE) (by omega) (by omega)).mono ?_;rintro e w1 ⟨rfl,hb1⟩;go_wp2
 go_loop [5] (fun t=>∃ j:Nat,j<=size-(Txt.a0x n).size/\t=.string (Txt.pz j (Txt.a0x n))) (fun t=>size-g2O t)
 case atStart=>exact⟨0,Nat.zero_le _,rfl⟩
 case round =>
  obtain⟨j,hj,rfl⟩:=hrel;have pzz:=Txt.e2f j (Txt.a0x n);have HZ:=hide pzz;have pb:(Txt.pz j (Txt.a0x n)).size<=20:=by omega
  clear pzz
  by_cases hlt:(Txt.pz j (Txt.a0x n)).size<size
  ·have hlt':((Txt.pz j (Txt.a0x n)).size:Int)<(size:Int):=by omega
   have HN:=hide (f2P j (Txt.a0x n));have HZ2:Hid (((⟨#[48]⟩:ByteArray)++Txt.pz j (Txt.a0x n)).size=1+(Txt.pz j (Txt.a0x n)).size):=ByteArray.size_append;go_wp2
   go_round
   case rel=>exact⟨j+1,by have:=a0d HZ;omega,by rw[a0d HN]⟩
   case measure =>
    have q:=a0d HZ2;show size-((⟨#[48]⟩:ByteArray)++Txt.pz j (Txt.a0x n)).size<size-(Txt.pz j (Txt.a0x n)).size;omega
  ·have hlt':¬ ((Txt.pz j (Txt.a0x n)).size:Int)<(size:Int):=by omega
   have HJ:Hid (Txt.b8V n size=Txt.pz j (Txt.a0x n)):=by
    show Txt.b8V n size=_;unfold Txt.b8V;rw[show size-(Txt.a0x n).size=j from by have:=a0d HZ;omega]
   go_wp2;go_ret;exact⟨f2O (by rw[HJ.out]),hb1⟩
def f4t(y m d:Int):ByteArray:=Txt.b8V y 4++⟨#[45]⟩++Txt.b8V m 2++⟨#[45]⟩++Txt.b8V d 2
def d8f(n:Int):ByteArray:=Txt.b8V (n / 60) 2++⟨#[58]⟩++Txt.b8V (n % 60) 2
theorem d2S(n:Int)(w:World)(he:Env w)(h0:0<=n)(h1:n<1440):
  Calls Tryz.prog 332 #[.int .i64 n] w fun e w'=>e=.returned (.string (d8f n))/\Below w.heap.size w w':=by
 have HE:=hide he;have z1:=Txt.d1q (n / 60) 2 (by omega) (by omega);have z2:=Txt.d1q (n % 60) 2 (by omega) (by omega);clear he
 go_enter Tryz.func332,Tryz.ntmps332
 go_wp2_with fail
 refine (d3g (n / 60) 2 w (a0d HE) (by omega) (by omega) (by omega)).mono ?_;rintro e w1 ⟨rfl,hb1⟩
 go_wp2_with fail
 refine (d3g (n % 60) 2 w1 ((a0d HE).later hb1) (by omega) (by omega) (by omega)).mono ?_;rintro e w2 ⟨rfl,hb2⟩;have hbb:=hb1.trans (hb2.mono hb1.size);go_wp2;go_ret;exact⟨rfl,hbb⟩
theorem e5d(n:Int)(w:World)(he:Env w)(h0:-738885<=n)(h1:n<=2913173):
  Calls Tryz.prog 331 #[.int .i64 n] w fun e w'=>(∃ y m d,e=.returned (.string (f4t y m d))/\Cal.ok y m d=true/\Cal.num y m d=n)/\Below w.heap.size w w':=by
 have HE:=hide he;clear he
 go_enter Tryz.func331,Tryz.ntmps331
 go_wp2_with fail
 refine (b5w n w (a0d HE).tab h0 h1).mono ?_;rintro e w1 ⟨y,m,d,rfl,hok,hnum,rfl⟩;have HO:=hide hok;have HN:=hide hnum;obtain⟨y1,y2,m1,m2,d1,d2⟩:=(Cal.a2K y m d).1 hok;have db:=Cal.b3I y m;have z1:=Txt.d1q y 4 (by omega) (by omega);have z2:=Txt.d1q m 2 (by omega) (by omega);have z3:=Txt.d1q d 2 (by omega) (by omega);clear hok hnum
 go_wp2_with fail
 refine (d3g y 4 _ (a0d HE) (by omega) (by omega) (by omega)).mono ?_;rintro e w2 ⟨rfl,hb2⟩
 go_wp2_with fail
 refine (d3g m 2 _ ((a0d HE).later hb2) (by omega) (by omega) (by omega)).mono ?_;rintro e w3 ⟨rfl,hb3⟩;have hb23:=hb2.trans (hb3.mono hb2.size)
 go_wp2_with fail
 refine (d3g d 2 _ ((a0d HE).later hb23) (by omega) (by omega) (by omega)).mono ?_;rintro e w4 ⟨rfl,hb4⟩;have hb24:=hb23.trans (hb4.mono hb23.size);go_wp2;go_ret;exact⟨⟨y,m,d,rfl,a0d HO,a0d HN⟩,hb24⟩
def d0L(n:Int):ByteArray:=f4t (Cal.yT n) (Cal.mT n) (Cal.dT n)
def c8H(t:Int):ByteArray:=d0L (t / 1440)++⟨#[47]⟩++d8f (t % 1440)
theorem f1E(y m d:Int)(h:Cal.ok y m d=true):(f4t y m d).size<=40:=by
 obtain⟨y1,y2,m1,m2,d1,d2⟩:=(Cal.a2K y m d).1 h;have db:=Cal.b3I y m;have z1:=Txt.d1q y 4 (by omega) (by omega);have z2:=Txt.d1q m 2 (by omega) (by omega);have z3:=Txt.d1q d 2 (by omega) (by omega);have e3:(⟨#[45]⟩:ByteArray).size=1:=by decide
 unfold f4t;simp only[ByteArray.size_append];omega
theorem f3v(n:Int)(h0:0<=n)(h1:n<1440):(d8f n).size<=19:=by
 have z1:=Txt.d1q (n / 60) 2 (by omega) (by omega);have z2:=Txt.d1q (n % 60) 2 (by omega) (by omega);have e3:(⟨#[58]⟩:ByteArray).size=1:=by decide
 unfold d8f;simp only[ByteArray.size_append];omega
theorem f1D(n:Int)(h0:-738885<=n)(h1:n<=2913173):(d0L n).size<=40:=f1E _ _ _ (Cal.c6G n h0 h1).1
theorem d3R(n:Int)(w:World)(he:Env w)(h0:-738885<=n)(h1:n<=2913173):
  Calls Tryz.prog 331 #[.int .i64 n] w fun e w'=>e=.returned (.string (d0L n))/\Below w.heap.size w w':=by
 refine (e5d n w he h0 h1).mono ?_;rintro e w' ⟨⟨y,m,d,rfl,hok,hnum⟩,hb⟩;obtain⟨rfl,rfl,rfl⟩:=Cal.c4g y m d n hok hnum;exact⟨rfl,hb⟩
theorem d2x(t:Int)(w:World)(he:Env w)(h0:0<=t)(h1:t<=1048320):
  Calls Tryz.prog 330 #[.int .i64 t] w fun e w'=>e=.returned (.string (c8H t))/\Below w.heap.size w w':=by
 have HE:=hide he;clear he;have z1:=f1D (t / 1440) (by omega) (by omega);have z2:=f3v (t % 1440) (by omega) (by omega)
 go_enter Tryz.func330,Tryz.ntmps330
 go_wp2_with fail
 refine (d3R (t / 1440) w (a0d HE) (by omega) (by omega)).mono ?_;rintro e w1 ⟨rfl,hb1⟩
 go_wp2_with fail
 refine (d2S (t % 1440) w1 ((a0d HE).later hb1) (by omega) (by omega)).mono ?_;rintro e w2 ⟨rfl,hb2⟩;have hbb:=hb1.trans (hb2.mono hb1.size);go_wp2;go_ret;exact⟨rfl,hbb⟩
def e0s(k:Nat):ByteArray:=⟨(a3C k).toArray⟩
def d5A(acc:List Int):Nat->ByteArray
 |0=>⟨#[]⟩
 |k+1=>if isd acc k then d5A acc k++⟨#[44]⟩++e0s k else d5A acc k
def onT(acc:List Int):ByteArray:=(d5A acc 7).extract 1 (d5A acc 7).size
theorem e4d(k:Nat):(e0s k).size=2:=by
 unfold e0s a3C;split <;> rfl
theorem e0W(acc:List Int):∀ k:Nat,(d5A acc k).size<=3*k
 |0=>zq _
 |k+1=>by
  have ih:=e0W acc k;have n:=e4d k;have e3:(⟨#[44]⟩:ByteArray).size=1:=by decide
  unfold d5A
  split
  ·simp only[ByteArray.size_append];omega
  ·omega
theorem e0V(acc:List Int)(d:Nat)(h:isd acc d=true):∀ k:Nat,d<k->1<=(d5A acc k).size
 |0,hk=>by omega
 |k+1,hk=>by
  have n:=e4d k;unfold d5A
  by_cases e:d=k
  ·subst e;rw[if_pos h];simp only[ByteArray.size_append];omega
  ·have:=e0V acc d h k (by omega)
   split
   ·simp only[ByteArray.size_append];omega
   ·exact this
theorem f0z{d:Int}{r:List Int}(h:Txt.a4D acc d=some r)(hd:d<=6):∃ x:Nat,x<7/\isd r x=true:=by
 unfold Txt.a4D at h
 split at h
 ·rename_i hc
  cases h
  exact⟨d.toNat,by omega,by simp[isd,show ((d.toNat:Nat):Int)=d from by omega]⟩
 ·cases h
theorem e8a:∀ (l:List UInt8)(acc r:List Int),Txt.onC l acc=some r->∃ x:Nat,x<7/\isd r x=true
 |[],_,_,h=>by simp[Txt.onC] at h
 |[_],_,_,h=>by simp[Txt.onC] at h
 |[a,b],acc,r,h=>f0z (acc:=acc) (d:=Txt.wdL [a,b]) h (Txt.c3Q [a,b]).2
 |a :: b :: c :: l,acc,r,h=>by
  unfold Txt.onC at h
  split at h
  ·simp only[Option.bind_eq_some_iff] at h;obtain⟨x,_,h⟩:=h;exact e8a l x r h
  ·cases h
theorem g1e(h:Txt.onW s=some acc):1<=(d5A acc 7).size:=by
 obtain⟨x,hx,hi⟩:=e8a _ _ _ h;exact e0V acc x hi 7 hx
def WR(w w':World)(xs:List ByteArray)(e:Ending):Prop:=∃ v,e=.returned v/\w'.ownsRow w.heap.size 9 1 v xs.length (xs.map Value.string)/\Below w.heap.size w w'
theorem d1j(w x:World)(xs:List ByteArray)(b:Nat)(hb:w.heap.size<=b)(hh:x.heap[b]?=some (.cells (xs.map Value.string).toArray 9))(h0:xs.length<=160):x.ownsRow w.heap.size 9 1 (.slice (some ⟨b,0,none⟩) xs.length xs.length) xs.length (xs.map Value.string):=by
 refine⟨by simp,.inr ⟨b,xs.length,(xs.map Value.string).toArray,rfl,hb,hh,Nat.le_refl _,by unfold maxLen;omega,by simp,?_⟩⟩;exact List.take_of_length_le (by simp)
theorem c8d(h:Below w0.heap.size w0 x)(hb:Below x.heap.size x y):Below w0.heap.size w0 y:=h.trans (hb.mono h.size)
theorem c7Y(w:World):Below w.heap.size w w.drew:=⟨rfl,rfl,rfl,Nat.le_refl _,fun _ _=>rfl⟩
theorem f6H(u:Int)(w:World)(he:Env w)(u0:0<=u)(u1:u<=9999999):
  Calls Tryz.prog 340 #[.agg #[.int .i64 u]] w fun e w'=>WR w w' [a4z,Txt.a0x u] e:=by
 go_enter Tryz.func340,Tryz.ntmps340
 go_wp2_with fail
 obtain⟨X,hX⟩:∃ X,X=w.alloc (.cells #[.int .i64 u] 167):=⟨_,rfl⟩;rw[<- hX];have hbX:Below w.heap.size w X:=by rw[hX];exact (zr _ _).alloc (zq _) _
 have eX:=he.later hbX;clear hX he;refine (d0r u X eX (by omega) (by omega)).mono ?_;rintro e w4 ⟨rfl,hbf⟩;have hb4:=c8d hbX hbf;have hs4:=hb4.size;go_wp2;go_ret;exact⟨_,rfl,d1j w _ [a4z,Txt.a0x u] w4.heap.size hs4 (heap_alloc_new w4 _) (show 2<=160 by omega),c8d hb4 ((zr _ _).alloc (zq _) _)⟩
theorem f9A(u:Int)(w:World)(he:Env w)(u0:0<=u)(u1:u<=9999999):
  Calls Tryz.prog 341 #[.agg #[.int .i64 u]] w fun e w'=>WR w w' [a6m,Txt.a0x u] e:=by
 go_enter Tryz.func341,Tryz.ntmps341
 go_wp2_with fail
 obtain⟨X,hX⟩:∃ X,X=w.alloc (.cells #[.int .i64 u] 168):=⟨_,rfl⟩;rw[<- hX];have hbX:Below w.heap.size w X:=by rw[hX];exact (zr _ _).alloc (zq _) _
 have eX:=he.later hbX;clear hX he;refine (d0r u X eX (by omega) (by omega)).mono ?_;rintro e w4 ⟨rfl,hbf⟩;have hb4:=c8d hbX hbf;have hs4:=hb4.size;go_wp2;go_ret;exact⟨_,rfl,d1j w _ [a6m,Txt.a0x u] w4.heap.size hs4 (heap_alloc_new w4 _) (show 2<=160 by omega),c8d hb4 ((zr _ _).alloc (zq _) _)⟩
theorem g2q(u:Int)(w:World)(he:Env w)(u0:0<=u)(u1:u<=9999999):
  Calls Tryz.prog 347 #[.agg #[.int .i64 u]] w fun e w'=>WR w w' [b4n,Txt.a0x u] e:=by
 go_enter Tryz.func347,Tryz.ntmps347
 go_wp2_with fail
 obtain⟨X,hX⟩:∃ X,X=w.alloc (.cells #[.int .i64 u] 182):=⟨_,rfl⟩;rw[<- hX];have hbX:Below w.heap.size w X:=by rw[hX];exact (zr _ _).alloc (zq _) _
 have eX:=he.later hbX;clear hX he;refine (d0r u X eX (by omega) (by omega)).mono ?_;rintro e w4 ⟨rfl,hbf⟩;have hb4:=c8d hbX hbf;have hs4:=hb4.size;go_wp2;go_ret;exact⟨_,rfl,d1j w _ [b4n,Txt.a0x u] w4.heap.size hs4 (heap_alloc_new w4 _) (show 2<=160 by omega),c8d hb4 ((zr _ _).alloc (zq _) _)⟩
theorem d2Z(k n:ByteArray)(u a b:Int)(w:World)(he:Env w)(u0:0<=u)(u1:u<=9999999)(a0:0<=a)(a1:a<=1048320)(b0:0<=b)(b1:b<=1048320):
  Calls Tryz.prog 329 #[.string k,.agg #[.string n,.int .i64 u,.int .i64 a,.int .i64 b]] w fun e w'=>WR w w' [k,n,Txt.a0x u,c8H a,c8H b] e:=by
 go_enter Tryz.func329,Tryz.ntmps329
 go_wp2_with fail
 obtain⟨X,hX⟩:∃ X,X=w.alloc (.cells #[.string n,.int .i64 u,.int .i64 a,.int .i64 b] 151):=⟨_,rfl⟩;rw[<- hX];have hbX:Below w.heap.size w X:=by rw[hX];exact (zr _ _).alloc (zq _) _
 have eX:=he.later hbX;have x0:X.cell? ⟨w.heap.size,0,none⟩=some (.string n):=by rw[hX];simp
 have x1:X.cell? ⟨w.heap.size,1,none⟩=some (.int .i64 u):=by rw[hX];simp
 have x2:X.cell? ⟨w.heap.size,2,none⟩=some (.int .i64 a):=by rw[hX];simp
 have x3:X.cell? ⟨w.heap.size,3,none⟩=some (.int .i64 b):=by rw[hX];simp
 have xs:w.heap.size<X.heap.size:=by rw[hX];simp
 clear hX he
 go_region_held3 (fun w'=>Env w'/\Below w.heap.size w w'/\w.heap.size<w'.heap.size/\w'.cell? ⟨w.heap.size,0,none⟩=some (.string n)/\w'.cell? ⟨w.heap.size,1,none⟩=some (.int .i64 u)/\w'.cell? ⟨w.heap.size,2,none⟩=some (.int .i64 a)/\w'.cell? ⟨w.heap.size,3,none⟩=some (.int .i64 b))
  (first
   |(refine⟨?_,?_,?_,?_,?_,?_,?_⟩ <;> go_keep)
   |(go_split_ands;exact⟨Env.later (by assumption) hbf,c8d (by assumption) hbf,Nat.lt_of_lt_of_le (by assumption) (Below.size hbf),cell_later hbf (by assumption),cell_later hbf (by assumption),cell_later hbf (by assumption),cell_later hbf (by assumption)⟩)
   |(go_split_ands;exact⟨Env.later (by assumption) ((zr _ _).alloc (zq _) _),c8d (by assumption) ((zr _ _).alloc (zq _) _),Nat.lt_of_lt_of_le (by assumption) (Below.size ((zr _ _).alloc (zq _) _)),cell_later ((zr _ _).alloc (zq _) _) (by assumption),cell_later ((zr _ _).alloc (zq _) _) (by assumption),cell_later ((zr _ _).alloc (zq _) _) (by assumption),cell_later ((zr _ _).alloc (zq _) _) (by assumption)⟩)
   |(go_split_ands;exact⟨Env.later (by assumption) (c7Y _),c8d (by assumption) (c7Y _),Nat.lt_of_lt_of_le (by assumption) (Below.size (c7Y _)),cell_later (c7Y _) (by assumption),cell_later (c7Y _) (by assumption),cell_later (c7Y _) (by assumption),cell_later (c7Y _) (by assumption)⟩))
  (first
   |(go_at_call 327;go_split_ands;refine (d0r _ _ (by assumption) (by omega) (by omega)).mono ?_;rintro e w4 ⟨rfl,hbf⟩)
   |(go_at_call 330;go_split_ands;refine (d2x _ _ (by assumption) (by omega) (by omega)).mono ?_;rintro e w4 ⟨rfl,hbf⟩))
 go_split_ands
 have hbE:Below w.heap.size w (w4.alloc (.cells #[.string k,.string n,.string (Txt.a0x u),.string (c8H a),.string (c8H b)] 9)):=by assumption
 have hsE:w.heap.size<(w4.alloc (.cells #[.string k,.string n,.string (Txt.a0x u),.string (c8H a),.string (c8H b)] 9)).heap.size:=by assumption
 have hsF:w.heap.size<w4.heap.size+1:=by simpa using hsE
 have HBE:=hide hbE;have HSF:Hid (w.heap.size<=w4.heap.size):=by show w.heap.size<=w4.heap.size;omega
 go_wp2;go_ret;exact⟨_,rfl,d1j w _ [k,n,Txt.a0x u,c8H a,c8H b] w4.heap.size HSF.out (heap_alloc_new w4 _) (show 5<=160 by omega),HBE.out⟩
theorem c8V(hB:B<=x.heap.size)(h:Below B x y)(hb:Below y.heap.size y z):Below B x z:=h.trans (hb.mono (zt hB h.size))
theorem d1E(h:Below B x y)(hb:Below y.heap.size y z):x.heap.size<=z.heap.size:=zt h.size hb.size
theorem Env.of10(h:Env x)(hB:10<=B)(hb:Below B x y):Env y:=by
 obtain⟨m,hm⟩:=h.c5L;have hc:∀ (b o:Nat) (v:Value),b<10->x.cell? ⟨b,o,none⟩=some v->y.cell? ⟨b,o,none⟩=some v:=fun b o v hb' e=>(hb.cell (p:=⟨b,o,none⟩) (show b<B by omega)).trans e
 obtain⟨c0,c1,c2,c3,c4,c5,c6,c7,c8,c9,c10,c11⟩:=h.tab;refine⟨⟨hc _ _ _ (by omega) c0,hc _ _ _ (by omega) c1,hc _ _ _ (by omega) c2,hc _ _ _ (by omega) c3,hc _ _ _ (by omega) c4,hc _ _ _ (by omega) c5,hc _ _ _ (by omega) c6,hc _ _ _ (by omega) c7,hc _ _ _ (by omega) c8,hc _ _ _ (by omega) c9,hc _ _ _ (by omega) c10,hc _ _ _ (by omega) c11⟩,⟨m,hc _ _ _ (by omega) hm⟩,?_,Nat.le_trans h.size hb.size,hc _ _ _ (by omega) h.mo,hc _ _ _ (by omega) h.tu,hc _ _ _ (by omega) h.we,hc _ _ _ (by omega) h.th,hc _ _ _ (by omega) h.fr,hc _ _ _ (by omega) h.sa,hc _ _ _ (by omega) h.su⟩;have hp:=h.pow;unfold Lib.TabIs World.var? at hp ⊢;simp only[c6q,Option.bind_some] at hp ⊢;rw[hb.block 0 (by omega)];exact hp
theorem d6L{p:Prop}(h:Below B x y)(k:Below B x y->p):Below B x y/\p:=⟨h,k h⟩
theorem g2u(n:ByteArray)(u a b:Int)(w:World)(he:Env w)(u0:0<=u)(u1:u<=9999999)(a0:0<=a)(a1:a<=1048320)(b0:0<=b)(b1:b<=1048320):
  Calls Tryz.prog 328 #[.agg #[.string n,.int .i64 u,.int .i64 a,.int .i64 b]] w fun e w'=>WR w w' [a9P,n,Txt.a0x u,c8H a,c8H b] e:=by
 go_enter Tryz.func328,Tryz.ntmps328
 go_wp2_with fail
 obtain⟨X,hX⟩:∃ X,X=w.alloc (.cells #[.string n,.int .i64 u,.int .i64 a,.int .i64 b] 154):=⟨_,rfl⟩;rw[<- hX];have hbX:Below w.heap.size w X:=by rw[hX];exact (zr _ _).alloc (zq _) _
 have eX:=he.later hbX;clear hX he;refine (d2Z a9P n u a b X eX u0 u1 a0 a1 b0 b1).mono ?_;rintro e w4 ⟨v,rfl,ho,hbf⟩;go_wp2;go_ret;exact⟨v,rfl,c9G ho hbX.size,c8d hbX hbf⟩
theorem g2s(n:ByteArray)(u a b m:Int)(w:World)(he:Env w)(u0:0<=u)(u1:u<=9999999)(a0:0<=a)(a1:a<=1048320)(b0:0<=b)(b1:b<=1048320)(m0:0<=m)(m1:m<=9999999):
  Calls Tryz.prog 334 #[.agg #[.string n,.int .i64 u,.int .i64 a,.int .i64 b,.int .i64 m]] w fun e w'=>WR w w' [b5f,n,Txt.a0x u,c8H a,c8H b,Txt.a0x m] e:=by
 obtain⟨i0,hi0,hz0,hz1,hz2⟩:=info_parts e4B
 go_enter Tryz.func334,Tryz.ntmps334
 go_wp2_with fail
 obtain⟨X,hX⟩:∃ X,X=w.alloc (.cells #[.string n,.int .i64 u,.int .i64 a,.int .i64 b,.int .i64 m] 156):=⟨_,rfl⟩;rw[<- hX];have hbX:Below w.heap.size w X:=by rw[hX];exact (zr _ _).alloc (zq _) _
 have eX:=he.later hbX;have hXs:w.heap.size+1<=X.heap.size:=by rw[hX];simp
 have hXs10:10<=w.heap.size+1:=by have:=he.size;omega
 have x0:X.cell? ⟨w.heap.size,0,none⟩=some (.string n):=by rw[hX];simp
 have x1:X.cell? ⟨w.heap.size,1,none⟩=some (.int .i64 u):=by rw[hX];simp
 have x2:X.cell? ⟨w.heap.size,2,none⟩=some (.int .i64 a):=by rw[hX];simp
 have x3:X.cell? ⟨w.heap.size,3,none⟩=some (.int .i64 b):=by rw[hX];simp
 have x4:X.cell? ⟨w.heap.size,4,none⟩=some (.int .i64 m):=by rw[hX];simp
 have bX:=zr (w.heap.size+1) X;have hZ:X.heap.size=w.heap.size+1:=by rw[hX];simp
 clear hX he
 go_region_held3 (fun w'=>Below (w.heap.size+1) X w'/\w'.cell? ⟨w.heap.size,0,none⟩=some (.string n)/\w'.cell? ⟨w.heap.size,1,none⟩=some (.int .i64 u)/\w'.cell? ⟨w.heap.size,2,none⟩=some (.int .i64 a)/\w'.cell? ⟨w.heap.size,3,none⟩=some (.int .i64 b)/\w'.cell? ⟨w.heap.size,4,none⟩=some (.int .i64 m))
  (first
   |(go_split_ands;exact d6L (c8V hXs (by assumption) hbf) (fun hk=>⟨(hk.cell (p:=⟨w.heap.size,0,none⟩) (by simp)).trans x0,(hk.cell (p:=⟨w.heap.size,1,none⟩) (by simp)).trans x1,(hk.cell (p:=⟨w.heap.size,2,none⟩) (by simp)).trans x2,(hk.cell (p:=⟨w.heap.size,3,none⟩) (by simp)).trans x3,(hk.cell (p:=⟨w.heap.size,4,none⟩) (by simp)).trans x4⟩))
   |(go_split_ands;exact d6L (c8V hXs (by assumption) ((zr _ _).alloc (zq _) _)) (fun hk=>⟨(hk.cell (p:=⟨w.heap.size,0,none⟩) (by simp)).trans x0,(hk.cell (p:=⟨w.heap.size,1,none⟩) (by simp)).trans x1,(hk.cell (p:=⟨w.heap.size,2,none⟩) (by simp)).trans x2,(hk.cell (p:=⟨w.heap.size,3,none⟩) (by simp)).trans x3,(hk.cell (p:=⟨w.heap.size,4,none⟩) (by simp)).trans x4⟩))
   |(go_split_ands;exact d6L (c8V hXs (by assumption) (c7Y _)) (fun hk=>⟨(hk.cell (p:=⟨w.heap.size,0,none⟩) (by simp)).trans x0,(hk.cell (p:=⟨w.heap.size,1,none⟩) (by simp)).trans x1,(hk.cell (p:=⟨w.heap.size,2,none⟩) (by simp)).trans x2,(hk.cell (p:=⟨w.heap.size,3,none⟩) (by simp)).trans x3,(hk.cell (p:=⟨w.heap.size,4,none⟩) (by simp)).trans x4⟩))
   |(go_split_ands;exact d6L (Below.grown (by assumption) hgrow (by simp;omega) (fun k hk=>d0U hoN hk)) (fun hk=>⟨(hk.cell (p:=⟨w.heap.size,0,none⟩) (by simp)).trans x0,(hk.cell (p:=⟨w.heap.size,1,none⟩) (by simp)).trans x1,(hk.cell (p:=⟨w.heap.size,2,none⟩) (by simp)).trans x2,(hk.cell (p:=⟨w.heap.size,3,none⟩) (by simp)).trans x3,(hk.cell (p:=⟨w.heap.size,4,none⟩) (by simp)).trans x4⟩)))
  (first
   |(
    go_at_call 329
    go_split_ands
    refine (d2Z b5f n u a b _ (Env.later eX (by rw[hZ];assumption)) u0 u1 a0 a1 b0 b1).mono ?_
    rintro e w4 ⟨v1,rfl,ho,hbf⟩)
   |(
    go_at_call 327
    go_split_ands
    have hoN:=c9G (base':=w.heap.size+1) ho (by simp;omega);refine (d0r m _ (Env.later eX (by rw[hZ];assumption)) (by omega) (by omega)).mono ?_;rintro e w5 ⟨rfl,hbf⟩
    have hs5:=d1E (B:=w.heap.size+1) (x:=X) (by assumption) hbf)
   |((refine step_append_lies _ (by rfl) _ _ _ (by rfl) (w.heap.size+1) 9 i0 _ 1 16 Tryz.underlying26 hi0 hz0 hz1 hz2 rfl (by omega) v1 5 ([b5f,n,Txt.a0x u,c8H a,c8H b].map Value.string) (by rfl) ((c9H hoN hbf).alloc _) ⟨w5.heap.size,0,none⟩ 1 1 [.string (Txt.a0x m)] (by rfl) (by rfl) (World.news_of_block (cs:=#[.string (Txt.a0x m)]) (t:=9) (fr:=(0,0)) (heap_alloc_new _ _)) (by simp[Value.oneCell']) (by omega) (by unfold maxLen;omega) (by omega) (by simp;omega) (w5.heap.size+1) (by simp) ?_;intro g cap w6 hown6 hgrow hat hltg)))
 go_split_ands
 have hbE:Below (w.heap.size+1) X w6:=by assumption
 have HBE:=hide hbE;clear hbE;go_wp2;go_ret;exact⟨_,rfl,c9G hown6 (by omega),hbX.trans (HBE.out.mono (by omega))⟩
theorem g2p(n:ByteArray)(u a b m:Int)(w:World)(he:Env w)(u0:0<=u)(u1:u<=9999999)(a0:0<=a)(a1:a<=1048320)(b0:0<=b)(b1:b<=1048320)(m0:0<=m)(m1:m<=9999999):
  Calls Tryz.prog 335 #[.agg #[.string n,.int .i64 u,.int .i64 a,.int .i64 b,.int .i64 m]] w fun e w'=>WR w w' [b4k,n,Txt.a0x u,c8H a,c8H b,Txt.a0x m] e:=by
 obtain⟨i0,hi0,hz0,hz1,hz2⟩:=info_parts e4B
 go_enter Tryz.func335,Tryz.ntmps335
 go_wp2_with fail
 obtain⟨X,hX⟩:∃ X,X=w.alloc (.cells #[.string n,.int .i64 u,.int .i64 a,.int .i64 b,.int .i64 m] 157):=⟨_,rfl⟩;rw[<- hX];have hbX:Below w.heap.size w X:=by rw[hX];exact (zr _ _).alloc (zq _) _
 have eX:=he.later hbX;have hXs:w.heap.size+1<=X.heap.size:=by rw[hX];simp
 have hXs10:10<=w.heap.size+1:=by have:=he.size;omega
 have x0:X.cell? ⟨w.heap.size,0,none⟩=some (.string n):=by rw[hX];simp
 have x1:X.cell? ⟨w.heap.size,1,none⟩=some (.int .i64 u):=by rw[hX];simp
 have x2:X.cell? ⟨w.heap.size,2,none⟩=some (.int .i64 a):=by rw[hX];simp
 have x3:X.cell? ⟨w.heap.size,3,none⟩=some (.int .i64 b):=by rw[hX];simp
 have x4:X.cell? ⟨w.heap.size,4,none⟩=some (.int .i64 m):=by rw[hX];simp
 have bX:=zr (w.heap.size+1) X;have hZ:X.heap.size=w.heap.size+1:=by rw[hX];simp
 clear hX he
 go_region_held3 (fun w'=>Below (w.heap.size+1) X w'/\w'.cell? ⟨w.heap.size,0,none⟩=some (.string n)/\w'.cell? ⟨w.heap.size,1,none⟩=some (.int .i64 u)/\w'.cell? ⟨w.heap.size,2,none⟩=some (.int .i64 a)/\w'.cell? ⟨w.heap.size,3,none⟩=some (.int .i64 b)/\w'.cell? ⟨w.heap.size,4,none⟩=some (.int .i64 m))
  (first
   |(go_split_ands;exact d6L (c8V hXs (by assumption) hbf) (fun hk=>⟨(hk.cell (p:=⟨w.heap.size,0,none⟩) (by simp)).trans x0,(hk.cell (p:=⟨w.heap.size,1,none⟩) (by simp)).trans x1,(hk.cell (p:=⟨w.heap.size,2,none⟩) (by simp)).trans x2,(hk.cell (p:=⟨w.heap.size,3,none⟩) (by simp)).trans x3,(hk.cell (p:=⟨w.heap.size,4,none⟩) (by simp)).trans x4⟩))
   |(go_split_ands;exact d6L (c8V hXs (by assumption) ((zr _ _).alloc (zq _) _)) (fun hk=>⟨(hk.cell (p:=⟨w.heap.size,0,none⟩) (by simp)).trans x0,(hk.cell (p:=⟨w.heap.size,1,none⟩) (by simp)).trans x1,(hk.cell (p:=⟨w.heap.size,2,none⟩) (by simp)).trans x2,(hk.cell (p:=⟨w.heap.size,3,none⟩) (by simp)).trans x3,(hk.cell (p:=⟨w.heap.size,4,none⟩) (by simp)).trans x4⟩))
   |(go_split_ands;exact d6L (c8V hXs (by assumption) (c7Y _)) (fun hk=>⟨(hk.cell (p:=⟨w.heap.size,0,none⟩) (by simp)).trans x0,(hk.cell (p:=⟨w.heap.size,1,none⟩) (by simp)).trans x1,(hk.cell (p:=⟨w.heap.size,2,none⟩) (by simp)).trans x2,(hk.cell (p:=⟨w.heap.size,3,none⟩) (by simp)).trans x3,(hk.cell (p:=⟨w.heap.size,4,none⟩) (by simp)).trans x4⟩))
   |(go_split_ands;exact d6L (Below.grown (by assumption) hgrow (by simp;omega) (fun k hk=>d0U hoN hk)) (fun hk=>⟨(hk.cell (p:=⟨w.heap.size,0,none⟩) (by simp)).trans x0,(hk.cell (p:=⟨w.heap.size,1,none⟩) (by simp)).trans x1,(hk.cell (p:=⟨w.heap.size,2,none⟩) (by simp)).trans x2,(hk.cell (p:=⟨w.heap.size,3,none⟩) (by simp)).trans x3,(hk.cell (p:=⟨w.heap.size,4,none⟩) (by simp)).trans x4⟩)))
  (first
   |(
    go_at_call 329
    go_split_ands
    refine (d2Z b4k n u a b _ (Env.later eX (by rw[hZ];assumption)) u0 u1 a0 a1 b0 b1).mono ?_
    rintro e w4 ⟨v1,rfl,ho,hbf⟩)
   |(
    go_at_call 327
    go_split_ands
    have hoN:=c9G (base':=w.heap.size+1) ho (by simp;omega);refine (d0r m _ (Env.later eX (by rw[hZ];assumption)) (by omega) (by omega)).mono ?_;rintro e w5 ⟨rfl,hbf⟩
    have hs5:=d1E (B:=w.heap.size+1) (x:=X) (by assumption) hbf)
   |((refine step_append_lies _ (by rfl) _ _ _ (by rfl) (w.heap.size+1) 9 i0 _ 1 16 Tryz.underlying26 hi0 hz0 hz1 hz2 rfl (by omega) v1 5 ([b4k,n,Txt.a0x u,c8H a,c8H b].map Value.string) (by rfl) ((c9H hoN hbf).alloc _) ⟨w5.heap.size,0,none⟩ 1 1 [.string (Txt.a0x m)] (by rfl) (by rfl) (World.news_of_block (cs:=#[.string (Txt.a0x m)]) (t:=9) (fr:=(0,0)) (heap_alloc_new _ _)) (by simp[Value.oneCell']) (by omega) (by unfold maxLen;omega) (by omega) (by simp;omega) (w5.heap.size+1) (by simp) ?_;intro g cap w6 hown6 hgrow hat hltg)))
 go_split_ands
 have hbE:Below (w.heap.size+1) X w6:=by assumption
 have HBE:=hide hbE;clear hbE;go_wp2;go_ret;exact⟨_,rfl,c9G hown6 (by omega),hbX.trans (HBE.out.mono (by omega))⟩
theorem DS.nat{b:Nat}(h:DS w b acc)(k:Nat)(hk:k<7):w.cell? ⟨b,k,none⟩=some (.bool (isd acc k)):=by
 have:=h.at k (by omega) (by omega)
 simpa using this
def onL(acc:List Int):Nat->List ByteArray
 |0=>[]
 |k+1=>if isd acc k then onL acc k++[e0s k] else onL acc k
theorem f3f(acc:List Int):∀ k:Nat,(onL acc k).length<=k
 |0=>zq _
 |k+1=>by
  have:=f3f acc k;unfold onL
  split <;> simp <;> omega
theorem Env.day(h:Env w)(k:Nat)(hk:k<7):w.cell? ⟨3,k,none⟩=some (.string (e0s k)):=by
 rcases (show k=0\/k=1\/k=2\/k=3\/k=4\/k=5\/k=6 by omega) with rfl|rfl|rfl|rfl|rfl|rfl|rfl
 ·exact h.mo
 ·exact h.tu
 ·exact h.we
 ·exact h.th
 ·exact h.fr
 ·exact h.sa
 ·exact h.su
def onJ(acc:List Int):ByteArray:=⟨(Lib.join ((onL acc 7).map (·.data.toList)) [44]).toArray⟩
theorem f0F(acc:List Int)(w:World)(he:Env w)(hne:onL acc 7≠[])(hlen:(Lib.join ((onL acc 7).map (·.data.toList)) [44]).length<=160):
  Calls Tryz.prog 339 #[a3E acc] w fun e w'=>e=.returned (.string (onJ acc))/\Below w.heap.size w w':=by
 obtain⟨i0,hi,hz0,hz1,hz2⟩:=info_parts e4B;have HE:=hide he;have h10:=he.size;have HNE:=hide hne;have HLEN:=hide hlen;clear he hne hlen;simp only[a3E]
 go_enter Tryz.func339,Tryz.ntmps339
 go_wp2;obtain⟨X,hX⟩:∃ X,X=w.alloc (.cells #[.bool (isd acc 0),.bool (isd acc 1),.bool (isd acc 2),.bool (isd acc 3),.bool (isd acc 4),.bool (isd acc 5),.bool (isd acc 6)] 160):=⟨_,rfl⟩;rw[<- hX];have hbX:Below (w.heap.size+1) X X:=zr _ _;have hbw:Below w.heap.size w X:=by rw[hX];exact (zr _ _).alloc (zq _) _
 have dX:DS X w.heap.size acc:=by
  rw[hX];refine⟨?_,?_,?_,?_,?_,?_,?_,fun j=>?_⟩ <;> simp
 have hsz:w.heap.size+1=X.heap.size:=by rw[hX];simp
 have HX:=hide ((a0d HE).later hbw);clear hX
 go_loopw [3,4,5] (fun v _ i wx=>∃ k:Nat,k<=7/\i=.int .i64 k/\wx.ownsRow (w.heap.size+1) 9 1 v (onL acc k).length ((onL acc k).map Value.string)/\Below (w.heap.size+1) X wx) (fun _ _ i _=>7-(intOf i).toNat)
 case atStart=>exact⟨0,by omega,rfl,World.ownsRow_nil _ _ _ _,hbX⟩
 case round =>
  obtain⟨k,hk,rfl,hown,hbk⟩:=hrel;have hnl:=f3f acc k
  by_cases hlt:k<7
  ·have hi1:(k:Int)<7:=by omega
   have hi2:(0:Int)<=(k:Int):=Int.natCast_nonneg _;have hc:wr.cell? ⟨w.heap.size,k,none⟩=some (.bool (isd acc k)):=(hbk.cell (p:=⟨w.heap.size,k,none⟩) (by simp)).trans (dX.nat k hlt);have hday:wr.cell? ⟨3,k,none⟩=some (.string (e0s k)):=(hbk.cell (p:=⟨3,k,none⟩) (show 3<w.heap.size+1 by omega)).trans ((a0d HX).day k hlt);have hstep:onL acc (k+1)=if isd acc k then onL acc k++[e0s k] else onL acc k:=rfl
   have HST:=hide hstep;clear hstep;have hsz2:=hbk.size
   cases hm:isd acc k
   ·rw[hm] at hc;have HS2:Hid (onL acc (k+1)=onL acc k):=(a0d HST).trans (by rw[hm];rfl);go_wp2;exact⟨⟨k+1,by omega,by go_num,by rw[HS2.out];exact hown,hbk⟩,by simp[intOf];omega⟩
   ·rw[hm] at hc;have HS2:Hid (onL acc (k+1)=onL acc k++[e0s k]):=(a0d HST).trans (by rw[hm];rfl)
    go_wp2_with (first
     |(at_builtin;refine wpList_append_own _ rfl _ _ 26 rfl (w.heap.size+1) 9 i0 (.string ⟨#[]⟩) 1 16 Tryz.underlying26 hi hz0 hz1 hz2 rfl (by decide) _ _ _ rfl (hown.alloc _) ⟨wr.heap.size,0,none⟩ 1 1 [.string (e0s k)] rfl rfl ?c1 ?c2 ?c3 ?c4 ?c5 ?_))
    case c1=>exact World.news_of_block (cs:=#[.string (e0s k)]) (heap_alloc_new wr _)
    case c2=>simp[Value.oneCell']
    case c3=>unfold maxLen;omega
    case c4=>omega
    case c5=>simp;omega
    intro v' w' hown' hgrow _;have hbk':Below (w.heap.size+1) X w':=(hbk.alloc (by omega) _).grown hgrow (by simp;omega) (fun k hk=>d0U hown hk)
    have HO:Hid (w'.ownsRow (w.heap.size+1) 9 1 v' (onL acc (k+1)).length ((onL acc (k+1)).map Value.string)):=by
     show w'.ownsRow _ _ _ _ _ _;rw[HS2.out,List.map_append,List.length_append];exact c9G hown' (by omega)
    clear hown' hgrow;go_wp2;exact⟨⟨k+1,by omega,by go_num,HO.out,hbk'⟩,by simp[intOf];omega⟩
  ·obtain rfl:k=7:=by omega
   obtain⟨a,c,g,rfl,hrow⟩:=e0O hown rfl;have hpos:0<(onL acc 7).length:=List.length_pos_iff.2 (a0d HNE);obtain rfl:=hrow.at_ hpos;have HROW:=hide hrow
   have hcap:(onL acc 7).length<=c:=by
    rcases hown.2 with ⟨h,_⟩|⟨g',cap,cur,hv,_,_,hc,_⟩
    ·cases h
    ·cases hv;exact hc
   have hgl:g<wr.heap.size:=zb _ ⟨g,0,none⟩ (hrow.cells 0 hpos);clear hown hrow
   go_wp2_with fail
   refine (Tryz.strings_Join g 0 c (onL acc 7) ⟨#[44]⟩ wr (fun j x hx=>?_) hgl (by omega) hcap (zt (a0d HLEN) (by omega))).mono ?_
   ·obtain⟨hj,e⟩:=List.getElem?_eq_some_iff.1 hx;have:=(a0d HROW).cells j hj;rw[e] at this;rw[Nat.zero_add];exact this
   rintro e w' ⟨rfl,hbj⟩;have hbe:=hbw.trans (Below.trans (hbk.mono (by omega)) (hbj.mono (by have:=hbk.size;omega)));go_wp2;go_ret;exact⟨rfl,hbe⟩
end Go.Proofs.YtfigmlfdnickmaaGreatDoor
