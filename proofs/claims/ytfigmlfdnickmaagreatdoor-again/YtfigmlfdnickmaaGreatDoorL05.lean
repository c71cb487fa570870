import Derived.Test.YtfigmlfdnickmaaGreatDoorL04
import Derived.Test.YtfigmlfdnickmaaGreatDoorProg
import Derived.Lib.IndexMore
import Derived.Lib.IndexLaws
import Derived.Lib.FieldsP
import Derived.Lib.Split
import Derived.Lib.SplitLaws
set_option maxRecDepth 100000
set_option maxHeartbeats 8000000
variable{s:ByteArray}{e:Go.Proofs.YtfigmlfdnickmaaGreatDoor.Desk.Ent}{a a0c b dt fr id m x y:Int}{ts:List (ByteArray × Int)}{L:List (Int × Int)}{es:List Go.Proofs.YtfigmlfdnickmaaGreatDoor.Desk.Ent}{acc:List Int}{l:List UInt8}
namespace Go.Proofs.YtfigmlfdnickmaaGreatDoor.Txt
open Go
def dmB(s:ByteArray):Bool:=decide (s.size=16/\a0V s 10=47/\a5j (s.extract 0 10)=true/\a3a (s.extract 11 16)=true)
def dmV(s:ByteArray):Int:=if dmB s then a2o (s.extract 0 10)*1440+a6J (s.extract 11 16) else 0
def b1a(s:ByteArray):ByteArray:={ data:=(Lib.cut s.data.toList [47]).fst.toArray }
def b0Z(s:ByteArray):ByteArray:={ data:=(Lib.cut s.data.toList [47]).snd.fst.toArray }
def c1N(s:ByteArray):Bool:=(Lib.cut s.data.toList [47]).snd.snd
theorem a3g(s:ByteArray)(a b:Nat):(s.extract a b).data.toList=(s.data.toList.take b).drop a:=by
 rw[ByteArray.data_extract,Array.toList_extract];simp[List.drop_take]
theorem a7x{t:ByteArray}(h:s.data.toList=t.data.toList):s=t:=by
 cases s;cases t;simp only at h;congr;exact Array.toList_inj.1 h
theorem c6F(c:UInt8)(h:dig c=true):c≠47:=by
 intro e;subst e;revert h;decide
theorem b2h(h:a6j l=true){c:UInt8}(hc:c∈l):c≠47:=c6F c (by
 unfold a6j at h;rw[List.all_eq_true] at h;exact h c hc)
theorem a7C(h:isNum l=true):a6j l=true:=((b3p l).1 h).2
theorem b3N(t:ByteArray)(h:a5j t=true):∀ j,j<10->t.data.toList[j]?≠some 47:=by
 have h:=of_decide_eq_true h;obtain⟨hs,b4,b7,n1,n2,n3,_⟩:=h;have d1:=a7C n1;have d2:=a7C n2;have d3:=a7C n3;unfold part at d1 d2 d3;rw[a3g] at d1 d2 d3;have hl:t.data.toList.length=10:=by rw[a1d];exact hs
 intro j hj he;have hjl:j<t.data.toList.length:=by omega
 have e:t.data.toList[j]=47:=by
  rw[List.getElem?_eq_getElem hjl] at he;exact Option.some.inj he
 have m1:j<4->False:=fun h4=>b2h d1 (c:=t.data.toList[j]) (by
  rw[List.mem_iff_getElem?];exact⟨j,by rw[List.getElem?_drop,List.getElem?_take];simp[h4]⟩) e
 have m2:5<=j->j<7->False:=fun h5 h7=>b2h d2 (c:=t.data.toList[j]) (by
  rw[List.mem_iff_getElem?];exact⟨j-5,by rw[List.getElem?_drop,List.getElem?_take];simp[show 5+(j-5)=j from by omega,h7]⟩) e
 have m3:8<=j->False:=fun h8=>b2h d3 (c:=t.data.toList[j]) (by
  rw[List.mem_iff_getElem?];exact⟨j-8,by rw[List.getElem?_drop,List.getElem?_take];simp[show 8+(j-8)=j from by omega,hj]⟩) e
 have g:∀ k:Nat,j=k->a0V t k=47:=fun k hk=>by
  subst hk;unfold a0V;rw[List.getD_eq_getElem?_getD,List.getElem?_eq_getElem hjl,e];rfl
 by_cases c4:j=4
 ·have:=g 4 c4;omega
 ·by_cases c7:j=7
  ·have:=g 7 c7;omega
  ·by_cases c1:j<4
   ·exact m1 c1
   ·by_cases c2:j<7
    ·exact m2 (by omega) c2
    ·exact m3 (by omega)
theorem b4P(l:List UInt8)(i:Nat):Lib.occAt l [47] i=true↔l[i]?=some 47:=by
 unfold Lib.occAt;rw[<- List.head?_drop]
 cases l.drop i with
 |nil=>simp[List.isPrefixOf]
 |cons b r=>simp[List.isPrefixOf];exact eq_comm
theorem c1m(hs:s.size=16)(hb:a0V s 10=47)(hd:a5j (s.extract 0 10)=true):b1a s=s.extract 0 10/\b0Z s=s.extract 11 16/\c1N s=true:=by
 have hl:s.data.toList.length=16:=by rw[a1d];exact hs
 have h10:s.data.toList[10]?=some 47:=by
  unfold a0V at hb;rw[List.getD_eq_getElem?_getD,List.getElem?_eq_getElem (by omega)] at hb;rw[List.getElem?_eq_getElem (by omega)];have:(s.data.toList[10]'(by omega)).toNat=47:=by simpa using (by exact_mod_cast hb:_)
  rw[show s.data.toList[10]'(by omega)=47 from UInt8.toNat_inj.1 (by simpa using this)]
 have hi:Lib.index s.data.toList [47]=10:=Lib.index_first (i:=10) (by omega) ((b4P _ _).2 h10) (fun j hj=>by
  cases ho:Lib.occAt s.data.toList [47] j with
  |false=>rfl
  |true =>
   have:=b3N _ hd j hj;rw[a3g,List.drop_zero,List.getElem?_take,if_pos hj] at this
   exact absurd ((b4P _ _).1 ho) this)
 have hc:Lib.cut s.data.toList [47]=(s.data.toList.take 10,s.data.toList.drop 11,true):=by
  unfold Lib.cut;rw[hi];rfl
 refine⟨a7x ?_,a7x ?_,?_⟩
 ·simp only[b1a,hc,a3g];simp
 ·simp only[b0Z,hc,a3g];rw[List.take_of_length_le (by omega)]
 ·simp[c1N,hc]
theorem c6H(s:ByteArray):(c1N s && a5j (b1a s) && a3a (b0Z s))=dmB s/\(dmB s=true->a2o (b1a s)*1440+a6J (b0Z s)=dmV s):=by
 have key:(c1N s && a5j (b1a s) && a3a (b0Z s))=dmB s:=by
  rw[Bool.eq_iff_iff];constructor
  ·intro h;simp only[Bool.and_eq_true] at h;obtain⟨⟨hf,hd⟩,hm⟩:=h;have s1:(b1a s).size=10:=(of_decide_eq_true hd).1;have s2:(b0Z s).size=5:=(of_decide_eq_true hm).1
   have hi:0<=Lib.index s.data.toList [47]:=by
    by_cases hi:0<=Lib.index s.data.toList [47]
    ·exact hi
    ·simp[c1N,Lib.cut,hi] at hf
   obtain⟨i,hi'⟩:=Int.eq_ofNat_of_zero_le hi;have hr:=Lib.index_room s.data.toList [47] hi
   have hc:Lib.cut s.data.toList [47]=(s.data.toList.take i,s.data.toList.drop (i+1),true):=by
    unfold Lib.cut;rw[if_pos hi,hi'];simp
   have hocc:s.data.toList[i]?=some 47:=by
    rcases Lib.index_spec s.data.toList [47] with ⟨h,_⟩|⟨j,hj,_,ho,_⟩
    ·omega
    ·rw[hi'] at hj;have:i=j:=by omega
     subst this;exact (b4P _ _).1 ho
   rw[hi'] at hr;simp only[List.length_singleton,a1d] at hr
   have e1:min i s.size=10:=by
    rw[<- a1d] at s1;simp only[b1a,hc] at s1;simpa using s1
   have e2:s.size-(i+1)=5:=by
    rw[<- a1d] at s2;simp only[b0Z,hc] at s2;simpa using s2
   have i10:i=10:=by omega
   have hs:s.size=16:=by omega
   subst i10;have a1:b1a s=s.extract 0 10:=a7x (by simp only[b1a,hc,a3g];simp);have a2:b0Z s=s.extract 11 16:=a7x (by simp only[b0Z,hc,a3g];rw[List.take_of_length_le (by rw[a1d];omega)]);rw[a1] at hd;rw[a2] at hm
   have hb:a0V s 10=47:=by
    unfold a0V;rw[List.getD_eq_getElem?_getD,hocc];rfl
   exact decide_eq_true ⟨hs,hb,hd,hm⟩
  ·intro h;obtain⟨hs,hb,hd,hm⟩:=of_decide_eq_true h;obtain⟨a1,a2,a3⟩:=c1m hs hb hd;rw[a1,a2,a3,hd,hm];rfl
 refine⟨key,fun h=>?_⟩;obtain⟨hs,hb,hd,_⟩:=of_decide_eq_true h;obtain⟨a1,a2,_⟩:=c1m hs hb hd;rw[a1,a2];simp[dmV,h]
end Go.Proofs.YtfigmlfdnickmaaGreatDoor.Txt
namespace Go.Proofs.YtfigmlfdnickmaaGreatDoor.Txt
open Go
def a3H(b:Bool)(pos:Nat)(x:List (Nat × Nat) × Option Nat):List (Nat × Nat) × Option Nat :=
 if b then (match x.2 with|some a=>(x.1++[(a,pos)],none)|none=>(x.1,none)) else (x.1,some (x.2.getD pos))
def spK(s:ByteArray):Nat->List (Nat × Nat) × Option Nat
 |0=>([],none)
 |k+1=>a3H (decide (a0V s k=32)) k (spK s k)
def a1v(s:ByteArray):List ByteArray:=(Lib.closeSpans s (spK s s.size)).map fun x=>s.extract x.1 x.2
theorem b0R(s:ByteArray)(i:Nat)(h:i<s.size):(s.get! i).toNat=(a0V s i).toNat:=by
 unfold a0V;rw[List.getD_eq_getElem?_getD,List.getElem?_eq_getElem (by simpa using h)];simp only[Option.getD_some,Int.toNat_natCast]
 congr 1
 cases s with
 |mk a=>simp only[ByteArray.get!];rw[getElem!_pos a i h];simp
theorem b3J(s:ByteArray)(i:Nat)(h:i<s.size):
  ((s.get! i).toNat<128/\Utf8.decode s i=((s.get! i).toNat,1)) \/
  (128<=(Utf8.decode s i).1/\1<=(Utf8.decode s i).2/\∀ j,j<(Utf8.decode s i).2->128<=(s.get! (i+j)).toNat/\i+j<s.size):=by
 unfold Utf8.decode;simp only[Nat.add_zero]
 by_cases h0:(s.get! i).toNat<128
 ·left;exact⟨h0,by rw[if_pos (by omega)]⟩
 ·right;rw[if_neg (by omega)]
  have one:∀ j,j<1->128<=(s.get! (i+j)).toNat/\i+j<s.size:=fun j hj=>by
   obtain rfl:j=0:=by omega
   exact⟨by simpa using h0,by omega⟩
  split
  ·rename_i hc
   simp only[Bool.and_eq_true,decide_eq_true_eq,beq_iff_eq] at hc
   split
   ·refine⟨by simp only;omega,by simp,fun j hj=>?_⟩;simp only at hj;rcases (show j=0\/j=1 by omega) with rfl|rfl
    ·exact one 0 (by omega)
    ·exact⟨by omega,by omega⟩
   ·exact⟨by simp[Utf8.runeError],by simp,one⟩
  ·split
   ·rename_i hc
    simp only[Bool.and_eq_true,decide_eq_true_eq,beq_iff_eq] at hc
    split
    ·rename_i hv
     simp only[Bool.and_eq_true,decide_eq_true_eq] at hv;refine⟨by simp only;omega,by simp,fun j hj=>?_⟩;simp only at hj;rcases (show j=0\/j=1\/j=2 by omega) with rfl|rfl|rfl
     ·exact one 0 (by omega)
     ·exact⟨by omega,by omega⟩
     ·exact⟨by omega,by omega⟩
    ·exact⟨by simp[Utf8.runeError],by simp,one⟩
   ·split
    ·rename_i hc
     simp only[Bool.and_eq_true,decide_eq_true_eq,beq_iff_eq] at hc
     split
     ·rename_i hv
      simp only[Bool.and_eq_true,decide_eq_true_eq] at hv;refine⟨by simp only;omega,by simp,fun j hj=>?_⟩;simp only at hj;rcases (show j=0\/j=1\/j=2\/j=3 by omega) with rfl|rfl|rfl|rfl
      ·exact one 0 (by omega)
      ·exact⟨by omega,by omega⟩
      ·exact⟨by omega,by omega⟩
      ·exact⟨by omega,by omega⟩
     ·exact⟨by simp[Utf8.runeError],by simp,one⟩
    ·exact⟨by simp[Utf8.runeError],by simp,one⟩
theorem c4C(s:ByteArray)(pos:Nat):∀ n:Nat,(∀ j,j<n+1->a0V s (pos+j)≠32)->spK s (pos+(n+1))=((spK s pos).1,some ((spK s pos).2.getD pos)):=by
 intro n
 induction n with
 |zero =>
  intro h;have:=h 0 (by omega);simp only[Nat.add_zero] at this;show a3H _ pos (spK s pos)=_;rw[decide_eq_false this];rfl
 |succ n ih =>
  intro h;have i:=ih (fun j hj=>h j (by omega));have:=h (n+1) (by omega);show a3H (decide (a0V s (pos+(n+1))=32)) (pos+(n+1)) (spK s (pos+(n+1)))=_;rw[decide_eq_false this,i];rfl
theorem c2l(s:ByteArray):∀ (f pos:Nat),pos<=s.size->s.size-pos<=f->Lib.spansFromP (fun r=>r==32) s f pos (spK s pos).2 (spK s pos).1=spK s s.size:=by
 intro f
 induction f with
 |zero =>
  intro pos h1 h2;obtain rfl:pos=s.size:=by omega
  rfl
 |succ f ih =>
  intro pos h1 h2
  by_cases hlt:pos<s.size
  ·unfold Lib.spansFromP;rw[if_pos hlt];rcases b3J s pos hlt with ⟨hb,hd⟩|⟨hr,hw,hj⟩
   ·rw[hd];simp only;have gb:=b0R s pos hlt;have nb:0<=a0V s pos:=by unfold a0V;omega
    have i:=ih (pos+1) (by omega) (by omega);have st:spK s (pos+1)=a3H (decide (a0V s pos=32)) pos (spK s pos):=rfl
    by_cases h32:a0V s pos=32
    ·have e:((s.get! pos).toNat==32)=true:=by rw[beq_iff_eq];omega
     rw[e,if_pos rfl];rw[decide_eq_true h32] at st
     cases hs:(spK s pos).2 with
     |none=>simp only;rw[st] at i;simp only[a3H,hs,if_true] at i;exact i
     |some a=>simp only;rw[st] at i;simp only[a3H,hs,if_true] at i;exact i
    ·have e:((s.get! pos).toNat==32)=false:=by rw[beq_eq_false_iff_ne];omega
     rw[e,if_neg (by decide)];rw[decide_eq_false h32] at st
     cases hs:(spK s pos).2 with
     |none=>simp only;rw[st] at i;simp only[a3H,hs,Bool.false_eq_true,if_false,Option.getD_none] at i;exact i
     |some a=>simp only;rw[st] at i;simp only[a3H,hs,Bool.false_eq_true,if_false,Option.getD_some] at i;exact i
   ·have e:((Utf8.decode s pos).1==32)=false:=by rw[beq_eq_false_iff_ne];omega
    rw[e,if_neg (by decide)];obtain⟨n,hn⟩:∃ n,(Utf8.decode s pos).2=n+1:=⟨(Utf8.decode s pos).2-1,by omega⟩;have lastj:=hj ((Utf8.decode s pos).2-1) (by omega)
    have st:=c4C s pos n (fun j hjn=>by
     have q:=hj j (by omega);have gb:=b0R s (pos+j) q.2;have nb:0<=a0V s (pos+j):=by unfold a0V;omega
     omega)
    have i:=ih (pos+(n+1)) (by omega) (by omega);rw[st] at i;rw[hn]
    cases hs:(spK s pos).2 with
    |none=>simp only;simp only[hs,Option.getD_none] at i;exact i
    |some a=>simp only;simp only[hs,Option.getD_some] at i;exact i
  ·obtain rfl:pos=s.size:=by omega
   unfold Lib.spansFromP;rw[if_neg hlt]
theorem b3C(s:ByteArray):Lib.goFieldsP (fun r=>r==32) s=a1v s:=by
 unfold Lib.goFieldsP Lib.spansOfP a1v;have:=c2l s s.size 0 (zN _) (by omega);rw[show (spK s 0).2=none from rfl,show (spK s 0).1=[] from rfl] at this;rw[this]
end Go.Proofs.YtfigmlfdnickmaaGreatDoor.Txt
namespace Go.Proofs.YtfigmlfdnickmaaGreatDoor.Txt
open Go
def a8z(s:ByteArray)(k:Nat):ByteArray:=match (spK s k).2 with|none=>⟨#[]⟩|some a=>s.extract a k
def b7w(s:ByteArray)(k:Nat):List ByteArray:=(spK s k).1.map fun x=>s.extract x.1 x.2
theorem b5U(s:ByteArray):∀ (k a:Nat),(spK s k).2=some a->a<k
 |0,a,h=>by simp[spK] at h
 |k+1,a,h=>by
  simp only[spK,a3H] at h
  split at h
  ·split at h <;> simp at h
  ·simp only[Option.some.injEq] at h
   cases hs:(spK s k).2 with
   |none=>rw[hs] at h;simp at h;omega
   |some b=>rw[hs] at h;simp at h;have:=b5U s k b hs;omega
theorem a1X(a b:ByteArray):(a++b).data.toList=a.data.toList++b.data.toList:=by
 rw[ByteArray.data_append,Array.toList_append]
theorem c5l(s:ByteArray)(a k:Nat)(h:a<=k):s.extract a k++s.extract k (k+1)=s.extract a (k+1):=by
 apply a7x;rw[a1X,a3g,a3g,a3g]
 have h1:(s.data.toList.take k).drop a=((s.data.toList.take (k+1)).drop a).take (k-a):=by
  rw[List.drop_take,List.drop_take,List.take_take,show min (k-a) (k+1-a)=k-a from by omega]
 have h2:(s.data.toList.take (k+1)).drop k=((s.data.toList.take (k+1)).drop a).drop (k-a):=by
  rw[List.drop_drop,show a+(k-a)=k from by omega]
 rw[h1,h2,List.take_append_drop]
theorem b7k(s:ByteArray)(k:Nat):(a8z s k).size<=k:=by
 unfold a8z
 split
 ·exact zN _
 ·have:∀ a b,(s.extract a b).size=min b s.size-a:=fun a b=>ByteArray.size_extract ..
  rw[this];omega
theorem c0V(b:ByteArray):(⟨#[]⟩:ByteArray)++b=b:=by
 apply a7x;rw[a1X];rfl
theorem b7l(s:ByteArray)(k:Nat)(h:a0V s k≠32):a8z s k++s.extract k (k+1)=a8z s (k+1)/\b7w s (k+1)=b7w s k:=by
 have e:spK s (k+1)=((spK s k).1,some ((spK s k).2.getD k)):=by simp only[spK,a3H,decide_eq_false h];rfl
 refine⟨?_,by unfold b7w;rw[e]⟩;unfold a8z;rw[e]
 cases hs:(spK s k).2 with
 |none=>simp only[Option.getD_none];exact c0V _
 |some a=>simp only[Option.getD_some];exact c5l s a k (Nat.le_of_lt (b5U s k a hs))
theorem b3O(s:ByteArray)(k:Nat)(hk:k<=s.size)(h:a0V s k=32):a8z s (k+1)=⟨#[]⟩/\b7w s (k+1)=b7w s k++(if (a8z s k).size=0 then [] else [a8z s k]):=by
 have e:spK s (k+1)=a3H true k (spK s k):=by simp only[spK,decide_eq_true h]
 cases hs:(spK s k).2 with
 |none =>
  have e2:spK s (k+1)=((spK s k).1,none):=by rw[e];simp[a3H,hs]
  have c:a8z s k=⟨#[]⟩:=by unfold a8z;rw[hs]
  refine⟨by unfold a8z;rw[e2],?_⟩;rw[c];unfold b7w;rw[e2];simp;rfl
 |some a =>
  have e2:spK s (k+1)=((spK s k).1++[(a,k)],none):=by rw[e];simp[a3H,hs]
  have c:a8z s k=s.extract a k:=by unfold a8z;rw[hs]
  have lt:=b5U s k a hs;have sz:(s.extract a k).size=min k s.size-a:=ByteArray.size_extract ..;refine⟨by unfold a8z;rw[e2],?_⟩;rw[c,if_neg (by omega)];unfold b7w;rw[e2];simp
theorem b2t(s:ByteArray):a1v s=b7w s s.size++(if (a8z s s.size).size=0 then [] else [a8z s s.size]):=by
 unfold a1v b7w a8z Lib.closeSpans
 cases hs:(spK s s.size).2 with
 |none=>simp;rfl
 |some a =>
  have lt:=b5U s _ a hs;have sz:(s.extract a s.size).size=min s.size s.size-a:=ByteArray.size_extract ..;simp only;rw[if_neg (by omega)];simp
theorem b5J(s:ByteArray):∀ k:Nat,(b7w s k).length<=k
 |0=>zq _
 |k+1=>by
  have ih:=b5J s k;unfold b7w at *;rw[List.length_map] at *;simp only[spK,a3H]
  split
  ·split <;> simp <;> omega
  ·simp;omega
end Go.Proofs.YtfigmlfdnickmaaGreatDoor.Txt
namespace Go.Proofs.YtfigmlfdnickmaaGreatDoor.Txt
open Go
def wdL(l:List UInt8):Int :=
 if l==[109,111] then 0 else if l==[116,117] then 1 else if l==[119,101] then 2 else if l==[116,104] then 3 else if l==[102,114] then 4 else if l==[115,97] then 5 else if l==[115,117] then 6 else -1
theorem c3Q(l:List UInt8):-1<=wdL l/\wdL l<=6:=by
 unfold wdL;(repeat' split) <;> omega
theorem b8X(h:0<=wdL l):l=[109,111]\/l=[116,117]\/l=[119,101]\/l=[116,104]\/l=[102,114]\/l=[115,97]\/l=[115,117]:=by
 unfold wdL at h
 by_cases c0:(l==[109,111])=true
 ·exact .inl (beq_iff_eq.1 c0)
 ·rw[if_neg c0] at h
  by_cases c1:(l==[116,117])=true
  ·exact .inr (.inl (beq_iff_eq.1 c1))
  ·rw[if_neg c1] at h
   by_cases c2:(l==[119,101])=true
   ·exact .inr (.inr (.inl (beq_iff_eq.1 c2)))
   ·rw[if_neg c2] at h
    by_cases c3:(l==[116,104])=true
    ·exact .inr (.inr (.inr (.inl (beq_iff_eq.1 c3))))
    ·rw[if_neg c3] at h
     by_cases c4:(l==[102,114])=true
     ·exact .inr (.inr (.inr (.inr (.inl (beq_iff_eq.1 c4)))))
     ·rw[if_neg c4] at h
      by_cases c5:(l==[115,97])=true
      ·exact .inr (.inr (.inr (.inr (.inr (.inl (beq_iff_eq.1 c5))))))
      ·rw[if_neg c5] at h
       by_cases c6:(l==[115,117])=true
       ·exact .inr (.inr (.inr (.inr (.inr (.inr (beq_iff_eq.1 c6))))))
       ·rw[if_neg c6] at h;omega
theorem c4s(h:0<=wdL l):l.length=2/\44 ∉ l:=by
 rcases b8X h with rfl|rfl|rfl|rfl|rfl|rfl|rfl <;> decide
theorem a8E(h:¬ (l.length=2/\44 ∉ l)):wdL l=-1:=by
 have b:=c3Q l
 by_cases g:0<=wdL l
 ·exact absurd (c4s g) h
 ·omega
def a4D(acc:List Int)(d:Int):Option (List Int):=if 0<=d/\acc.contains d=false then some (d :: acc) else none
def onP:List (List UInt8)->List Int->Option (List Int)
 |[],acc=>some acc
 |p :: ps,acc=>(a4D acc (wdL p)).bind (onP ps)
def onC:List UInt8->List Int->Option (List Int)
 |[a,b],acc=>a4D acc (wdL [a,b])
 |a :: b :: c :: r,acc=>if c=44 then (a4D acc (wdL [a,b])).bind (onC r) else none
 |_,_=>none
def sp:List UInt8->List (List UInt8)
 |[]=>[[]]
 |c :: l=>if c=44 then [] :: sp l else (match sp l with| []=>[[c]]|p :: ps=>(c :: p) :: ps)
theorem a6z(acc:List Int):a4D acc (-1)=none:=by simp[a4D]
theorem c6S(l:List UInt8):sp l≠[]:=by
 cases l with
 |nil=>simp[sp]
 |cons c l=>unfold sp;split;simp;split <;> simp
theorem a2U{p:List UInt8}(ps:List (List UInt8))(acc:List Int)(h:¬ (p.length=2/\44 ∉ p)):onP (p :: ps) acc=none:=by
 simp[onP,a8E h,a6z]
theorem a7k(c:UInt8)(l:List UInt8)(h:c≠44):∃ p ps,sp l=p :: ps/\sp (c :: l)=(c :: p) :: ps:=by
 cases hs:sp l with
 |nil=>exact absurd hs (c6S l)
 |cons p ps=>exact⟨p,ps,rfl,by simp[sp,h,hs]⟩
theorem a4h(l:List UInt8):sp (44 :: l)=[] :: sp l:=by simp[sp]
theorem b9V:∀ (l:List UInt8)(acc:List Int),onP (sp l) acc=onC l acc
 |[],acc=>by rw[show sp []=[[]] from rfl,a2U _ _ (by simp)];rfl
 |[a],acc=>by
  by_cases ha:a=44
  ·subst ha;rw[a4h,a2U _ _ (by simp)];rfl
  ·obtain⟨p,ps,h1,h2⟩:=a7k a [] ha;simp only[sp,List.cons.injEq] at h1;obtain⟨rfl,rfl⟩:=h1;rw[h2,a2U _ _ (by simp)];rfl
 |[a,b],acc=>by
  by_cases ha:a=44
  ·subst ha;rw[a4h,a2U _ _ (by simp),onC,a8E (by simp),a6z]
  ·obtain⟨p,ps,h1,h2⟩:=a7k a [b] ha;rw[h2]
   by_cases hb:b=44
   ·subst hb;rw[a4h] at h1;simp only[List.cons.injEq] at h1;obtain⟨rfl,rfl⟩:=h1;rw[a2U _ _ (by simp),onC,a8E (by simp),a6z]
   ·obtain⟨p',ps',h1',h2'⟩:=a7k b [] hb;simp only[sp,List.cons.injEq] at h1';obtain⟨rfl,rfl⟩:=h1';rw[h2'] at h1;simp only[List.cons.injEq] at h1;obtain⟨rfl,rfl⟩:=h1;simp only[onP,onC]
    cases a4D acc (wdL [a,b]) <;> rfl
 |a :: b :: c :: l,acc=>by
  have ih:=b9V l
  by_cases ha:a=44
  ·subst ha;rw[a4h,a2U _ _ (by simp),onC,a8E (by simp),a6z]
   split <;> rfl
  ·obtain⟨p,ps,h1,h2⟩:=a7k a (b :: c :: l) ha;rw[h2]
   by_cases hb:b=44
   ·subst hb;rw[a4h] at h1;simp only[List.cons.injEq] at h1;obtain⟨rfl,rfl⟩:=h1;rw[a2U _ _ (by simp),onC,a8E (by simp),a6z]
    split <;> rfl
   ·obtain⟨p',ps',h1',h2'⟩:=a7k b (c :: l) hb;rw[h2'] at h1;simp only[List.cons.injEq] at h1;obtain⟨rfl,rfl⟩:=h1
    by_cases hc:c=44
    ·subst hc;rw[a4h] at h1';simp only[List.cons.injEq] at h1';obtain⟨rfl,rfl⟩:=h1';simp only[onP,onC,if_true]
     cases a4D acc (wdL [a,b]) with
     |none=>rfl
     |some x=>exact ih x
    ·obtain⟨p'',ps'',_,h2''⟩:=a7k c l hc;rw[h2''] at h1';simp only[List.cons.injEq] at h1';obtain⟨rfl,rfl⟩:=h1';rw[a2U _ _ (by simp),onC,if_neg hc]
theorem b8u(c:UInt8)(l:List UInt8)(h:c≠44):Lib.index (c :: l) [44]=if Lib.index l [44]==-1 then -1 else Lib.index l [44]+1:=by
 rw[Lib.index];have:([44]:List UInt8).isPrefixOf (c :: l)=false:=by simp[List.isPrefixOf];exact fun e=>h e.symm
 rw[this];rfl
theorem b5c(l:List UInt8):Lib.index (44 :: l) [44]=0:=by
 rw[Lib.index];simp[List.isPrefixOf]
theorem b4B(c:UInt8)(l:List UInt8)(h:c≠44)(k:Nat):∃ p ps,Lib.splitK [44] 0 k l=p :: ps/\Lib.splitK [44] 0 k (c :: l)=(c :: p) :: ps:=by
 cases k with
 |zero=>exact⟨l,[],rfl,rfl⟩
 |succ k =>
  unfold Lib.splitK;rw[b8u c l h]
  by_cases hi:(Lib.index l [44]==-1)=true
  ·rw[if_pos hi,if_pos hi];exact⟨l,[],rfl,rfl⟩
  ·rw[if_neg hi,if_neg hi];have g:=Lib.index_ge l [44];have hn:Lib.index l [44]≠-1:=fun e=>hi (beq_iff_eq.2 e)
   rw[if_neg (by rw[beq_iff_eq];omega)];refine⟨_,_,rfl,?_⟩;obtain⟨i,hi'⟩:=Int.eq_ofNat_of_zero_le (show 0<=Lib.index l [44] by omega);rw[hi',show ((i:Int)+1).toNat=i+1 from by omega,show ((i:Int)).toNat=i from by omega];simp
theorem b5T:∀ l:List UInt8,Lib.splitK [44] 0 (l.count 44) l=sp l
 |[]=>rfl
 |c :: l=>by
  have ih:=b5T l
  by_cases h:c=44
  ·subst h;rw[List.count_cons_self,a4h,<- ih];rw[Lib.splitK,b5c];simp
  ·rw[List.count_cons_of_ne (by simpa using h)];obtain⟨p,ps,h1,h2⟩:=b4B c l h (l.count 44);rw[h2];rw[ih] at h1;simp[sp,h,h1]
def onW(s:ByteArray):Option (List Int):=onC s.data.toList []
def onB(s:ByteArray):Bool:=(onW s).isSome
theorem b9L(s:ByteArray):onP ((Lib.splitB ⟨#[44]⟩ 0 (Lib.countB s ⟨#[44]⟩) s).map (·.data.toList)) []=onW s:=by
 rw[Lib.splitB_data];have hc:Lib.countB s ⟨#[44]⟩=s.data.toList.count 44:=Lib.count_one 44 s.data.toList;rw[hc,show (ByteArray.mk #[44]).data.toList=[44] from rfl,b5T,b9V];rfl
end Go.Proofs.YtfigmlfdnickmaaGreatDoor.Txt
namespace Go.Proofs.YtfigmlfdnickmaaGreatDoor
def isd(acc:List Int)(j:Int):Bool:=acc.contains j
end Go.Proofs.YtfigmlfdnickmaaGreatDoor
namespace Go.Proofs.YtfigmlfdnickmaaGreatDoor
theorem a4i{α:Type}{lt:α->α->Prop}(hi:∀ x,¬ lt x x)(ht:∀ x y z,lt x y->lt y z->lt x z):∀ {l m:List α},l.Pairwise lt->m.Pairwise lt->(∀ x,x∈l↔x∈m)->l=m
 |[],[],_,_,_=>rfl
 |[],y :: m,_,_,h=>by have:=(h y).2 (by simp);simp at this
 |x :: l,[],_,_,h=>by have:=(h x).1 (by simp);simp at this
 |x :: l,y :: m,hl,hm,h=>by
  rw[List.pairwise_cons] at hl hm
  have e:x=y:=by
   rcases List.mem_cons.1 ((h x).1 (by simp)) with e|e
   ·exact e
   ·rcases List.mem_cons.1 ((h y).2 (by simp)) with k|k
    ·exact k.symm
    ·exact absurd (ht _ _ _ (hl.1 y k) (hm.1 x e)) (hi x)
  subst e
  congr 1
  refine a4i hi ht hl.2 hm.2 (fun z=>?_);constructor
  ·intro hz;rcases List.mem_cons.1 ((h z).1 (by simp[hz])) with e|e
   ·subst e;exact absurd (hl.1 z hz) (hi z)
   ·exact e
  ·intro hz;rcases List.mem_cons.1 ((h z).2 (by simp[hz])) with e|e
   ·subst e;exact absurd (hm.1 z hz) (hi z)
   ·exact e
namespace Rd
def a1p(p:Int->Bool):Nat->Int->List Int
 |0,_=>[]
 |k+1,d=>if p d then d :: a1p p k (d+1) else a1p p k (d+1)
theorem a5r(p:Int->Bool):∀ (k:Nat)(d x:Int),x∈a1p p k d↔d<=x/\x<d+k/\p x=true
 |0,d,x=>by simp[a1p];omega
 |k+1,d,x=>by
  have ih:=a5r p k (d+1) x;simp only[a1p]
  by_cases c:p d=true
  ·rw[if_pos c,List.mem_cons,ih];constructor
   ·rintro (rfl|⟨h1,h2,h3⟩)
    ·exact⟨Int.le_refl _,by omega,c⟩
    ·exact⟨by omega,by omega,h3⟩
   ·rintro ⟨h1,h2,h3⟩
    by_cases e:x=d
    ·exact .inl e
    ·exact .inr ⟨by omega,by omega,h3⟩
  ·rw[if_neg c,ih];constructor
   ·rintro ⟨h1,h2,h3⟩;exact⟨by omega,by omega,h3⟩
   ·rintro ⟨h1,h2,h3⟩;have:x≠d:=fun e=>c (e ▸ h3)
    exact⟨by omega,by omega,h3⟩
theorem a3X(p:Int->Bool):∀ (k:Nat)(d:Int),(a1p p k d).Pairwise (· < ·)
 |0,d=>by simp[a1p]
 |k+1,d=>by
  simp only[a1p]
  split
  ·rw[List.pairwise_cons];exact⟨fun x hx=>by have:=(a5r p k (d+1) x).1 hx;omega,a3X p k (d+1)⟩
  ·exact a3X p k (d+1)
theorem b8Z{l m:List Int}(hl:l.Pairwise (· < ·))(hm:m.Pairwise (· < ·))(h:∀ x,x∈l↔x∈m):l=m :=
 a4i (lt:=fun a b:Int=>a<b) (fun x=>by omega) (fun x y z h k=>by omega) hl hm h
def b0f(ev:Int):Nat->Int->List Int
 |0,_=>[]
 |k+1,d=>if d<728 then d :: b0f ev k (d+ev) else []
theorem b6d{ev:Int}(he:1<=ev):∀ (k:Nat)(d x:Int),728<=d+k->(x∈b0f ev k d↔d<=x/\x<728/\(x-d) % ev=0)
 |0,d,x,h=>by simp[b0f];omega
 |k+1,d,x,h=>by
  simp only[b0f]
  by_cases c:d<728
  ·rw[if_pos c,List.mem_cons,b6d he k (d+ev) x (by omega)];have e1:(x-(d+ev)) % ev=(x-d) % ev:=by rw[show x-(d+ev)=x-d-ev from by omega,Int.sub_emod_right]
   rw[e1];constructor
   ·rintro (rfl|⟨h1,h2,h3⟩)
    ·exact⟨Int.le_refl _,c,by simp⟩
    ·exact⟨by omega,h2,h3⟩
   ·rintro ⟨h1,h2,h3⟩
    by_cases e:d+ev<=x
    ·exact .inr ⟨e,h2,h3⟩
    ·rw[Int.emod_eq_of_lt (by omega) (by omega)] at h3;exact .inl (by omega)
  ·rw[if_neg c];simp;omega
theorem b4H{ev:Int}(he:1<=ev):∀ (k:Nat)(d:Int),(b0f ev k d).Pairwise (· < ·)/\∀ x∈b0f ev k d,d<=x
 |0,d=>by simp[b0f]
 |k+1,d=>by
  simp only[b0f];obtain⟨i1,i2⟩:=b4H he k (d+ev)
  split
  ·refine⟨List.pairwise_cons.2 ⟨fun x hx=>by have:=i2 x hx;omega,i1⟩,fun x hx=>?_⟩;rcases List.mem_cons.1 hx with rfl|hx
   ·exact Int.le_refl _
   ·have:=i2 x hx;omega
  ·simp
def c1K(acc:List Int)(fr mon:Int):List Int:=a1p (fun d=>isd acc (d-mon)) (mon+7-max mon fr).toNat (max mon fr)
def a9Y(acc:List Int)(fr ev:Int):Nat->Int->List Int
 |0,_=>[]
 |k+1,mon=>if mon<728 then c1K acc fr mon++a9Y acc fr ev k (mon+ev*7) else []
theorem b1o{mon:Int}:x∈c1K acc fr mon↔mon<=x/\fr<=x/\x<mon+7/\isd acc (x-mon)=true:=by
 unfold c1K;rw[a5r];constructor
 ·rintro ⟨h1,h2,h3⟩;exact⟨by omega,by omega,by omega,h3⟩
 ·rintro ⟨h1,h2,h3,h4⟩;exact⟨by omega,by omega,h4⟩
theorem b6b{acc:List Int}{fr ev:Int}(he:1<=ev):∀ (k:Nat)(mon x:Int),0<=mon->mon % 7=0->728<=mon+k->(x∈a9Y acc fr ev k mon↔mon<=x/\fr<=x/\x<728/\isd acc (x % 7)=true/\(x / 7-mon / 7) % ev=0)
 |0,mon,x,h0,h7,h=>by simp[a9Y];omega
 |k+1,mon,x,h0,h7,h=>by
  simp only[a9Y]
  by_cases c:mon<728
  ·have hev:(ev*7) % 7=0:=by omega
   rw[if_pos c,List.mem_append,b1o,b6b he k (mon+ev*7) x (by omega) (by omega) (by omega)];have e0:(mon+ev*7) / 7=mon / 7+ev:=by omega
   have e1:(x / 7-(mon+ev*7) / 7) % ev=(x / 7-mon / 7) % ev:=by rw[e0,show x / 7-(mon / 7+ev)=x / 7-mon / 7-ev from by omega,Int.sub_emod_right]
   rw[e1];constructor
   ·rintro (⟨h1,h2,h3,h4⟩|⟨h1,h2,h3,h4,h5⟩)
    ·have e2:x-mon=x % 7:=by omega
     have e3:x / 7-mon / 7=0:=by omega
     rw[e2] at h4;rw[e3];exact⟨h1,h2,by omega,h4,by simp⟩
    ·exact⟨by omega,h2,h3,h4,h5⟩
   ·rintro ⟨h1,h2,h3,h4,h5⟩
    by_cases e:x<mon+7
    ·have e2:x-mon=x % 7:=by omega
     exact .inl ⟨h1,h2,e,by rw[e2];exact h4⟩
    ·by_cases e':mon+ev*7<=x
     ·exact .inr ⟨e',h2,h3,h4,h5⟩
     ·rw[Int.emod_eq_of_lt (by omega) (by omega)] at h5;omega
  ·rw[if_neg c];simp;omega
theorem b4F{acc:List Int}{fr ev:Int}(he:1<=ev):∀ (k:Nat)(mon:Int),(a9Y acc fr ev k mon).Pairwise (· < ·)/\∀ x∈a9Y acc fr ev k mon,mon<=x
 |0,mon=>by simp[a9Y]
 |k+1,mon=>by
  simp only[a9Y];obtain⟨i1,i2⟩:=b4F (acc:=acc) (fr:=fr) he k (mon+ev*7)
  split
  ·refine⟨List.pairwise_append.2 ⟨a3X _ _ _,i1,fun x hx y hy=>?_⟩,fun x hx=>?_⟩
   ·have:=b1o.1 hx;have:=i2 y hy;omega
   ·rcases List.mem_append.1 hx with hx|hx
    ·exact (b1o.1 hx).1
    ·have:=i2 x hx;omega
  ·simp
def reached(y m:Int):Bool:=Cal.ok y m 1 && decide (Cal.num y m 1<728)
def a4E(y m ev:Int):Int:=y+(m-1+ev) / 12
def a3J(m ev:Int):Int:=(m-1+ev) % 12+1
def a4s(y m dt:Int):List Int:=if Cal.ok y m dt then [Cal.num y m dt] else []
def b0e(dt ev:Int):Nat->Int->Int->List Int
 |0,_,_=>[]
 |k+1,y,m=>if reached y m then a4s y m dt++b0e dt ev k (a4E y m ev) (a3J m ev) else []
theorem a8c{d y' m' d':Int}(h:Cal.ok y m d=true)(h':Cal.ok y' m' d'=true)(k:12*y+m<12*y'+m'):Cal.num y m d<Cal.num y' m' d':=by
 have i:=Cal.a9p y m d h;have i':=Cal.a9p y' m' d' h';obtain⟨h1,h2,h3,h4,h5,h6⟩:=(Cal.a2K y m d).1 h;obtain⟨g1,g2,g3,g4,g5,g6⟩:=(Cal.a2K y' m' d').1 h'
 by_cases e:y=y'
 ·subst e;have:=Cal.b2i y m m' h3 (by omega) (by omega);unfold Cal.num;omega
 ·have:=Cal.a9T (y+1) y' (by omega) (by omega);omega
theorem a6I(h1:1<=y)(h2:y<=9999)(h3:1<=m)(h4:m<=12):Cal.ok y m 1=true:=by
 have:=Cal.b3I y m;exact (Cal.a2K _ _ _).2 ⟨h1,h2,h3,h4,by omega,by omega⟩
theorem a8Z(h1:2024<=y)(h2:y<=9999)(h3:1<=m)(h4:m<=12):reached y m=true↔12*y+m<=24312:=by
 have o:=a6I (m:=m) (by omega:1<=y) h2 h3 h4;unfold reached;rw[o,Bool.true_and,decide_eq_true_eq];have e1:Cal.num 2025 12 1=700:=by decide
 have e2:Cal.num 2026 1 1=731:=by decide
 constructor
 ·intro h;apply Classical.byContradiction;intro c
  by_cases e:12*y+m=24313
  ·have:y=2026:=by omega
   have:m=1:=by omega
   subst_vars;omega
  ·have:=a8c (a6I (y:=2026) (m:=1) (by omega) (by omega) (by omega) (by omega)) o (by omega);omega
 ·intro h
  by_cases e:12*y+m=24312
  ·have:y=2025:=by omega
   have:m=12:=by omega
   subst_vars;omega
  ·have:=a8c o (a6I (y:=2025) (m:=12) (by omega) (by omega) (by omega) (by omega)) (by omega);omega
theorem b1N{ev:Int}:12*a4E y m ev+a3J m ev=12*y+m+ev/\1<=a3J m ev/\a3J m ev<=12:=by
 unfold a4E a3J;omega
theorem a6c(h0:0<=x)(h1:x<728):Cal.ok (Cal.yT x) (Cal.mT x) (Cal.dT x)=true/\Cal.num (Cal.yT x) (Cal.mT x) (Cal.dT x)=x/\2024<=Cal.yT x/\12*Cal.yT x+Cal.mT x<=24312:=by
 obtain⟨o,n⟩:=Cal.c6G x (by omega) (by omega);refine⟨o,n,?_,?_⟩
 ·apply Classical.byContradiction;intro c;obtain⟨g1,g2,g3,g4,g5,g6⟩:=(Cal.a2K _ _ _).1 o;have:=a8c o (a6I (y:=2024) (m:=1) (by omega) (by omega) (by omega) (by omega)) (by omega);have e:Cal.num 2024 1 1=0:=by decide
  omega
 ·apply Classical.byContradiction;intro c;obtain⟨g1,g2,g3,g4,g5,g6⟩:=(Cal.a2K _ _ _).1 o;have e2:Cal.num 2026 1 1=731:=by decide
  have o2:=a6I (y:=2026) (m:=1) (by omega) (by omega) (by omega) (by omega)
  by_cases e:12*Cal.yT x+Cal.mT x=24313
  ·have:Cal.yT x=2026:=by omega
   have e':Cal.mT x=1:=by omega
   rw[this,e'] at n
   have e3:Cal.num 2026 1 (Cal.dT x)=731+Cal.dT x-1:=by
    have:Cal.num 2026 1 (Cal.dT x)=Cal.num 2026 1 1+Cal.dT x-1:=by unfold Cal.num;omega
    omega
   omega
  ·have:=a8c o2 o (by omega);omega
theorem b6c{dt ev:Int}(he:1<=ev)(he2:ev<=99):∀ (k:Nat)(y m x:Int),2024<=y->y<=2034->1<=m->m<=12->24312<12*y+m+k->0<=x->x<728 ->
  (x∈b0e dt ev k y m↔Cal.dT x=dt/\12*y+m<=12*Cal.yT x+Cal.mT x/\(12*Cal.yT x+Cal.mT x-12*y-m) % ev=0)
 |0,y,m,x,hy,hy2,hm,hm2,hk,h0,h1=>by
  have:=(a6c h0 h1).2.2.2;simp[b0e];omega
 |k+1,y,m,x,hy,hy2,hm,hm2,hk,h0,h1=>by
  obtain⟨o,n,y0,mx⟩:=a6c h0 h1;obtain⟨g1,g2,g3,g4,g5,g6⟩:=(Cal.a2K _ _ _).1 o;simp only[b0e];have hr:=a8Z (y:=y) (m:=m) hy (by omega) hm hm2
  by_cases c:12*y+m<=24312
  ·rw[if_pos (hr.2 c),List.mem_append];obtain⟨l1,l2,l3⟩:=b1N (y:=y) (m:=m) (ev:=ev);rw[b6c he he2 k (a4E y m ev) (a3J m ev) x (by omega) (by omega) l2 l3 (by omega) h0 h1]
   have e1:(12*Cal.yT x+Cal.mT x-12*a4E y m ev-a3J m ev) % ev=(12*Cal.yT x+Cal.mT x-12*y-m) % ev:=by
    rw[show 12*Cal.yT x+Cal.mT x-12*a4E y m ev-a3J m ev=12*Cal.yT x+Cal.mT x-12*y-m-ev from by omega,Int.sub_emod_right]
   rw[e1,l1]
   have hin:x∈a4s y m dt↔Cal.dT x=dt/\12*y+m=12*Cal.yT x+Cal.mT x:=by
    unfold a4s;constructor
    ·intro h
     by_cases ok:Cal.ok y m dt=true
     ·rw[if_pos ok] at h;have:x=Cal.num y m dt:=by simpa using h
      obtain⟨a1,a2,a3⟩:=Cal.c4g y m dt x ok this.symm;exact⟨a3.symm,by omega⟩
     ·rw[if_neg ok] at h;simp at h
    ·rintro ⟨a1,a2⟩;have e2:y=Cal.yT x:=by omega
     have e3:m=Cal.mT x:=by omega
     subst a1;rw[e2,e3,if_pos o,n];simp
   rw[hin];constructor
   ·rintro (⟨a1,a2⟩|⟨a1,a2,a3⟩)
    ·refine⟨a1,by omega,?_⟩;rw[show 12*Cal.yT x+Cal.mT x-12*y-m=0 from by omega];simp
    ·exact⟨a1,by omega,a3⟩
   ·rintro ⟨a1,a2,a3⟩
    by_cases e:12*y+m+ev<=12*Cal.yT x+Cal.mT x
    ·exact .inr ⟨a1,e,a3⟩
    ·rw[Int.emod_eq_of_lt (by omega) (by omega)] at a3;exact .inl ⟨a1,by omega⟩
  ·have hn:¬ reached y m=true:=fun h=>c (hr.1 h)
   rw[if_neg hn];simp;omega
theorem b4G{dt ev:Int}(he:1<=ev):∀ (k:Nat)(y m:Int),1<=m->m<=12->(b0e dt ev k y m).Pairwise (· < ·)/\∀ x∈b0e dt ev k y m,∃ y' m',Cal.ok y' m' dt=true/\x=Cal.num y' m' dt/\12*y+m<=12*y'+m'
 |0,y,m,_,_=>by simp[b0e]
 |k+1,y,m,h1,h2=>by
  simp only[b0e];obtain⟨l1,l2,l3⟩:=b1N (y:=y) (m:=m) (ev:=ev);obtain⟨i1,i2⟩:=b4G (dt:=dt) he k (a4E y m ev) (a3J m ev) l2 l3
  split
  ·unfold a4s
   by_cases ok:Cal.ok y m dt=true
   ·rw[if_pos ok];refine⟨List.pairwise_append.2 ⟨by simp,i1,fun x hx z hz=>?_⟩,fun x hx=>?_⟩
    ·have:x=Cal.num y m dt:=by simpa using hx
     obtain⟨y',m',o,rfl,k⟩:=i2 z hz;rw[this];exact a8c ok o (by omega)
    ·rcases List.mem_append.1 hx with hx|hx
     ·have:x=Cal.num y m dt:=by simpa using hx
      exact⟨y,m,ok,this,Int.le_refl _⟩
     ·obtain⟨y',m',o,e,k⟩:=i2 x hx;exact⟨y',m',o,e,by omega⟩
   ·rw[if_neg ok];refine⟨by simpa using i1,fun x hx=>?_⟩;obtain⟨y',m',o,e,k⟩:=i2 x (by simpa using hx);exact⟨y',m',o,e,by omega⟩
  ·simp
structure a0Y where
 pc:Int
 ev:Int
 acc:List Int
 fr:Int
 mn:Int
 mi:Int
 ti:Int
 un:Int
structure a6s(r:a0Y):Prop where
 pc1:1<=r.pc
 pc3:r.pc<=3
 e1:1<=r.ev
 e2:r.ev<=99
 f0:0<=r.fr
 f1:r.fr<728
 m0:0<=r.mn
 m1:r.mn<1440
 i1:1<=r.mi
 i2:r.mi<=1048320
 t0:0<=r.ti
 t1:r.ti<=99
 u0:0<=r.un
 u1:r.un<728
def has(r:a0Y)(d:Int):Bool :=
 if r.pc=1 then decide ((d-r.fr) % r.ev=0)
 else if r.pc=2 then isd r.acc (d % 7) && decide ((d / 7-r.fr / 7) % r.ev=0)
 else decide (Cal.dT d=Cal.dT r.fr) && decide ((12*Cal.yT d+Cal.mT d-12*Cal.yT r.fr-Cal.mT r.fr) % r.ev=0)
def all(r:a0Y):List Int:=a1p (has r) (728-r.fr).toNat r.fr
theorem b5H{r:a0Y}(h:a6s r)(x:Int):x∈all r↔r.fr<=x/\x<728/\has r x=true:=by
 have:=h.f1;unfold all;rw[a5r];constructor
 ·rintro ⟨h1,h2,h3⟩;exact⟨h1,by omega,h3⟩
 ·rintro ⟨h1,h2,h3⟩;exact⟨h1,by omega,h3⟩
def seq(r:a0Y):List Int :=
 if r.pc=2 then a9Y r.acc r.fr r.ev 800 (r.fr-r.fr % 7)
 else if r.pc=3 then b0e (Cal.dT r.fr) r.ev 100 (Cal.yT r.fr) (Cal.mT r.fr)
 else b0f r.ev 800 r.fr
theorem c3S{r:a0Y}(h:a6s r):(seq r).Pairwise (· < ·):=by
 unfold seq
 split
 ·exact (b4F h.e1 _ _).1
 ·split
  ·have o:=(a6c h.f0 h.f1).1;obtain⟨g1,g2,g3,g4,g5,g6⟩:=(Cal.a2K _ _ _).1 o;exact (b4G h.e1 _ _ _ g3 g4).1
  ·exact (b4H h.e1 _ _).1
theorem b9A{r:a0Y}(h:a6s r)(h0:0<=x)(h1:x<728):x∈seq r↔r.fr<=x/\has r x=true:=by
 have f0:=h.f0;have f1:=h.f1;have p1:=h.pc1;have p3:=h.pc3;unfold seq has
 by_cases c2:r.pc=2
 ·rw[if_pos c2,if_neg (by omega),if_pos c2,b6b h.e1 800 _ x (by omega) (by omega) (by omega)];have e:(r.fr-r.fr % 7) / 7=r.fr / 7:=by omega
  rw[e,Bool.and_eq_true,decide_eq_true_eq];constructor
  ·rintro ⟨k1,k2,k3,k4,k5⟩;exact⟨k2,k4,k5⟩
  ·rintro ⟨k2,k4,k5⟩;exact⟨by omega,k2,h1,k4,k5⟩
 ·rw[if_neg c2]
  by_cases c3:r.pc=3
  ·rw[if_pos c3,if_neg (by omega),if_neg c2];obtain⟨o,n,y0,mx⟩:=a6c h.f0 h.f1;obtain⟨g1,g2,g3,g4,g5,g6⟩:=(Cal.a2K _ _ _).1 o;rw[b6c h.e1 h.e2 100 _ _ x y0 (by omega) g3 g4 (by omega) h0 h1,Bool.and_eq_true,decide_eq_true_eq,decide_eq_true_eq];obtain⟨ox,nx,yx,mxx⟩:=a6c h0 h1;constructor
   ·rintro ⟨k1,k2,k3⟩;refine⟨?_,k1,k3⟩
    by_cases e:12*Cal.yT r.fr+Cal.mT r.fr=12*Cal.yT x+Cal.mT x
    ·obtain⟨j1,j2,j3,j4,j5,j6⟩:=(Cal.a2K _ _ _).1 ox;have e1:Cal.yT r.fr=Cal.yT x:=by omega
     have e2:Cal.mT r.fr=Cal.mT x:=by omega
     rw[e1,e2,<- k1] at n;omega
    ·have:=a8c o ox (by omega);omega
   ·rintro ⟨k1,k2,k3⟩;refine⟨k2,?_,k3⟩;apply Classical.byContradiction;intro c;have:=a8c ox o (by omega);omega
  ·rw[if_neg c3,if_pos (by omega),b6d h.e1 800 _ x (by omega),decide_eq_true_eq];constructor
   ·rintro ⟨k1,k2,k3⟩;exact⟨k1,k3⟩
   ·rintro ⟨k1,k3⟩;exact⟨k1,h1,k3⟩
theorem b1t{l:List Int}(h:l.Pairwise (· < ·))(b x:Int):x∈l.takeWhile (fun d=>decide (d<=b))↔x∈l/\x<=b:=by
 induction l with
 |nil=>simp
 |cons d l ih =>
  rw[List.pairwise_cons] at h;rw[List.takeWhile_cons]
  by_cases c:d<=b
  ·simp only[c,decide_true,if_true,List.mem_cons,ih h.2];constructor
   ·rintro (rfl|⟨k1,k2⟩)
    ·exact⟨.inl rfl,c⟩
    ·exact⟨.inr k1,k2⟩
   ·rintro ⟨rfl|k1,k2⟩
    ·exact .inl rfl
    ·exact .inr ⟨k1,k2⟩
  ·simp only[c,decide_false,Bool.false_eq_true,if_false,List.not_mem_nil,false_iff,List.mem_cons];rintro ⟨rfl|k1,k2⟩
   ·exact c k2
   ·have:=h.1 x k1;omega
theorem c3T{r:a0Y}(h:a6s r)(hb:b<728):(seq r).takeWhile (fun d=>decide (d<=b))=(all r).filter (fun d=>decide (d<=b)):=by
 refine b8Z ?_ ?_ (fun x=>?_)
 ·exact List.Pairwise.sublist (List.takeWhile_sublist _) (c3S h)
 ·exact List.Pairwise.filter _ (a3X _ _ _)
 ·rw[b1t (c3S h),List.mem_filter,b5H h,decide_eq_true_eq];have f0:=h.f0
  have low:x∈seq r->0<=x:=by
   intro hx;unfold seq at hx
   split at hx
   ·have:=(b4F h.e1 _ _).2 x hx;omega
   ·split at hx
    ·have o:=(a6c h.f0 h.f1);obtain⟨g1,g2,g3,g4,g5,g6⟩:=(Cal.a2K _ _ _).1 o.1;obtain⟨y',m',o',rfl,k⟩:=(b4G h.e1 _ _ _ g3 g4).2 x hx
     by_cases e:12*Cal.yT r.fr+Cal.mT r.fr=12*y'+m'
     ·obtain⟨j1,j2,j3,j4,j5,j6⟩:=(Cal.a2K _ _ _).1 o';have e1:Cal.yT r.fr=y':=by omega
      have e2:Cal.mT r.fr=m':=by omega
      rw[<- e1,<- e2,o.2.1];omega
     ·have:=a8c o.1 o' (by omega);have:=o.2.1;omega
    ·have:=(b4H h.e1 _ _).2 x hx;omega
  constructor
  ·rintro ⟨k1,k2⟩;have k0:=low k1;obtain⟨k3,k4⟩:=(b9A h k0 (by omega)).1 k1;exact⟨⟨k3,by omega,k4⟩,k2⟩
  ·rintro ⟨⟨k1,k2,k3⟩,k4⟩;exact⟨(b9A h (by omega) k2).2 ⟨k1,k3⟩,k4⟩
theorem c4L{r:a0Y}(h:a6s r):(seq r).takeWhile (fun d=>decide (d<=727))=all r:=by
 rw[c3T h (by omega)];exact List.filter_eq_self.2 (fun x hx=>by have:=(b5H h x).1 hx;simp;omega)
def a0t(r:a0Y):List Int:=if 0<r.ti then ((seq r).takeWhile (fun d=>decide (d<=727))).take r.ti.toNat else ((seq r).takeWhile (fun d=>decide (d<=r.un))).take 41
def b4L(r:a0Y)(l:List Int)(d:Int):List Int:=if has r d/\((r.ti=0/\d<=r.un)\/(0<r.ti/\(l.length:Int)<r.ti)) then l++[d] else l
def a4Y(r:a0Y):Nat->Int->List Int->List Int
 |0,_,l=>l
 |k+1,d,l=>a4Y r k (d+1) (b4L r l d)
theorem a7Y{r:a0Y}(h:r.ti=0):∀ (k:Nat)(d:Int)(l:List Int),a4Y r k d l=l++(a1p (has r) k d).filter (fun d=>decide (d<=r.un))
 |0,d,l=>by simp[a4Y,a1p]
 |k+1,d,l=>by
  simp only[a4Y,a1p];rw[a7Y h k (d+1)];unfold b4L
  by_cases c:has r d=true
  ·rw[if_pos c,List.filter_cons]
   by_cases c2:d<=r.un
   ·rw[if_pos ⟨c,.inl ⟨h,c2⟩⟩,if_pos (by simp[c2])];simp
   ·rw[if_neg (by omega),if_neg (by simp[c2])]
  ·rw[if_neg c,if_neg (fun e=>c e.1)]
theorem a3e{r:a0Y}(h:0<r.ti):∀ (k:Nat)(d:Int)(l:List Int),(l.length:Int)<=r.ti->a4Y r k d l=l++(a1p (has r) k d).take (r.ti.toNat-l.length)
 |0,d,l,_=>by simp[a4Y,a1p]
 |k+1,d,l,hl=>by
  simp only[a4Y,a1p];unfold b4L
  by_cases c:has r d=true
  ·rw[if_pos c]
   by_cases c2:(l.length:Int)<r.ti
   ·rw[if_pos ⟨c,.inr ⟨h,c2⟩⟩,a3e h k (d+1) _ (by simp;omega)];have e:r.ti.toNat-l.length=(r.ti.toNat-(l++[d]).length)+1:=by simp;omega
    rw[e,List.take_succ_cons];simp
   ·rw[if_neg (by omega),a3e h k (d+1) _ hl];have e:r.ti.toNat-l.length=0:=by omega
    rw[e];simp
  ·rw[if_neg c,if_neg (fun e=>c e.1),a3e h k (d+1) _ hl]
def a0E(r:a0Y):List Int:=a4Y r (728-r.fr).toNat r.fr []
theorem a7N{r:a0Y}(h:a6s r):a0E r=if 0<r.ti then (all r).take r.ti.toNat else (all r).filter (fun d=>decide (d<=r.un)):=by
 have t0:=h.t0;unfold a0E
 split
 ·rw[a3e (by assumption) _ _ _ (by simp;omega)];simp[all]
 ·rw[a7Y (by omega)];simp[all]
theorem b3M{r:a0Y}(h:a6s r):a0t r=if 0<r.ti then a0E r else (a0E r).take 41:=by
 rw[a7N h];unfold a0t
 split
 ·rw[c4L h]
 ·rw[c3T h h.u1]
def a8m(r:a0Y)(d:Int):Bool:=decide (1048320<d*1440+r.mn+r.mi)
def a6W(r:a0Y):Int :=
 if 40<(a0E r).length\/40<r.ti then 11 else if a0E r=[]\/((a0E r).length:Int)<r.ti then 6 else if (a0E r).any (a8m r) then 6 else 0
def a0L(r:a0Y):Int :=
 if 40<r.ti then 11 else if 40<(a0t r).length then 11 else if a0t r=[]\/((a0t r).length:Int)<r.ti then 6 else if a8m r ((a0t r).getLastD 0) then 6 else 0
theorem b0X{r:a0Y}(h:a6s r):(a0E r).Pairwise (· < ·):=by
 rw[a7N h]
 split
 ·exact List.Pairwise.sublist (List.take_sublist _ _) (a3X _ _ _)
 ·exact List.Pairwise.filter _ (a3X _ _ _)
theorem a4x{r:a0Y}(h:a6s r)(hx:x∈a0E r):r.fr<=x/\x<728:=by
 rw[a7N h] at hx
 have:x∈all r:=by
  split at hx
  ·exact List.mem_of_mem_take hx
  ·exact (List.mem_filter.1 hx).1
 have:=(b5H h x).1 this;exact⟨this.1,this.2.1⟩
theorem a5c{r:a0Y}:∀ {l:List Int},l.Pairwise (· < ·)->l≠[]->l.any (a8m r)=a8m r (l.getLastD 0)
 |[],_,h=>absurd rfl h
 |[d],_,_=>by simp
 |d :: e :: l,h,_=>by
  rw[List.pairwise_cons] at h;have ih:=a5c (r:=r) (l:=e :: l) h.2 (by simp);rw[List.any_cons,ih];have e1:(d :: e :: l).getLastD 0=(e :: l).getLastD 0:=by simp[List.getLastD]
  rw[e1]
  cases hb:a8m r d
  ·simp
  ·have hm:(e :: l).getLastD 0∈e :: l:=by
    have:(e :: l).getLastD 0=(e :: l).getLast (by simp):=by simp[List.getLastD]
    rw[this];exact List.getLast_mem _
   have:=h.1 _ hm;simp only[a8m,decide_eq_true_eq] at hb;simp only[a8m,Bool.true_or];exact (decide_eq_true (by omega)).symm
theorem a5K{r:a0Y}(h:a6s r):a0L r=a6W r/\(a6W r=0->a0t r=a0E r/\a0E r≠[]/\(a0E r).length<=40/\∀ d∈a0E r,d*1440+r.mn+r.mi<=1048320):=by
 have ds:=b3M h;have up:=b0X h;have t0:=h.t0
 have fin:∀ {l:List Int},l≠[]->¬ l.any (a8m r)=true->∀ d∈l,d*1440+r.mn+r.mi<=1048320:=by
  intro l _ hn d hd;apply Classical.byContradiction;intro c;exact hn (List.any_eq_true.2 ⟨d,hd,by simp only[a8m,decide_eq_true_eq];omega⟩)
 unfold a0L a6W
 by_cases c:0<r.ti
 ·rw[if_pos c] at ds;rw[ds]
  by_cases c1:40<r.ti
  ·rw[if_pos c1,if_pos (.inr c1)];exact⟨rfl,fun e=>by omega⟩
  ·rw[if_neg c1]
   by_cases c2:40<(a0E r).length
   ·rw[if_pos c2,if_pos (.inl c2)];exact⟨rfl,fun e=>by omega⟩
   ·have cm:¬ (40<(a0E r).length\/40<r.ti):=by omega
    rw[if_neg c2,if_neg cm]
    by_cases c3:a0E r=[]\/((a0E r).length:Int)<r.ti
    ·rw[if_pos c3,if_pos c3];exact⟨rfl,fun e=>by omega⟩
    ·have hne:a0E r≠[]:=fun e=>c3 (.inl e)
     rw[if_neg c3,if_neg c3,a5c up hne];refine⟨rfl,fun e=>⟨rfl,hne,by omega,fin hne ?_⟩⟩;rw[a5c up hne];intro hl;rw[if_pos hl] at e;omega
 ·rw[if_neg c] at ds;have ct:¬ 40<r.ti:=by omega
  rw[ds,if_neg ct]
  by_cases c2:40<(a0E r).length
  ·have:40<((a0E r).take 41).length:=by rw[List.length_take];omega
   rw[if_pos this,if_pos (.inl c2)];exact⟨rfl,fun e=>by omega⟩
  ·have e41:(a0E r).take 41=a0E r:=List.take_of_length_le (by omega);have cm:¬ (40<(a0E r).length\/40<r.ti):=by omega
   rw[e41,if_neg c2,if_neg cm]
   by_cases c3:a0E r=[]\/((a0E r).length:Int)<r.ti
   ·rw[if_pos c3,if_pos c3];exact⟨rfl,fun e=>by omega⟩
   ·have hne:a0E r≠[]:=fun e=>c3 (.inl e)
    rw[if_neg c3,if_neg c3,a5c up hne];refine⟨rfl,fun e=>⟨rfl,hne,by omega,fin hne ?_⟩⟩;rw[a5c up hne];intro hl;rw[if_pos hl] at e;omega
def a2M(r:a0Y)(l:List Int):List (Int × Int):=l.map fun d=>(d*1440+r.mn,d*1440+r.mn+r.mi)
end Rd
open Go.RowKit
namespace Desk
def a2r(name:ByteArray)(es:List Ent)(a b:Int)(m x:Int):Int:=if a<x/\x<b/\m<a0o name x es then a0o name x es else m
def a1Q(name:ByteArray)(es:List Ent)(a b:Int):Int:=(a2L name es).foldl (a2r name es a b) (a0o name a es)
end Desk
namespace Desk
def b5k:List Ent->List Int
 |[]=>[]
 |e :: r=>e.a0e.map (·.2)++b5k r
def a3O(ts:List (ByteArray × Int))(es:List Ent)(name:ByteArray)(a0c long fr til best s:Int):Int :=
 if s<fr\/til<s+long\/(0<=best/\best<=s) then best else if a1e ts es name a0c [(s,s+long)] then s else best
def a9A(ts:List (ByteArray × Int))(es:List Ent)(name:ByteArray)(a0c long fr til:Int):Int:=(fr :: b5k es).foldl (a3O ts es name a0c long fr til) (-1)
end Desk
namespace Desk
def a5V(a x:Int):List Int->Int
 |[]=>a
 |s :: r=>if s<=x/\a5V a x r<s then s else a5V a x r
theorem a6N(a x:Int)(h:a<=x):∀ l:List Int,a<=a5V a x l/\a5V a x l<=x/\(a5V a x l=a\/a5V a x l∈l)/\∀ s∈l,s<=x->s<=a5V a x l
 |[]=>⟨Int.le_refl _,h,.inl rfl,by simp⟩
 |s :: r=>by
  obtain⟨h1,h2,h3,h4⟩:=a6N a x h r;simp only[a5V]
  split
  ·rename_i c
   refine⟨by omega,c.1,.inr (by simp),fun t ht k=>?_⟩;rcases List.mem_cons.1 ht with rfl|ht
   ·omega
   ·have:=h4 t ht k;omega
  ·rename_i c
   refine⟨h1,h2,?_,fun t ht k=>?_⟩
   ·rcases h3 with h3|h3
    ·exact .inl h3
    ·exact .inr (by simp[h3])
   ·rcases List.mem_cons.1 ht with rfl|ht
    ·omega
    ·exact h4 t ht k
theorem a5Y(hyx:y<=x)(h:∀ s∈L,s.1<=x->s.1<=y):a0r L x<=a0r L y:=by
 unfold a0r;rw[<- List.countP_eq_length_filter,<- List.countP_eq_length_filter]
 have:List.countP (hasB x) L<=List.countP (hasB y) L:=List.countP_mono_left (fun s hs hb=>by
  simp[hasB] at hb ⊢;have:=h s hs hb.1
  omega)
 omega
def Pos(es:List Ent):Prop:=∀ e∈es,0<=e.a0c
theorem a5Z{name:ByteArray}{x y:Int}(hyx:y<=x):∀ {es:List Ent},Pos es->(∀ s∈a2L name es,s<=x->s<=y)->a0o name x es<=a0o name y es
 |[],_,_=>Int.le_refl _
 |e :: r,hp,h=>by
  have ih:=a5Z (name:=name) hyx (es:=r) (fun z hz=>hp z (by simp[hz])) (fun s hs=>h s (by simp[a2L,hs]));simp only[a0o]
  by_cases hb:ofB name e=true
  ·rw[if_pos hb,if_pos hb];have hs:a0y e.a0k name=true:=by simp[ofB] at hb;exact hb.1
   have hm:a0r e.a0e x<=a0r e.a0e y:=a5Y hyx (fun s hs' hx=>h s.1 (by simp[a2L,hs];exact .inl ⟨s.2,hs'⟩) hx);have hu:=hp e (by simp);have:a0r e.a0e x*e.a0c<=a0r e.a0e y*e.a0c:=Int.mul_le_mul_of_nonneg_right hm hu;omega
  ·rw[if_neg hb,if_neg hb];omega
theorem a4d{name:ByteArray}(hp:Pos es)(hu:0<=a0c):
  a1e ts es name a0c L=true↔∀ x,0<a0r L x->a0o name x es+a0r L x*a0c<=a0h name ts:=by
 constructor
 ·intro h x hx
  have hex:∃ s∈L,s.1<=x/\x<s.2:=by
   unfold a0r at hx;have hl:0<(L.filter (hasB x)).length:=by omega
   obtain⟨s,hs⟩:=List.exists_mem_of_length_pos hl;have:=List.mem_filter.1 hs;simp[hasB] at this;exact⟨s,this.1,this.2⟩
  obtain⟨s0,hs0,k1,k2⟩:=hex;obtain⟨h1,h2,h3,h4⟩:=a6N s0.1 x k1 (a2L name es++L.map (·.1));generalize a5V s0.1 x (a2L name es++L.map (·.1))=y at h1 h2 h3 h4
  have hy:y∈a2L name es++L.map (·.1):=by
   rcases h3 with rfl|h3
   ·simp;exact .inr ⟨s0.2,hs0⟩
   ·exact h3
  have ht:=a5Z (name:=name) (es:=es) h2 hp (fun s hs=>h4 s (by simp[hs]));have hm:a0r L x<=a0r L y:=a5Y h2 (fun s hs=>h4 s.1 (by simp;exact .inr ⟨s.2,hs⟩));have hh:=List.all_eq_true.1 h y hy;simp[c4T] at hh;have hx':0<a0r L y:=by omega
  have hmu:a0r L x*a0c<=a0r L y*a0c:=Int.mul_le_mul_of_nonneg_right hm hu;omega
 ·intro h;unfold a1e c4e;rw[List.all_eq_true];intro x _;simp[c4T]
  by_cases hx:0<a0r L x
  ·exact .inr (h x hx)
  ·exact .inl (by omega)
end Desk
namespace Desk
def a1C(name:ByteArray):List Ent->List Bool->Int
 |[],_=>0
 |e :: r,p=>(if ofB name e then e.a0c*cnt e.a0e p else 0)+a1C name r p
theorem a8S(name:ByteArray)(l r:List Ent)(p:List Bool):a1C name (l++r) p=a1C name l p+a1C name r p:=by
 induction l with
 |nil=>simp[a1C]
 |cons e l ih=>simp only[List.cons_append,a1C,ih];omega
theorem b9s{name:ByteArray}(h:ofB name e=true):a1z (a1C name es) e.a0e e.a0c=a1C name (es++[e]):=by
 funext p
 simp only[a1z,a8S,a1C,h,if_true];omega
theorem a7X{name:ByteArray}(h:ofB name e=false):a1C name (es++[e])=a1C name es:=by
 funext p
 simp[a8S,a1C,h]
theorem a7j(name:ByteArray)(p:List Bool):∀ es:List Ent,(∀ e∈es,Small e)->0<=a1C name es p/\a1C name es p<=900*es.length
 |[],_=>by simp[a1C]
 |e :: r,h=>by
  have i:=a7j name p r (fun x hx=>h x (by simp[hx]));have s:=h e (by simp);have b:=b3P e.a0e p;have sl:=s.sl;have c:0<=e.a0c*cnt e.a0e p:=Int.mul_nonneg s.u0 b.1;have d:e.a0c*cnt e.a0e p<=9*100:=Int.mul_le_mul s.u1 (by omega) b.1 (by omega);simp only[a1C,List.length_cons]
  split <;> omega
theorem Small.pos(h:∀ e∈es,Small e):Pos es:=fun e he=>(h e he).u0
def a9U(es:List Ent):Prop:=∀ e∈es,∀ s∈e.a0e,s.1<s.2
theorem a4a(name:ByteArray){x:Int}(h0:0<=x)(h1:x<1048320):∀ es:List Ent,a9U es->b0i (a1C name es) x=a0o name x es
 |[],_=>by
  have:a1C name []=fun _=>0:=by funext p;rfl
  rw[this];exact Lev.b0h 20 0 1048320 x
 |e :: r,h=>by
  have ih:=a4a name h0 h1 r (fun z hz=>h z (by simp[hz]))
  by_cases hb:ofB name e=true
  ·have:a1C name (e :: r)=a1z (a1C name r) e.a0e e.a0c:=by funext p;simp only[a1C,a1z,hb,if_true];omega
   rw[this,b0G _ _ _ _ h0 h1 (h e (by simp)),ih];simp only[a0o,hb,if_true];have:((e.a0e.filter fun s=>decide (s.1<=x) && decide (x<s.2)).length:Int)=a0r e.a0e x:=rfl;rw[this,Int.mul_comm];omega
  ·have hb':ofB name e=false:=by simpa using hb
   have:a1C name (e :: r)=a1C name r:=by funext p;simp[a1C,hb']
   rw[this,ih];simp[a0o,hb']
theorem b8v{name:ByteArray}{u:Int}(hs:∀ e∈es,Small e)(hsp:a9U es)(hL:c1P L)(hu:0<=u)(hun:a0h name ts=a0c):
  a2V (a1z (a1C name es) L u) a0c L=a1e ts es name u L:=by
 have hA:∀ p,0<=a1z (a1C name es) L u p:=fun p=>by
  have:=(a7j name p es hs).1;have:=(b3P L p).1;have:0<=u*cnt L p:=Int.mul_nonneg hu this;unfold a1z;omega
 have hlev:∀ x,0<=x->x<1048320->b0i (a1z (a1C name es) L u) x=a0o name x es+a0r L x*u:=by
  intro x h0 h1;rw[b0G _ _ _ _ h0 h1 (fun s hs=>(hL s hs).2.1),a4a name h0 h1 es hsp];have:((L.filter fun s=>decide (s.1<=x) && decide (x<s.2)).length:Int)=a0r L x:=rfl;rw[this,Int.mul_comm]
 rw[Bool.eq_iff_iff,a4d (Small.pos hs) hu,hun];unfold a2V;rw[List.all_eq_true];constructor
 ·intro h x hx;have hl:0<(L.filter (hasB x)).length:=by unfold a0r at hx;omega
  obtain⟨s,hm⟩:=List.exists_mem_of_length_pos hl;have hm:=List.mem_filter.1 hm;have hb:=hm.2;simp[hasB] at hb;have k:=hL s hm.1;have:=of_decide_eq_true (h s hm.1);have m:=(b1G hA k.1 k.2.1 k.2.2).1 x hb.1 hb.2;rw[hlev x (by omega) (by omega)] at m;omega
 ·intro h s hs';have k:=hL s hs';obtain⟨_,x,m1,m2,m3⟩:=b1G hA k.1 k.2.1 k.2.2;rw[hlev x (by omega) (by omega)] at m3
  have hpos:0<a0r L x:=by
   unfold a0r;have:s∈L.filter (hasB x):=List.mem_filter.2 ⟨hs',by simp[hasB,m1,m2]⟩;have:=List.length_pos_of_mem this;omega
  have:=h x hpos;exact decide_eq_true (by omega)
def kept(id:Int)(es:List Ent):List Ent:=es.filter fun e=>e.id != id
def a0Q(e:Ent):Ent:={ e with kind:=1,a0Z:=0 }
def a0C(id:Int)(es:List Ent):List Ent:=es.map fun e=>if e.id=id then a0Q e else e
def Ids(es:List Ent):Prop:=(es.map (·.id)).Pairwise (· < ·)
theorem Ids.cons{r:List Ent}(h:Ids (e :: r)):(∀ z∈r,e.id<z.id)/\Ids r:=by
 unfold Ids at h ⊢;rw[List.map_cons,List.pairwise_cons] at h;exact⟨fun z hz=>h.1 z.id (List.mem_map.2 ⟨z,hz,rfl⟩),h.2⟩
theorem Ids.one(h:Ids es):∀ {x y:Ent},x∈es->y∈es->x.id=y.id->x=y:=by
 induction es with
 |nil=>intro x y hx;simp at hx
 |cons e r ih =>
  intro x y hx hy e1;obtain⟨h1,h2⟩:=h.cons;rcases List.mem_cons.1 hx with hx|hx
  ·rcases List.mem_cons.1 hy with hy|hy
   ·rw[hx,hy]
   ·have:=h1 y hy;rw[hx] at e1;omega
  ·rcases List.mem_cons.1 hy with hy|hy
   ·have:=h1 x hx;rw[hy] at e1;omega
   ·exact ih h2 hx hy e1
theorem a9h(h:∀ e∈es,e.id≠id):kept id es=es:=List.filter_eq_self.2 (fun e he=>by simp[h e he])
theorem a4A{id:Int}:∀ {es:List Ent},(∀ e∈es,e.id≠id)->a0C id es=es
 |[],_=>rfl
 |e :: r,h=>by
  have i:=a4A (id:=id) (es:=r) (fun z hz=>h z (by simp[hz]));unfold a0C at i ⊢;rw[List.map_cons,i,if_neg (h e (by simp))]
theorem b8M(es:List Ent):(a0C id es).map (·.id)=es.map (·.id):=by
 unfold a0C;rw[List.map_map];apply List.map_congr_left;intro e _;show (if e.id=id then a0Q e else e).id=e.id
 split <;> rfl
theorem b1e(h:Ids es):Ids (a0C id es):=by
 unfold Ids at *;rw[b8M];exact h
theorem a8Q{name:ByteArray}{e:Ent}(hb:ofB name e=true):∀ {es:List Ent},Ids es->e∈es->a1z (a1C name es) e.a0e (-e.a0c)=a1C name (kept e.id es)
 |[],_,h=>by simp at h
 |z :: r,hi,h=>by
  obtain⟨h1,h2⟩:=hi.cons
  funext p
  by_cases c:z.id=e.id
  ·have ez:e=z:=hi.one h (by simp) c.symm;subst ez
   have:kept e.id (e :: r)=r:=by
    have k:=a9h (id:=e.id) (es:=r) (fun y hy=>by have:=h1 y hy;omega);unfold kept at k ⊢;rw[List.filter_cons,if_neg (by simp),k]
   rw[this];simp only[a1z,a1C,hb,if_true];rw[Int.neg_mul];omega
  ·have he:e∈r:=by
    rcases List.mem_cons.1 h with rfl|h
    ·exact absurd rfl c
    ·exact h
   have i:=congrFun (a8Q hb h2 he) p
   have:kept e.id (z :: r)=z :: kept e.id r:=by
    unfold kept;rw[List.filter_cons,if_pos (by simpa using c)]
   rw[this];simp only[a1z,a1C] at i ⊢;omega
theorem a4S{name:ByteArray}{id:Int}:∀ {es:List Ent},(∀ e∈es,e.id=id->ofB name e=false)->a1C name (kept id es)=a1C name es
 |[],_=>rfl
 |z :: r,h=>by
  have i:=a4S (name:=name) (id:=id) (es:=r) (fun y hy=>h y (by simp[hy]))
  funext p
  have i:=congrFun i p;unfold kept at i ⊢;rw[List.filter_cons]
  by_cases c:z.id=id
  ·rw[if_neg (by simp[c])];simp only[a1C,h z (by simp) c,Bool.false_eq_true,if_false];rw[i];omega
  ·rw[if_pos (by simpa using c)];simp only[a1C,i]
theorem a3I{name:ByteArray}:ofB name (a0Q e)=a0y e.a0k name:=by
 simp[ofB,a0Q]
theorem a8R{name:ByteArray}{e:Ent}(hn:a0y e.a0k name=true)(hk:e.kind=3):∀ {es:List Ent},Ids es->e∈es->a1z (a1C name es) e.a0e e.a0c=a1C name (a0C e.id es)
 |[],_,h=>by simp at h
 |z :: r,hi,h=>by
  obtain⟨h1,h2⟩:=hi.cons
  funext p
  by_cases c:z.id=e.id
  ·have ez:e=z:=hi.one h (by simp) c.symm;subst ez
   have:a0C e.id (e :: r)=a0Q e :: r:=by
    have k:=a4A (id:=e.id) (es:=r) (fun y hy=>by have:=h1 y hy;omega);unfold a0C at k ⊢;rw[List.map_cons,if_pos rfl,k]
   rw[this];have o1:ofB name e=false:=by simp[ofB,hk]
   simp only[a1z,a1C,o1,a3I,hn,if_true,Bool.false_eq_true,if_false];show 0+a1C name r p+e.a0c*cnt e.a0e p=e.a0c*cnt e.a0e p+a1C name r p;omega
  ·have he:e∈r:=by
    rcases List.mem_cons.1 h with rfl|h
    ·exact absurd rfl c
    ·exact h
   have i:=congrFun (a8R hn hk h2 he) p
   have:a0C e.id (z :: r)=z :: a0C e.id r:=by
    unfold a0C;rw[List.map_cons,if_neg c]
   rw[this];simp only[a1z,a1C] at i ⊢;omega
theorem a3Q{name:ByteArray}{id:Int}:∀ {es:List Ent},(∀ e∈es,e.id=id->a0y e.a0k name=true->e.kind≠3)->a1C name (a0C id es)=a1C name es
 |[],_=>rfl
 |z :: r,h=>by
  have i:=a3Q (name:=name) (id:=id) (es:=r) (fun y hy=>h y (by simp[hy]))
  funext p
  have i:=congrFun i p;unfold a0C at i ⊢;rw[List.map_cons];simp only[a1C,i]
  by_cases c:z.id=id
  ·rw[if_pos c,a3I]
   have e:ofB name z=a0y z.a0k name:=by
    unfold ofB
    cases hs:a0y z.a0k name
    ·rfl
    ·have:=h z (by simp) c hs;simp[this]
   rw[e];rfl
  ·rw[if_neg c]
theorem a4r:e∈kept id es↔e∈es/\e.id≠id:=by simp[kept]
theorem a2b:e∈a0C id es↔(e∈es/\e.id≠id)\/∃ z∈es,z.id=id/\e=a0Q z:=by
 unfold a0C;rw[List.mem_map];constructor
 ·rintro ⟨z,hz,h⟩
  by_cases c:z.id=id
  ·rw[if_pos c] at h;exact .inr ⟨z,hz,c,h.symm⟩
  ·rw[if_neg c] at h;subst h;exact .inl ⟨hz,c⟩
 ·rintro (⟨h1,h2⟩|⟨z,hz,h1,h2⟩)
  ·exact⟨e,h1,if_neg h2⟩
  ·exact⟨z,hz,by rw[if_pos h1,h2]⟩
end Desk
namespace Desk
def a8l(a b:Int)(s:Int × Int):Bool:=decide (s.1<b) && decide (a<s.2)
def a2E(a b:Int):List (Int × Int)->Int
 |[]=>-1
 |s :: r=>if a8l a b s then s.1 else a2E a b r
end Desk
theorem b6Q:(Tryz.prog.info? 60).map (fun i=>(i.zero,i.size,i.bytes))=some (some (.agg #[.int .i64 0,.int .i64 0]),2,16):=by kernel_rfl
namespace Desk
def b7U(name:ByteArray)(a b:Int)(e:Ent):Bool:=ofB name e && decide (0<=a2E a b e.a0e)
end Desk
namespace Rank
end Rank
namespace Rank
end Rank
namespace Desk
def ltE(a b:Int)(x y:Ent):Prop:=a2E a b x.a0e<a2E a b y.a0e\/(a2E a b x.a0e=a2E a b y.a0e/\x.id<y.id)
theorem b8e(a b:Int)(x:Ent):¬ ltE a b x x:=by unfold ltE;omega
theorem b3b(a b:Int)(x y z:Ent)(h:ltE a b x y)(k:ltE a b y z):ltE a b x z:=by unfold ltE at *;omega
def a2c(L:List (Int × Int)):Prop:=L.Pairwise fun s t=>s.1<t.1
theorem a9y{a b:Int}:∀ {L:List (Int × Int)},a2c L->(∃ s∈L,a8l a b s=true)->(∃ s∈L,a8l a b s=true/\s.1=a2E a b L)/\∀ t∈L,a8l a b t=true->a2E a b L<=t.1
 |[],_,h=>by obtain⟨s,hs,_⟩:=h;simp at hs
 |s :: r,hr,h=>by
  unfold a2c at hr;rw[List.pairwise_cons] at hr;simp only[a2E]
  by_cases c:a8l a b s=true
  ·rw[if_pos c];refine⟨⟨s,by simp,c,rfl⟩,fun t ht _=>?_⟩;rcases List.mem_cons.1 ht with rfl|ht
   ·omega
   ·have:=hr.1 t ht;omega
  ·rw[if_neg c]
   have h':∃ s∈r,a8l a b s=true:=by
    obtain⟨t,ht,k⟩:=h;rcases List.mem_cons.1 ht with rfl|ht
    ·exact absurd k c
    ·exact⟨t,ht,k⟩
   obtain⟨⟨t,k1,k2,k3⟩,k4⟩:=a9y (a:=a) (b:=b) (L:=r) hr.2 h';refine⟨⟨t,by simp[k1],k2,k3⟩,fun u hu hm=>?_⟩;rcases List.mem_cons.1 hu with rfl|hu
   ·exact absurd hm c
   ·exact k4 u hu hm
theorem a9x{a b:Int}:∀ {L:List (Int × Int)},(∀ s∈L,a8l a b s=false)->a2E a b L=-1
 |[],_=>rfl
 |s :: r,h=>by
  simp only[a2E];rw[if_neg (by rw[h s (by simp)];simp)];exact a9x (fun t ht=>h t (by simp[ht]))
theorem a7J(hr:a2c L)(h0:∀ s∈L,0<=s.1):0<=a2E a b L↔∃ s∈L,a8l a b s=true:=by
 constructor
 ·intro h;apply Classical.byContradiction;intro c
  have:a2E a b L=-1:=a9x (fun s hs=>by
   cases hb:a8l a b s
   ·rfl
   ·exact absurd ⟨s,hs,hb⟩ c)
  omega
 ·intro h;obtain⟨⟨s,k1,_,k3⟩,_⟩:=a9y hr h;have:=h0 s k1;omega
def a5s(acc:List Avl.It)(z:Avl.It):List Avl.It:=if acc.any fun u=>decide (u.n=z.n) then acc else acc++[z]
def uniq(M:List Avl.It):List Avl.It:=M.foldl a5s []
theorem a6u(M:List Avl.It)(z:Avl.It):uniq (M++[z])=a5s (uniq M) z:=by unfold uniq;rw[List.foldl_append];rfl
theorem c4t:∀ (n:Nat)(M:List Avl.It),M.length=n->Avl.Ord M->Avl.Ord (uniq M)/\(∀ u∈uniq M,u∈M)/\(∀ z∈M,∃ u∈uniq M,u.n=z.n/\(u=z\/Avl.lt u z))/\((uniq M).map (·.n)).Nodup:=by
 intro n
 induction n with
 |zero =>
  intro M hM _;rw[List.length_eq_zero_iff.1 hM];exact⟨List.Pairwise.nil,by simp[uniq],by simp,by simp[uniq]⟩
 |succ n ih =>
  intro M hM hO;obtain⟨K,z,rfl⟩:∃ K z,M=K++[z]:=⟨M.dropLast,M.getLast (by intro e;simp[e] at hM),(List.dropLast_concat_getLast _).symm⟩;unfold Avl.Ord at hO;rw[List.pairwise_append] at hO;obtain⟨i1,i2,i3,i4⟩:=ih K (by simpa using hM) hO.1;rw[a6u];unfold a5s
  by_cases c:((uniq K).any fun u=>decide (u.n=z.n))=true
  ·rw[if_pos c];obtain⟨u,hu,hc⟩:=List.any_eq_true.1 c;refine⟨i1,fun u hu=>by simp[i2 u hu],fun y hy=>?_,i4⟩;rcases List.mem_append.1 hy with hy|hy
   ·exact i3 y hy
   ·have:y=z:=by simpa using hy
    subst this;exact⟨u,hu,by simpa using hc,.inr (hO.2.2 u (i2 u hu) y (by simp))⟩
  ·rw[if_neg c];have hno:∀ u∈uniq K,u.n≠z.n:=fun u hu e=>c (List.any_eq_true.2 ⟨u,hu,by simp[e]⟩)
   refine⟨?_,fun u hu=>?_,fun y hy=>?_,?_⟩
   ·unfold Avl.Ord;rw[List.pairwise_append]
    exact⟨i1,by simp,fun u hu y hy=>by
     have:y=z:=by simpa using hy
     subst this
     exact hO.2.2 u (i2 u hu) y (by simp)⟩
   ·rcases List.mem_append.1 hu with hu|hu
    ·simp[i2 u hu]
    ·simp at hu;simp[hu]
   ·rcases List.mem_append.1 hy with hy|hy
    ·obtain⟨u,hu,k⟩:=i3 y hy;exact⟨u,by simp[hu],k⟩
    ·have:y=z:=by simpa using hy
     subst this;exact⟨y,by simp,rfl,.inl rfl⟩
   ·rw[List.map_append,List.nodup_append];refine⟨i4,by simp,fun x hx y hy e=>?_⟩;obtain⟨u,hu,rfl⟩:=List.mem_map.1 hx;simp at hy;exact hno u hu (by rw[e,hy])
def a2e(name:ByteArray)(es:List Ent)(at_:Int->Nat)(T:Avl.S):Prop :=
 Avl.Ord (Avl.a0w T)/\∀ z,z∈Avl.a0w T↔∃ e∈es,ofB name e=true/\∃ s∈e.a0e,z=⟨s.1,s.2,e.id,at_ e.id⟩
theorem c4u{name:ByteArray}{at_:Int->Nat}{T:Avl.S}(h:a2e name es at_ T)(hid:Ids es)(hr:∀ e∈es,a2c e.a0e)(h0:∀ e∈es,∀ s∈e.a0e,0<=s.1){ys:List Ent}(hl:ys.length=(uniq (Avl.meet a b T)).length)(hy:∀ (i:Nat)(hi:i<ys.length),ys[i]∈es/\ys[i].id=((uniq (Avl.meet a b T))[i]'(by omega)).n):
  ys.Pairwise (ltE a b)/\∀ e,e∈ys↔e∈es.filter (b7U name a b):=by
 have hM:=Avl.b1J a b T h.1;have hO:Avl.Ord (Avl.meet a b T):=by rw[hM];exact Avl.b0C _ h.1
 obtain⟨u1,u2,u3,u4⟩:=c4t _ (Avl.meet a b T) rfl hO
 have inM:∀ z,z∈Avl.meet a b T↔∃ e∈es,ofB name e=true/\∃ s∈e.a0e,a8l a b s=true/\z=⟨s.1,s.2,e.id,at_ e.id⟩:=by
  intro z;rw[hM,List.mem_filter,h.2];constructor
  ·rintro ⟨⟨e,k1,k2,s,k3,rfl⟩,k4⟩;exact⟨e,k1,k2,s,k3,k4,rfl⟩
  ·rintro ⟨e,k1,k2,s,k3,k4,rfl⟩;exact⟨⟨e,k1,k2,s,k3,rfl⟩,k4⟩
 -- each item that is kept stands at its entry's first
 have fst:∀ u∈uniq (Avl.meet a b T),∀ e∈es,e.id=u.n->ofB name e=true/\u.f=a2E a b e.a0e/\∃ s∈e.a0e,a8l a b s=true:=by
  intro u hu e he hn;obtain⟨e',k1,k2,s,k3,k4,rfl⟩:=(inM u).1 (u2 u hu);have:e=e':=hid.one he k1 hn;subst this;refine⟨k2,?_,s,k3,k4⟩;obtain⟨⟨t,t1,t2,t3⟩,t4⟩:=a9y (hr e he) ⟨s,k3,k4⟩;have hle:=t4 s k3 k4;obtain⟨u',hu',m1,m2⟩:=u3 ⟨t.1,t.2,e.id,at_ e.id⟩ ((inM _).2 ⟨e,he,k2,t,t1,t2,rfl⟩)
  have same:u'=⟨s.1,s.2,e.id,at_ e.id⟩:=by
   have hnd:=u4;unfold List.Nodup at hnd;rw[List.pairwise_map] at hnd;apply Classical.byContradiction;intro hne;obtain⟨i,hi,ei⟩:=List.getElem_of_mem hu';obtain⟨j,hj,ej⟩:=List.getElem_of_mem hu;have hij:i≠j:=fun e=>by subst e;exact hne (ei.symm.trans ej)
   rcases Nat.lt_or_gt_of_ne hij with c|c
   ·have:=List.pairwise_iff_getElem.1 hnd i j hi hj c;rw[ei,ej] at this;exact this m1
   ·have:=List.pairwise_iff_getElem.1 hnd j i hj hi c;rw[ei,ej] at this;exact this m1.symm
  subst same;show s.1=_;rcases m2 with m2|m2
  ·have:=congrArg Avl.It.f m2;simp at this;omega
  ·unfold Avl.lt at m2;simp at m2;omega
 have sel:∀ u∈uniq (Avl.meet a b T),∀ e∈es,e.id=u.n->e∈es.filter (b7U name a b):=by
  intro u hu e he hn;obtain⟨k1,_,k3⟩:=fst u hu e he hn;exact List.mem_filter.2 ⟨he,by simp[b7U,k1,(a7J (hr e he) (h0 e he)).2 k3]⟩
 refine⟨?_,fun e=>⟨fun he=>?_,fun he=>?_⟩⟩
 ·rw[List.pairwise_iff_getElem];intro i j hi hj hij;have o:=List.pairwise_iff_getElem.1 u1 i j (by omega) (by omega) hij;obtain⟨a1,a2⟩:=hy i hi;obtain⟨b1,b2⟩:=hy j hj;have f1:=(fst _ (zg (by omega)) _ a1 a2).2.1;have f2:=(fst _ (zg (by omega)) _ b1 b2).2.1;unfold Avl.lt at o;unfold ltE;rw[<- f1,<- f2,a2,b2];exact o
 ·obtain⟨i,hi,rfl⟩:=List.getElem_of_mem he;obtain⟨a1,a2⟩:=hy i hi;exact sel _ (zg (by omega)) _ a1 a2
 ·obtain⟨he1,he2⟩:=List.mem_filter.1 he;simp only[b7U,Bool.and_eq_true,decide_eq_true_eq] at he2;obtain⟨s,s1,s2⟩:=(a7J (hr e he1) (h0 e he1)).1 he2.2;obtain⟨u,hu,m1,_⟩:=u3 _ ((inM _).2 ⟨e,he1,he2.1,s,s1,s2,rfl⟩);obtain⟨i,hi,ei⟩:=List.getElem_of_mem hu;obtain⟨a1,a2⟩:=hy i (by omega);have:ys[i]'(by omega)=e:=hid.one a1 he1 (by rw[a2,ei];exact m1);rw[<- this];exact zg _
theorem a5J(p:Ent->Bool)(h:Ids es):Ids (es.filter p):=by
 unfold Ids at *;exact List.Pairwise.sublist (List.Sublist.map _ List.filter_sublist) h
end Desk
end Go.Proofs.YtfigmlfdnickmaaGreatDoor
