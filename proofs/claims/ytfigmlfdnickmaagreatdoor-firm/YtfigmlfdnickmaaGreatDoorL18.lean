/-
  Parts of the proof, one behind the other.
-/
import Derived.Test.YtfigmlfdnickmaaGreatDoorL17
import Derived.Lib.ItoaNum
import Derived.Deep.RegionHeld3
set_option maxRecDepth 100000
set_option maxHeartbeats 8000000
variable{nm t x:ByteArray}{a ev' fr fr' n pc pc' ti ti' til u un un':Int}{L:List (Int × Int)}{ws:List ByteArray}{acc acc':List Int}{A B F R b d dk p:Nat}{v y:Go.Value}{W W' w w' w0:Go.World}
namespace Go.Proofs.YtfigmlfdnickmaaGreatDoor
open Go.RowKit
open Desk (Ent St Ids kept a0C a0Q a1C a2e ofB a0y a2c Mid a1H a0z Inv)
theorem c6m(h:isB ws 0 false x=true)(y:ByteArray):isB ws 0 false y=(x.toList==y.toList):=by
 unfold isB at h ⊢;rw[Bool.and_eq_true] at h;have e:=eq_of_beq h.2;rw[h.1,e,Bool.true_and]
def c2h:Value->Nat
 |.iface t _=>t
 |_=>0
def tyL:List (ByteArray × Nat):=[(a3F,149),(a9P,154),(b5f,156),(b4k,157),(a7l,165),(a4z,167),(a6m,168),(a5Q,170),(a5q,173),(a9a,176),(b5h,178),(a7M,180),(b4n,182),(b1c,183)]
def tyF(f:ByteArray->Bool):Nat:=((tyL.find? fun p=>f p.1).map (·.2)).getD 0
theorem a3p(h:isB ws 0 false x=true):tyF (isB ws 0 false)=tyF (fun y=>x.toList==y.toList):=by
 rw[show isB ws 0 false=fun y=>x.toList==y.toList from funext (c6m h)]
theorem a2H.tag{s:Nat × Bool}(h:a2H ws v s):c2h v=tyF (isB ws 0 false):=by
 cases h with
 |none h0 h1 h2 h3 h4 h5 h6 h7 h8 h9 h10 h11 h12 h13=>simp[c2h,tyF,tyL,h0,h1,h2,h3,h4,h5,h6,h7,h8,h9,h10,h11,h12,h13]
 |a0k h=>rw[a3p h];exact (by decide +kernel:149=tyF (fun y=>a3F.toList==y.toList))
 |book h=>rw[a3p h];exact (by decide +kernel:154=tyF (fun y=>a9P.toList==y.toList))
 |hold h=>rw[a3p h];exact (by decide +kernel:156=tyF (fun y=>b5f.toList==y.toList))
 |wait h=>rw[a3p h];exact (by decide +kernel:157=tyF (fun y=>b4k.toList==y.toList))
 |series h=>rw[a3p h];exact (by decide +kernel:165=tyF (fun y=>a7l.toList==y.toList))
 |confirm h=>rw[a3p h];exact (by decide +kernel:167=tyF (fun y=>a4z.toList==y.toList))
 |cancel h=>rw[a3p h];exact (by decide +kernel:168=tyF (fun y=>a6m.toList==y.toList))
 |list0 h=>rw[a3p h];exact (by decide +kernel:170=tyF (fun y=>a5Q.toList==y.toList))
 |list1 h=>rw[a3p h];exact (by decide +kernel:170=tyF (fun y=>a5Q.toList==y.toList))
 |waiting h=>rw[a3p h];exact (by decide +kernel:173=tyF (fun y=>a5q.toList==y.toList))
 |peak h=>rw[a3p h];exact (by decide +kernel:176=tyF (fun y=>a9a.toList==y.toList))
 |find h=>rw[a3p h];exact (by decide +kernel:178=tyF (fun y=>b5h.toList==y.toList))
 |expand h=>rw[a3p h];exact (by decide +kernel:180=tyF (fun y=>a7M.toList==y.toList))
 |tick h=>rw[a3p h];exact (by decide +kernel:182=tyF (fun y=>b4n.toList==y.toList))
 |clock h=>rw[a3p h];exact (by decide +kernel:183=tyF (fun y=>b1c.toList==y.toList))
theorem c5u{st:Nat × Bool}{s s':Nat × Bool}(h:c3M ws st ti un s)(h':c3M ws st ti' un' s'):s=s'/\ti=ti'/\un=un':=by
 cases h <;> cases h' <;> first|exact⟨rfl,rfl,rfl⟩|(simp_all;done)
theorem c2F{st:Nat × Bool}{ev:Int}{s s':Nat × Bool}(h:b0n ws st pc ev acc s)(h':b0n ws st pc' ev' acc' s'):s=s'/\pc=pc'/\ev=ev'/\(s.2=false->acc=acc'):=by
 cases h with
 |daily h=>cases h' <;> first|exact⟨rfl,rfl,rfl,fun _=>rfl⟩|(simp_all;done)
 |monthly h1 h2 h=>cases h' <;> first|exact⟨rfl,rfl,rfl,fun _=>rfl⟩|(simp_all;done)
 |none h1 h2 h=>cases h' <;> first|exact⟨rfl,rfl,rfl,fun _=>rfl⟩|(simp_all;done)
 |weekly h1 h acc ha =>
  cases h' with
  |daily g=>rw[g] at h1;cases h1
  |weekly g1 g acc' ga =>
   refine⟨rfl,rfl,rfl,fun h2=>?_⟩
   have t:tkB ws (a0M ws [evB] (nxt st)).1 (a0M ws [evB] (nxt st)).2 Txt.onB=true:=a8u (B:=Txt.onB) (st:=a0M ws [evB] (nxt st)) h2;exact Option.some.inj ((ha t).symm.trans (ga t))
  |monthly g1 g2 g=>rw[h] at g2;cases g2
  |none g1 g2 g=>rw[h] at g2;cases g2
theorem b6f{st:Nat × Bool}{ev:Int}{mn mi:Int}{s:Nat × Bool}{mn' mi':Int}{s':Nat × Bool}(h:b0m ws st pc ev acc fr mn mi ti un s)(h':b0m ws st pc' ev' acc' fr' mn' mi' ti' un' s'):
  s=s'/\pc=pc'/\ev=ev'/\(s.2=false->acc=acc')/\fr=fr'/\mn=mn'/\mi=mi'/\ti=ti'/\un=un':=by
 obtain⟨s0,hp,he,rfl,rfl,rfl⟩:=a7m h;obtain⟨s0',hp',he',rfl,rfl,rfl⟩:=a7m h';obtain⟨rfl,rfl,rfl,ha⟩:=c2F hp hp';obtain⟨rfl,rfl,rfl⟩:=c5u he he';refine⟨rfl,rfl,rfl,fun h2=>ha ?_,rfl,rfl,rfl,rfl,rfl⟩
 have hm:=(b7b he h2).1;have m6:(stp ws miB (stp ws (a1s b3z) (stp ws Txt.a3a (stp ws (a1s atW) (stp ws Txt.a2y (stp ws (a1s a1t) s0)))))).2=false:=hm;exact a0H (a0H (a0H (a0H (a0H (a0H m6)))))
theorem a8x{v':Value}{s s':Nat × Bool}(h1:a2H ws v s)(h2:a2H ws v' s'):s=s'/\(s.2=false->v=v'):=by
 have e:c2h v=c2h v':=h1.tag.trans h2.tag.symm
 cases h1 with
 |series h pc ev acc fr mn mi ti un s hr =>
  cases h2 with
  |series h' pc' ev' acc' fr' mn' mi' ti' un' s' hr' =>
   obtain⟨rfl,rfl,rfl,ha,rfl,rfl,rfl,rfl,rfl⟩:=b6f hr hr';exact⟨rfl,fun h2=>by rw[ha h2]⟩
  |_=>exact absurd e (by simp[c2h])
 |expand h pc ev acc fr mn mi ti un s hr =>
  cases h2 with
  |expand h' pc' ev' acc' fr' mn' mi' ti' un' s' hr' =>
   obtain⟨rfl,rfl,rfl,ha,rfl,rfl,rfl,rfl,rfl⟩:=b6f hr hr';exact⟨rfl,fun h2=>by rw[ha h2]⟩
  |_=>exact absurd e (by simp[c2h])
 |list0 h hm =>
  cases h2 with
  |list0 h' hm'=>exact⟨rfl,fun _=>rfl⟩
  |list1 h' hm'=>rw[hm] at hm';cases hm'
  |_=>exact absurd e (by simp[c2h])
 |list1 h hm =>
  cases h2 with
  |list0 h' hm'=>rw[hm] at hm';cases hm'
  |list1 h' hm'=>exact⟨rfl,fun _=>rfl⟩
  |_=>exact absurd e (by simp[c2h])
 |_=>cases h2 <;> first|exact⟨rfl,fun _=>rfl⟩|exact absurd e (by simp[c2h])
theorem a8v{e e':Ending}(h:a7T t e)(h':a7T t e'):e=e':=by
 cases h with
 |long h =>
  cases h' with
  |long h'=>rfl
  |bad h'=>omega
  |e6J h'=>omega
 |bad h v st hl hb =>
  cases h' with
  |long h'=>omega
  |bad h' v' st' hl' hb'=>obtain⟨rfl,_⟩:=a8x hl hl';rfl
  |e6J h' v' st' hl' h2 hb' =>
   obtain⟨rfl,_⟩:=a8x hl hl';rcases hb with hb|hb
   ·rw[h2] at hb;cases hb
   ·rw[hb'] at hb;cases hb
 |e6J h v st hl h2 hb =>
  cases h' with
  |long h'=>omega
  |bad h' v' st' hl' hb' =>
   obtain⟨rfl,_⟩:=a8x hl hl';rcases hb' with hb' |hb'
   ·rw[h2] at hb';cases hb'
   ·rw[hb] at hb';cases hb'
  |e6J h' v' st' hl' h2' hb'=>obtain⟨rfl,hv⟩:=a8x hl hl';rw[hv h2]
def c4m(t:ByteArray):(Int × Int) ⊕ Desk.a7U->Prop
 |.inl (er,at_)=>er≠0/\(er=1/\at_=0\/er=2/\0<=at_)/\∀ e,a7T t e->e=.returned (.tuple #[.nilIface,.int .i64 er,.int .i64 at_])
 |.inr l=>∃ line,(∀ e,a7T t e->e=.returned (.tuple #[line,.int .i64 0,.int .i64 0]))/\LV line l/\Desk.a1O l
theorem b9l(t:ByteArray):∃ o,c4m t o:=by
 by_cases h:∃ e,a7T t e
 ·obtain⟨e,he⟩:=h
  cases he with
  |long h=>exact⟨.inl (1,0),by decide,.inl ⟨rfl,rfl⟩,fun e he=>a8v he (.long h)⟩
  |bad h v st hl hb=>exact⟨.inl (2,st.1),by decide,.inr ⟨rfl,by omega⟩,fun e he=>a8v he (.bad h v st hl hb)⟩
  |e6J h v st hl h2 hb =>
   obtain⟨l,h1,h3⟩:=c0v hl h2;exact⟨.inr l,v,fun e he=>a8v he (.e6J h v st hl h2 hb),h1,h3⟩
 ·exact⟨.inl (1,0),by decide,.inl ⟨rfl,rfl⟩,fun e he=>absurd ⟨e,he⟩ h⟩
noncomputable def b9K(t:ByteArray):(Int × Int) ⊕ Desk.a7U:=Classical.choose (b9l t)
theorem c2y(t:ByteArray):c4m t (b9K t):=Classical.choose_spec (b9l t)
noncomputable def stepT(s:St)(t:ByteArray):St × Desk.Rep :=
 match b9K t with
 |.inl (er,at_)=>(s,⟨er,at_,0,[],[],[],[]⟩)
 |.inr l=>Desk.a1q s l
theorem c5A{s:St}{r:Raw}{col:Nat->Option Col}(h:BD w p d s r col)(t:ByteArray):
  Calls Tryz.prog 21 #[.pointer (some ⟨p,0,none⟩),.string t] w fun e w'=>∃ v,e=.returned v/\b5M w p d col (stepT s t) v w':=by
 have hr:=c2y t;unfold stepT;generalize b9K t=o at hr ⊢
 cases o with
 |inl q =>
  obtain⟨er,at_⟩:=q;exact c5z h t er at_ hr.1 hr.2.2
 |inr l =>
  obtain⟨line,h1,h2,h3⟩:=hr;exact b7q h t h1 h2 h3
end Go.Proofs.YtfigmlfdnickmaaGreatDoor
namespace Go.Proofs.YtfigmlfdnickmaaGreatDoor.Txt
open Go
theorem b5p:∀ (k u:Nat),u<10 ^ (k+1)->(Lib.decDigits u).length<=k+1
 |0,u,h=>by rw[Lib.decDigits];simp at h;rw[dif_pos h];simp
 |k+1,u,h=>by
  rw[Lib.decDigits]
  split
  ·simp
  ·have:=b5p k (u / 10) (by rw[Nat.pow_succ] at h;omega)
   simp;omega
def a0x(n:Int):ByteArray:=⟨(Lib.itoa n).toArray⟩
theorem a0I(n:Int)(h0:0<=n)(h:n<=9999999):(a0x n).size<=7:=by
 rw[<- a1d];unfold a0x Lib.itoa;rw[if_neg (by omega)]
 have:=b5p 6 n.toNat (by omega)
 simpa using this
def pz:Nat->ByteArray->ByteArray
 |0,t=>t
 |k+1,t=>pz k (⟨#[48]⟩++t)
def b8V(n:Int)(size:Nat):ByteArray:=pz (size-(a0x n).size) (a0x n)
theorem c1f(u:Nat)(h:u<10):Lib.decDigits u=[UInt8.ofNat (48+u)]:=by
 rw[Lib.decDigits,dif_pos h]
theorem c5x(u:Nat)(h:¬ u<10):Lib.decDigits u=Lib.decDigits (u / 10)++[UInt8.ofNat (48+u % 10)]:=by
 rw[Lib.decDigits,dif_neg h]
end Go.Proofs.YtfigmlfdnickmaaGreatDoor.Txt
namespace Go.Proofs.YtfigmlfdnickmaaGreatDoor
open Go.RowKit
theorem b8w(w:World)(k:Nat)(os:Array Obj):Below w.heap.size w (Sort.grow (w.drewN k) os) :=
 ⟨rfl,rfl,rfl,by simp[Sort.grow],fun j hj=>by simp only[Sort.grow,World.heap_drewN];rw[Array.getElem?_append_left hj]⟩
theorem c2Y(n:Int)(w:World)(he:Env w)(h0:-9223372036854775808<=n)(h1:n<=9223372036854775807):
  Calls Tryz.prog 47 #[.int .i64 n] w fun e w'=>e=.returned (.string (Txt.a0x n))/\Below w.heap.size w w':=by
 refine (Tryz.strconv_Itoa n h0 h1 w he.pow).mono ?_;rintro e w' ⟨rfl,k,os,rfl⟩;exact⟨rfl,b8w w k os⟩
end Go.Proofs.YtfigmlfdnickmaaGreatDoor
namespace Go.Proofs.YtfigmlfdnickmaaGreatDoor.Txt
open Go
def b1m(x:List (List UInt8) × List UInt8)(c:UInt8):List (List UInt8) × List UInt8:=if c=32 then ((if x.2=[] then x.1 else x.1++[x.2]),[]) else (x.1,x.2++[c])
def c4p(l:List UInt8):List (List UInt8) × List UInt8:=l.foldl b1m ([],[])
def c1V(x:List (List UInt8) × List UInt8):List (List UInt8):=if x.2=[] then x.1 else x.1++[x.2]
def b2u(l:List UInt8):List (List UInt8):=c1V (c4p l)
theorem c1t{a b:ByteArray}(h:a.data.toList=b.data.toList):a=b:=by
 cases a;cases b
 simp only[ByteArray.mk.injEq];exact Array.toList_inj.1 h
theorem a1l(s:ByteArray):s.data.toList.length=s.size:=by rw[Array.length_toList];rfl
theorem c4i(s:ByteArray)(k:Nat)(h:k<s.size):a0V s k=32↔s.data.toList[k]'(by rw[a1l];exact h)=32:=by
 have hl:k<s.data.toList.length:=by rw[a1l];exact h
 have e:a0V s k=((s.data.toList[k]).toNat:Int):=by
  unfold a0V;rw[List.getD_eq_getElem?_getD,List.getElem?_eq_getElem hl];rfl
 rw[e];constructor
 ·intro e1;apply UInt8.toNat_inj.1;show (s.data.toList[k]).toNat=32;omega
 ·intro k;rw[k];rfl
theorem c2G(s:ByteArray)(k:Nat)(h:k<s.size):(s.extract k (k+1)).data.toList=[s.data.toList[k]'(by rw[a1l];exact h)]:=by
 have hl:k<s.data.toList.length:=by rw[a1l];exact h
 rw[ByteArray.data_extract,Array.toList_extract,List.extract_eq_take_drop];rw[Nat.add_sub_cancel_left,List.drop_eq_getElem_cons hl];simp
theorem a4V(b:ByteArray):b.size=0↔b.data.toList=[]:=by
 rw[<- a1l];exact List.length_eq_zero_iff
theorem c0L(s:ByteArray):∀ k:Nat,k<=s.size->(s.data.toList.take k).foldl b1m ([],[])=((b7w s k).map (·.data.toList),(a8z s k).data.toList)
 |0,_=>by
  have h1:=b5J s 0;have h2:=b7k s 0;have e1:b7w s 0=[]:=List.length_eq_zero_iff.1 (by omega)
  have e2:(a8z s 0).data.toList=[]:=(a4V _).1 (by omega)
  simp[e1,e2]
 |k+1,h=>by
  have ih:=c0L s k (by omega)
  have hl:k<s.data.toList.length:=by rw[a1l];omega
  rw[List.take_succ_eq_append_getElem hl,List.foldl_append,ih];simp only[List.foldl_cons,List.foldl_nil];unfold b1m
  by_cases c:a0V s k=32
  ·rw[if_pos ((c4i s k (by omega)).1 c)]
   obtain⟨h1,h2⟩:=b3O s k (by omega) c
   rw[h1,h2];refine Prod.ext ?_ rfl;show (if (a8z s k).data.toList=[] then _ else _)=_
   by_cases d:(a8z s k).size=0
   ·rw[if_pos ((a4V _).1 d),if_pos d,List.append_nil]
   ·rw[if_neg (fun e=>d ((a4V _).2 e)),if_neg d,List.map_append]
    rfl
  ·rw[if_neg (fun e=>c ((c4i s k (by omega)).2 e))]
   obtain⟨h1,h2⟩:=b7l s k c;rw[h2,<- h1,a1X,c2G s k (by omega)]
theorem b7B(s:ByteArray):(a1v s).map (·.data.toList)=b2u s.data.toList:=by
 have h:=c0L s s.size (Nat.le_refl _);rw[List.take_of_length_le (by rw[a1l];exact Nat.le_refl _)] at h
 unfold b2u c4p c1V;rw[h,b2t,List.map_append]
 by_cases d:(a8z s s.size).size=0
 ·rw[if_pos d,if_pos ((a4V _).1 d)];simp
 ·rw[if_neg d,if_neg (fun e=>d ((a4V _).2 e))];simp
theorem c1R{s:ByteArray}(h:b2u s.data.toList=ws.map (·.data.toList)):a1v s=ws:=by
 rw[<- b7B] at h;generalize a1v s=l at h
 induction l generalizing ws with
 |nil =>
  cases ws with
  |nil=>rfl
  |cons w ws=>simp at h
 |cons x l ih =>
  cases ws with
  |nil=>simp at h
  |cons w ws =>
   simp only[List.map_cons,List.cons.injEq] at h;rw[c1t h.1,ih h.2]
def a3V(w:List UInt8):Bool:=!w.isEmpty && w.all fun c=>decide (c≠32)
theorem a8C{w:List UInt8}:a3V w=true↔w≠[]/\∀ c∈w,c≠32:=by
 unfold a3V;rw[Bool.and_eq_true,List.all_eq_true];constructor
 ·rintro ⟨h1,h2⟩;exact⟨fun e=>by simp[e] at h1,fun c hc=>by simpa using h2 c hc⟩
 ·rintro ⟨h1,h2⟩;exact⟨by cases w <;> simp at h1 ⊢,fun c hc=>by simpa using h2 c hc⟩
theorem b3A{w:List UInt8}(h:∀ c∈w,c≠32):∀ x:List (List UInt8) × List UInt8,w.foldl b1m x=(x.1,x.2++w):=by
 induction w with
 |nil=>intro x;simp
 |cons c w ih =>
  intro x;rw[List.foldl_cons];have:b1m x c=(x.1,x.2++[c]):=by unfold b1m;rw[if_neg (h c (by simp))]
  rw[this,ih (fun d hd=>h d (by simp[hd]))]
  simp
theorem b7S(x:List (List UInt8) × List UInt8):b1m x 32=(c1V x,[]):=by
 unfold b1m c1V;rw[if_pos rfl]
def jb:List (List UInt8)->List UInt8
 |[]=>[]
 |w :: r=>w++(match r with| []=>[]|_ :: _=>32 :: jb r)
theorem a6Q(w v:List UInt8)(r:List (List UInt8)):jb (w :: v :: r)=w++32 :: jb (v :: r):=rfl
theorem b3k(w:List UInt8):jb [w]=w:=by simp[jb]
theorem c0K:∀ (ws:List (List UInt8))(acc:List (List UInt8)),(∀ w∈ws,a3V w=true)->c1V ((jb ws).foldl b1m (acc,[]))=acc++ws
 |[],acc,_=>by simp[jb,c1V]
 |[w],acc,h=>by
  obtain⟨h1,h2⟩:=a8C.1 (h w (by simp))
  rw[b3k,b3A h2];simp[c1V,h1]
 |w :: v :: r,acc,h=>by
  obtain⟨h1,h2⟩:=a8C.1 (h w (by simp))
  rw[a6Q,List.foldl_append,b3A h2,List.foldl_cons,b7S];have e:c1V (acc,[]++w)=acc++[w]:=by simp[c1V,h1]
  rw[e,c0K (v :: r) (acc++[w]) (fun z hz=>h z (by simp at hz ⊢;exact .inr hz))]
  simp
theorem c1S{ws:List (List UInt8)}(h:∀ w∈ws,a3V w=true):b2u (jb ws)=ws:=by
 unfold b2u c4p;rw[c0K ws [] h];simp
theorem a5p{s:ByteArray}(hs:s.data.toList=jb (ws.map (·.data.toList)))(h:∀ w∈ws,a3V w.data.toList=true):a1v s=ws:=by
 apply c1R;rw[hs];apply c1S;intro w hw;obtain⟨v,hv,rfl⟩:=List.mem_map.1 hw;exact h v hv
end Go.Proofs.YtfigmlfdnickmaaGreatDoor.Txt
namespace Go.Proofs.YtfigmlfdnickmaaGreatDoor.Txt
open Go
theorem c4f(u:Nat)(h:u<10):dig (UInt8.ofNat (48+u))=true/\((UInt8.ofNat (48+u)).toNat:Int)=48+u:=by
 have e:(UInt8.ofNat (48+u)).toNat=48+u:=by rw[UInt8.toNat_ofNat'];omega
 refine⟨?_,by rw[e];omega⟩
 unfold dig;rw[e];exact decide_eq_true (by omega)
theorem b7h(n:Nat):a6j (Lib.decDigits n)=true/\b4R (Lib.decDigits n)=n/\1<=(Lib.decDigits n).length:=by
 induction n using Nat.strongRecOn with
 |_ n ih =>
  by_cases c:n<10
  ·rw[c1f n c];obtain⟨h1,h2⟩:=c4f n c;refine⟨by unfold a6j;rw[List.all_cons,h1];rfl,?_,by simp⟩
   unfold b4R;simp only[List.foldl_cons,List.foldl_nil];omega
  ·rw[c5x n c];obtain⟨i1,i2,i3⟩:=ih (n / 10) (by omega)
   obtain⟨h1,h2⟩:=c4f (n % 10) (by omega)
   refine⟨?_,?_,by simp⟩
   ·unfold a6j at i1 ⊢;rw[List.all_append,i1,List.all_cons,h1];rfl
   ·rw[b2Y,i2,h2];omega
theorem a9j(n:Int)(h:0<=n):(a0x n).data.toList=Lib.decDigits n.toNat:=by
 unfold a0x Lib.itoa;rw[if_neg (by omega)]
theorem b6O(h0:0<=n)(h1:n<=9999999):isNum (a0x n).data.toList=true/\a2f (a0x n).data.toList=n:=by
 obtain⟨d1,d2,d3⟩:=b7h n.toNat;have hl:=b5p 6 n.toNat (by omega)
 have e:isNum (a0x n).data.toList=true:=by
  rw[a9j n h0];unfold isNum;rw[d1,decide_eq_true (by omega)];rfl
 refine⟨e,?_⟩;unfold a2f;rw[if_pos e,a9j n h0,d2];omega
theorem c1c{l:List UInt8}(h:a6j l=true)(hl:1<=l.length):a3V l=true:=by
 rw[a8C];refine⟨fun e=>by rw[e] at hl;simp at hl,fun c hc e=>?_⟩
 have:=List.all_eq_true.1 h c hc;rw[e] at this;exact absurd this (by decide)
theorem b3l(h:0<=n):a3V (a0x n).data.toList=true:=by
 obtain⟨d1,_,d3⟩:=b7h n.toNat;rw[a9j n h];exact c1c d1 d3
end Go.Proofs.YtfigmlfdnickmaaGreatDoor.Txt
namespace Go.Proofs.YtfigmlfdnickmaaGreatDoor
open Go.RowKit
theorem a0G{x:Int}(h1:-9223372036854775808<=x)(h2:x<=9223372036854775807):IntKind.i64.wrap x=x:=by
 rw[IntKind.wrap_i64];omega
def a2s(c n:Int):Int:=(if c<0 then -(c+1) else c) % n
theorem a6G{c:Int}(hn:1<=n):0<=a2s c n/\a2s c n<n:=⟨Int.emod_nonneg _ (by omega),Int.emod_lt_of_pos _ (by omega)⟩
theorem b9M(c n:Int)(w:World)(h1:-9223372036854775808<=c)(h2:c<=9223372036854775807)(hn:1<=n)(hn2:n<=1000000):
  Calls Tryz.prog 38 #[.int .i64 c,.int .i64 n] w fun e w'=>e=.returned (.int .i64 (a2s c n))/\w'=w:=by
 have hz:(n==0)=false:=by simp;omega
 have hb:=a6G (c:=c) hn
 by_cases h:c<0
 ·have k1:IntKind.i64.wrap (c+1)=c+1:=a0G (by omega) (by omega)
  have k2:IntKind.i64.wrap (-(c+1))=-(c+1):=a0G (by omega) (by omega)
  have e:(-(c+1)).tmod n=a2s c n:=by unfold a2s;rw[if_pos h];exact Int.tmod_eq_emod_of_nonneg (by omega)
  have k3:IntKind.i64.wrap (a2s c n)=a2s c n:=a0i (by omega) (by omega)
  generalize a2s c n=v at *
  go_enter Tryz.func38,Tryz.ntmps38
  go_wp2_with fail
  go_ret
  simp_all
 ·have e:c.tmod n=a2s c n:=by unfold a2s;rw[if_neg h];exact Int.tmod_eq_emod_of_nonneg (by omega)
  have k3:IntKind.i64.wrap (a2s c n)=a2s c n:=a0i (by omega) (by omega)
  generalize a2s c n=v at *
  go_enter Tryz.func38,Tryz.ntmps38
  go_wp2_with fail
  go_ret
  simp_all
theorem a6O(n:Int)(w:World)(he:Env w)(h0:-9223372036854775808<=n)(h1:n<=9223372036854775807):
  Calls Tryz.prog 22 #[.int .i64 n] w fun e w'=>e=.returned (.string (Txt.a0x n))/\Below w.heap.size w w':=by
 have IT:=a0b (c2Y n w he h0 h1);clear he
 go_enter Tryz.func22,Tryz.ntmps22
 go_wp2_with (first
  |(go_at_call 47;refine IT.out.mono ?_;rintro e w1 ⟨rfl,hb⟩))
 go_ret;exact⟨rfl,hb⟩
def f5c(n:Int):ByteArray:=if n<10 then (⟨#[48]⟩:ByteArray)++Txt.a0x n else Txt.a0x n
theorem f6t(n:Int)(w:World)(he:Env w)(h0:0<=n)(h1:n<=1000):
  Calls Tryz.prog 30 #[.int .i64 n] w fun e w'=>e=.returned (.string (f5c n))/\Below w.heap.size w w':=by
 have IT:=a0b (a6O n w he (by omega) (by omega))
 have hz:=Txt.a0I n h0 (by omega)
 clear he
 by_cases h:n<10
 ·have e:f5c n=(⟨#[48]⟩:ByteArray)++Txt.a0x n:=by unfold f5c;rw[if_pos h]
  rw[e];generalize Txt.a0x n=t at *
  go_enter Tryz.func30,Tryz.ntmps30
  go_wp2_with (first
   |(go_at_call 22;refine IT.out.mono ?_;rintro e w1 ⟨rfl,hb⟩))
  go_ret;exact⟨rfl,hb⟩
 ·have e:f5c n=Txt.a0x n:=by unfold f5c;rw[if_neg h]
  rw[e];generalize Txt.a0x n=t at *
  go_enter Tryz.func30,Tryz.ntmps30
  go_wp2_with (first
   |(go_at_call 22;refine IT.out.mono ?_;rintro e w1 ⟨rfl,hb⟩))
  go_ret;exact⟨rfl,hb⟩
theorem f1K(l m:List Int)(u v:Value)(B C:Nat)(w:World)(hu:w.ownsRow B 3 1 u l.length (l.map (Value.int .i64)))(hv:w.ownsRow C 3 1 v m.length (m.map (Value.int .i64)))(hl:l.length<=1000000):
  Calls Tryz.prog 34 #[u,v] w fun e w'=>e=.returned (.bool (decide (l=m)))/\Below w.heap.size w w':=by
 obtain⟨a,ca,rfl⟩:=b1C hu;obtain⟨b,cb,rfl⟩:=b1C hv;have HU:=a0b hu;have HV:=a0b hv;clear hu hv
 by_cases hlen:l.length=m.length
 ·have hb:((l.length:Int) != (m.length:Int))=false:=by simp[hlen]
  go_enter Tryz.func34,Tryz.ntmps34
  go_wp2_with fail
  go_loopw [5] (fun v wr=>∃ k:Nat,k<=l.length/\v=.int .i64 k/\l.take k=m.take k/\Below w.heap.size w wr) (fun v _=>l.length-(intOf v).toNat)
  case atStart=>exact⟨0,Nat.zero_le _,rfl,rfl,Below.refl _ _⟩
  case round =>
   obtain⟨k,hk,rfl,hpre,hbl⟩:=hrel
   by_cases hlt:k<l.length
   ·have hlt':(k:Int)<(l.length:Int):=by omega
    have hmt':(k:Int)<(m.length:Int):=by omega
    have ru:=c6T HU.out hbl;have rv:=c6T HV.out hbl;obtain⟨Ha,ca',e1⟩:=Joins.ownsRow_form ru (by omega)
    simp only[Value.slice.injEq,true_and] at e1;obtain⟨rfl,rfl⟩:=e1;obtain⟨Hb,cb',e2⟩:=Joins.ownsRow_form rv (by omega)
    simp only[Value.slice.injEq,true_and] at e2;obtain⟨rfl,rfl⟩:=e2;have a0:=ru.cellAt k (by omega)
    have b0:=rv.cellAt k (by omega)
    rw[List.getElem?_map,List.getElem?_eq_getElem hlt,Option.map_some] at a0;rw[List.getElem?_map,List.getElem?_eq_getElem (show k<m.length by omega),Option.map_some] at b0
    have HP:=a0b hpre;have HB:=a0b hbl
    by_cases hx:l[k]=m[k]
    ·have hxb:(l[k] != m[k])=false:=by simp[hx]
     have HN:Hid (l.take (k+1)=m.take (k+1)):=by
      show l.take (k+1)=m.take (k+1);rw[List.take_succ_eq_append_getElem hlt,List.take_succ_eq_append_getElem (show k<m.length by omega),hpre,hx]
     generalize l[k]=x at *;generalize m[k]=y at *;clear ru rv hpre hbl hx
     go_upto_region 6 with fail
     go_region
     all_goals
      go_wp2_with fail
      go_roundw
      case rel=>exact⟨k+1,by omega,by go_num,HN.out,HB.out.drew⟩
      case measure=>simp[intOf];omega
    ·have hxb:(l[k] != m[k])=true:=by simp[hx]
     have HE:Hid (decide (l=m)=false):=by
      show decide (l=m)=false;simp only[decide_eq_false_iff_not];intro h;apply hx;simp only[h]
     generalize l[k]=x at *;generalize m[k]=y at *;clear ru rv hpre hbl hx
     go_upto_region 6 with fail
     go_region
     all_goals
      go_wp2_with fail
      go_ret;exact⟨by rw[HE.out];rfl,HB.out.drew⟩
   ·have hlt':¬ (k:Int)<(l.length:Int):=by omega
    have HE:Hid (decide (l=m)=true):=by
     show decide (l=m)=true;simp only[decide_eq_true_eq];have hk':k=l.length:=by omega
     rw[hk',List.take_length,hlen,List.take_length] at hpre;exact hpre
    have HB:=a0b hbl;clear hbl hpre
    go_wp2_with fail
    go_ret;exact⟨by rw[HE.out];rfl,HB.out⟩
 ·have hb:((l.length:Int) != (m.length:Int))=true:=by simp;omega
  have e:decide (l=m)=false:=by simp;intro h;exact hlen (by rw[h])
  rw[e]
  go_enter Tryz.func34,Tryz.ntmps34
  go_wp2_with fail
  go_ret;exact⟨rfl,Below.refl _ _⟩
structure c7h(w:World)(F:Nat)(s:ByteArray)(a:Nat):Prop where
 b:w.heap[F]?=some (.cells #[.string s,.int .i64 (a:Int)] 47 (0,0))
 le:a<=s.size
 sz:s.size<=9223372036854775807
structure FW(w0:World)(F:Nat)(s:ByteArray)(w:World):Prop where
 fd:∃ a,c7h w F s a
 env:Env w
 off:Off [F] w0 w
 ten:10<=F
theorem FW.lt{s:ByteArray}(h:FW w0 F s w):F<w.heap.size:=by
 obtain⟨a,h⟩:=h.fd;exact (Array.getElem?_eq_some_iff.1 h.b).1
theorem b9Z(k:Off [F] w w')(hF:10<=F)(hs:10<=w.heap.size):Below 10 w w' :=
 ⟨k.os,k.tape,k.output,k.size,fun b hb=>k.block b (by omega) (by simp;omega)⟩
theorem FW.later{s:ByteArray}(h:FW w0 F s w)(k:Below w.heap.size w w'):FW w0 F s w':=by
 obtain⟨a,fd⟩:=h.fd;exact⟨⟨a,(k.block F h.lt).trans fd.b,fd.le,fd.sz⟩,h.env.later k,h.off.trans (Off.of_below k),h.ten⟩
theorem FW.drew{s:ByteArray}(h:FW w0 F s w):FW w0 F s w.drew:=h.later (a0q w)
theorem FW.alloc{s:ByteArray}(h:FW w0 F s w)(o:Obj):FW w0 F s (w.alloc o):=h.later ((Below.refl w.heap.size w).alloc (Nat.le_refl _) o)
theorem FW.set{s:ByteArray}(h:FW w0 F s w)(hR:w0.heap.size<=R)(hF:R≠F)(h10:10<=R)(o:Nat)(v:Value):FW w0 F s (w.setCell ⟨R,o,none⟩ v):=by
 obtain⟨a,fd⟩:=h.fd;have k:=Off.set0 R w o v;exact⟨⟨a,(k.block F h.lt (by simp;exact fun e=>hF e.symm)).trans fd.b,fd.le,fd.sz⟩,h.env.ten (b9Z k h10 h.env.size),h.off.setCell (.inr hR) o v,h.ten⟩
theorem a2A{i:Nat}{cs:Array Value}{t:TypeId}{q:Nat × Nat}(h:W.heap[b]?=some (.cells cs t q))(v:Value):(W.setCell ⟨b,i,none⟩ v).heap[b]?=some (.cells (cs.setIfInBounds i v) t q):=by
 obtain⟨hlt,hk⟩:=Array.getElem?_eq_some_iff.1 h;show (W.heap.modify b _)[b]?=_;rw[Array.getElem?_eq_getElem (by rw[Array.size_modify];exact hlt),Array.getElem_modify_self,hk]
 rfl
theorem b0q{x:Value}{t:TypeId}(h:w.heap[F]?=some (.cells #[x,y] t (0,0))):w.cell? ⟨F,0,none⟩=some x/\w.cell? ⟨F,1,none⟩=some y/\∀ o,w.frozen? ⟨F,o,none⟩=false:=by
 refine⟨?_,?_,fun o=>frozen_of_row _ F o _ _ h⟩ <;> (simp only[World.cell?,h];rfl)
theorem b1X{x z u:Value}{t:TypeId}(h:w.heap[F]?=some (.cells #[x,y,z,u] t (0,0))):w.cell? ⟨F,0,none⟩=some x/\w.cell? ⟨F,1,none⟩=some y/\w.cell? ⟨F,2,none⟩=some z/\w.cell? ⟨F,3,none⟩=some u/\∀ o,w.frozen? ⟨F,o,none⟩=false:=by
 refine⟨?_,?_,?_,?_,fun o=>frozen_of_row _ F o _ _ h⟩ <;> (simp only[World.cell?,h];rfl)
theorem a1h{s:ByteArray}(h:FW w0 F s w)(n:Int)(h1:1<=n)(h2:n<=1000):
  Calls Tryz.prog 26 #[.pointer (some ⟨F,0,none⟩),.int .i64 n] w fun e w'=>∃ v,e=.returned (.int .i64 v)/\0<=v/\v<n/\FW w0 F s w':=by
 obtain⟨a,fd⟩:=h.fd;obtain⟨c0,c1,fz⟩:=b0q fd.b;have hle:=fd.le;have hsz:=fd.sz;have HF:=a0b h;have HD:=a0b fd;have hz:(n==0)=false:=by simp;omega
 clear h fd
 by_cases hlt:a<s.size
 ·have hlt':¬ (s.size:Int)<=(a:Int):=by omega
  have k1:IntKind.i64.wrap ((a:Int)+1)=((a+1:Nat):Int):=by rw[a0G (by omega) (by omega)];omega
  have hb:s[a].toNat<256:=s[a].toNat_lt;have k2:IntKind.i64.wrap (s[a].toNat:Int)=(s[a].toNat:Int):=a0G (by omega) (by omega)
  have k3:(s[a].toNat:Int).tmod n=(s[a].toNat:Int) % n:=Int.tmod_eq_emod_of_nonneg (by omega)
  have b1:0<=(s[a].toNat:Int) % n:=Int.emod_nonneg _ (by omega)
  have b2:(s[a].toNat:Int) % n<n:=Int.emod_lt_of_pos _ (by omega)
  have k4:IntKind.i64.wrap ((s[a].toNat:Int) % n)=(s[a].toNat:Int) % n:=a0G (by omega) (by omega)
  have HW:Hid (FW w0 F s (w.drew.drew.setCell ⟨F,1,none⟩ (.int .i64 ((a+1:Nat):Int)))):=by
   have k:=Off.set0 F w.drew.drew 1 (.int .i64 ((a+1:Nat):Int));have h2:=HF.out.drew.drew;exact⟨⟨a+1,a2A (W:=w.drew.drew) HD.out.b _,hlt,hsz⟩,h2.env.ten (b9Z k h2.ten h2.env.size),h2.off.setCell (.inl (by simp)) _ _,h2.ten⟩
  go_enter Tryz.func26,Tryz.ntmps26
  go_upto_region 1 with fail
  go_big_region
  go_upto_region 3 with fail
  go_big_region
  go_wp2_with fail
  go_ret;exact⟨_,rfl,b1,b2,HW.out⟩
 ·have hlt':(s.size:Int)<=(a:Int):=by omega
  go_enter Tryz.func26,Tryz.ntmps26
  go_upto_region 1 with fail
  go_big_region
  go_wp2_with fail
  go_ret;exact⟨0,rfl,by omega,by omega,HF.out.drew⟩
theorem a3L{s:ByteArray}(h:FW w0 F s w)(n:Int)(h0:-9223372036854775808<=n)(h1:n<=9223372036854775807):
  Calls Tryz.prog 22 #[.int .i64 n] w fun e w'=>e=.returned (.string (Txt.a0x n))/\FW w0 F s w' :=
 (a6O n w h.env h0 h1).mono fun _ _ k=>⟨k.1,h.later k.2⟩
def b1O(late:Bool):ByteArray:=if late then ⟨#[50,48,50,53,45,49,50,45]⟩ else ⟨#[50,48,50,52,45,48,49,45]⟩
def b8V(n:Int):ByteArray:=if (Txt.a0x n).size<2 then (⟨#[48]⟩:ByteArray)++Txt.a0x n else Txt.a0x n
theorem b2V(h0:0<=n)(h1:n<=9999999):(b8V n).size<=7:=by
 have:=Txt.a0I n h0 h1;unfold b8V
 split
 ·rw[ByteArray.size_append];show 1+_<=7;omega
 ·omega
theorem b3j{s:ByteArray}(h:FW w0 F s w)(n:Int)(late:Bool)(h0:0<=n)(h1:n<=1000):
  Calls Tryz.prog 68 #[.int .i64 n,.bool late] w fun e w'=>e=.returned (.string (b1O late++b8V (1+n)))/\FW w0 F s w':=by
 have NU:=a0b (a3L h (1+n) (by omega) (by omega))
 have hz:=Txt.a0I (1+n) (by omega) (by omega)
 have k1:IntKind.i64.wrap (1+n)=1+n:=a0G (by omega) (by omega)
 clear h
 by_cases hs:(Txt.a0x (1+n)).size<2
 ·have e:b8V (1+n)=(⟨#[48]⟩:ByteArray)++Txt.a0x (1+n):=by unfold b8V;rw[if_pos hs]
  have hs':((Txt.a0x (1+n)).size:Int)<2:=by omega
  rw[e];generalize Txt.a0x (1+n)=t at *
  cases late
  all_goals
   unfold b1O
   go_enter Tryz.func68,Tryz.ntmps68
   go_wp2_with (first
    |(go_at_call 22;refine NU.out.mono ?_;rintro e w1 ⟨rfl,hb⟩))
   go_ret;exact⟨rfl,hb⟩
 ·have e:b8V (1+n)=Txt.a0x (1+n):=by unfold b8V;rw[if_neg hs]
  have hs':¬ ((Txt.a0x (1+n)).size:Int)<2:=by omega
  rw[e];generalize Txt.a0x (1+n)=t at *
  cases late
  all_goals
   unfold b1O
   go_enter Tryz.func68,Tryz.ntmps68
   go_wp2_with (first
    |(go_at_call 22;refine NU.out.mono ?_;rintro e w1 ⟨rfl,hb⟩))
   go_ret;exact⟨rfl,hb⟩
def c5B(nm:ByteArray)(u fr til:Int):ByteArray:=(((((nm++(⟨#[32]⟩:ByteArray))++Txt.a0x u)++(⟨#[32]⟩:ByteArray))++Txt.a0x fr)++(⟨#[32]⟩:ByteArray))++Txt.a0x til
theorem b3U(hn:nm.size<=10)(hu:0<=u/\u<=9999999)(hf:0<=fr/\fr<=9999999)(ht:0<=til/\til<=9999999):(c5B nm u fr til).size<=40:=by
 have z1:=Txt.a0I u hu.1 hu.2;have z2:=Txt.a0I fr hf.1 hf.2;have z3:=Txt.a0I til ht.1 ht.2;unfold c5B;simp only[ByteArray.size_append];show nm.size+1+_+1+_+1+_<=40;omega
def a1P(nm:ByteArray)(u fr til:Int):Obj:=.cells #[.string nm,.int .i64 u,.int .i64 fr,.int .i64 til] 49 (0,0)
theorem b5S(w:World)(he:Env w)(nm:ByteArray)(u fr til:Int)(hn:nm.size<=10)(hu:0<=u/\u<=9999999)(hf:0<=fr/\fr<=9999999)(ht:0<=til/\til<=9999999):
  Calls Tryz.prog 28 #[.agg #[.string nm,.int .i64 u,.int .i64 fr,.int .i64 til]] w fun e w'=>e=.returned (.string (c5B nm u fr til))/\Below w.heap.size w w':=by
 have z1:=Txt.a0I u hu.1 hu.2;have z2:=Txt.a0I fr hf.1 hf.2;have z3:=Txt.a0I til ht.1 ht.2;have hX:Below w.heap.size w (w.alloc (a1P nm u fr til)).drew:=((Below.refl _ _).alloc (Nat.le_refl _) _).drew;have hq:(w.alloc (a1P nm u fr til)).drew.heap[w.heap.size]?=some (a1P nm u fr til):=a0p w _;have NU:Hid (∀ W n,Below w.heap.size w W->0<=n/\n<=9999999->Calls Tryz.prog 22 #[.int .i64 n] W fun e w'=>e=.returned (.string (Txt.a0x n))/\Below W.heap.size W w'):=fun W n hW hn=>a6O n W (he.later hW) (by omega) (by omega)
 have AC:Hid (∀ W,Below (w.alloc (a1P nm u fr til)).drew.heap.size (w.alloc (a1P nm u fr til)).drew W->W.cell? ⟨w.heap.size,0,none⟩=some (.string nm)/\W.cell? ⟨w.heap.size,1,none⟩=some (.int .i64 u)/\W.cell? ⟨w.heap.size,2,none⟩=some (.int .i64 fr)/\W.cell? ⟨w.heap.size,3,none⟩=some (.int .i64 til)):=fun W hW=>by
  have:=(hW.block w.heap.size (Array.getElem?_eq_some_iff.1 hq).1).trans hq;unfold a1P at this;obtain⟨a0,a1,a2,a3,_⟩:=b1X this;exact⟨a0,a1,a2,a3⟩
 have HX:=a0b hX;clear hX hq he;have c0:=AC.out _ (Below.refl _ _);obtain⟨c0,c1,c2,c3⟩:=c0;have sz0:¬ (9223372036854775807<nm.size+1):=by omega
 have sz1:¬ (9223372036854775807<nm.size+1+(Txt.a0x u).size):=by omega
 have sz2:¬ (9223372036854775807<nm.size+1+(Txt.a0x u).size+1):=by omega
 have sz3:¬ (9223372036854775807<nm.size+1+(Txt.a0x u).size+1+(Txt.a0x fr).size):=by omega
 have sz4:¬ (9223372036854775807<nm.size+1+(Txt.a0x u).size+1+(Txt.a0x fr).size+1):=by omega
 have sz5:¬ (9223372036854775807<nm.size+1+(Txt.a0x u).size+1+(Txt.a0x fr).size+1+(Txt.a0x til).size):=by omega
 have HU:=a0b hu;have HT:=a0b ht;have HR:=a0b hf;clear hu ht hf z1 z2 z3 hn
 go_enter Tryz.func28,Tryz.ntmps28
 go_upto_region 1 with fail
 change Code.wp _ _ _ _ (w.alloc (a1P nm u fr til));generalize w.alloc (a1P nm u fr til)=X at *
 go_region_held3 (fun w'=>w'.cell? ⟨w.heap.size,0,none⟩=some (.string nm)/\w'.cell? ⟨w.heap.size,1,none⟩=some (.int .i64 u)/\w'.cell? ⟨w.heap.size,2,none⟩=some (.int .i64 fr)/\w'.cell? ⟨w.heap.size,3,none⟩=some (.int .i64 til))
  (first
   |with_reducible exact AC.out _ HB3.out
   |with_reducible exact AC.out _ HB2.out
   |with_reducible exact AC.out _ HB1.out
   |exact⟨c0,c1,c2,c3⟩)
  (first
   |(go_at_call 22;refine (NU.out _ til (HX.out.trans (HB2.out.mono HX.out.size)) HT.out).mono ?_;rintro e w3 ⟨rfl,hb3⟩;have HB3:=a0b (a0j HB2.out hb3 (Nat.le_refl _));clear hb3)
   |(go_at_call 22;refine (NU.out _ fr (HX.out.trans (HB1.out.mono HX.out.size)) HR.out).mono ?_;rintro e w2 ⟨rfl,hb2⟩;have HB2:=a0b (a0j HB1.out hb2 (Nat.le_refl _));clear hb2)
   |(go_at_call 22;refine (NU.out _ u HX.out HU.out).mono ?_;rintro e w1 ⟨rfl,hb1⟩;have HB1:=a0b hb1;clear hb1))
 have HF:Hid (Below w.heap.size w w3):=HX.out.trans (HB3.out.mono HX.out.size);clear AC NU HB1 HB2 HB3
 go_wp2_with fail
 go_ret;exact⟨rfl,HF.out⟩
open Desk (Ent St Ids kept a0C a0Q a1C a2e ofB a0y a2c Mid a1H a0z Inv)
def Reads(t:ByteArray)(v:Value):Prop:=∀ e,a7T t e->e=.returned (.tuple #[v,.int .i64 0,.int .i64 0])
theorem a5G{n:Nat}(hw:Txt.a1v t=ws)(hs:t.size<=160)(hl:a2H ws v (n,false))(hn:n=ws.length):Reads t v:=fun e he=>by
 subst hw;exact a8v he (.e6J hs v (n,false) hl rfl (by simp[a1b,hn]))
theorem c5P(h0:1<=n)(h1:n<=9):unB (Txt.a0x n)=true/\nvF (Txt.a0x n)=n/\Txt.a3V (Txt.a0x n).data.toList=true:=by
 obtain⟨a,b⟩:=Txt.b6O (n:=n) (by omega) (by omega)
 refine⟨?_,b,Txt.b3l (by omega)⟩
 unfold unB a0K;rw[a,b];simp[h0,h1]
theorem f5w(h0:1<=n)(h1:n<=1048320):miB (Txt.a0x n)=true/\nvF (Txt.a0x n)=n/\Txt.a3V (Txt.a0x n).data.toList=true:=by
 obtain⟨a,b⟩:=Txt.b6O (n:=n) (by omega) (by omega)
 refine⟨?_,b,Txt.b3l (by omega)⟩
 unfold miB a0K;rw[a,b];simp[h0,h1]
theorem b1q(h0:0<=n)(h1:n<=1048320):a0n (Txt.a0x n)=true/\a1J (Txt.a0x n)=n/\Txt.a3V (Txt.a0x n).data.toList=true:=by
 obtain⟨a,b⟩:=Txt.b6O (n:=n) (by omega) (by omega)
 have v:a8J (Txt.a0x n)=n:=by unfold a8J;rw[a,b];rfl
 have t:a0n (Txt.a0x n)=true:=by unfold a0n;rw[a,v];simp[h0,h1]
 exact⟨t,by unfold a1J;rw[t,v];rfl,Txt.b3l (by omega)⟩
structure Nm(nm:ByteArray):Prop where
 b:nmB nm=true
 w:Txt.a3V nm.data.toList=true
 s:nm.size=1
theorem c7k:Nm ⟨#[97]⟩:=⟨by decide +kernel,by decide +kernel,by decide +kernel⟩
theorem c7j:Nm ⟨#[98]⟩:=⟨by decide +kernel,by decide +kernel,by decide +kernel⟩
theorem a8A{n:Nat}(h:ws[n]?=some x)(hB:nmB x=true):a2F ws (n,false)=x:=by
 obtain⟨y,hy,e⟩:=a2Q (ws:=ws) (st:=(n,false)) (by rw[(takes h hB).1])
 have hn:n<ws.length:=(List.getElem?_eq_some_iff.1 h).1;have hg:ws.getD n ByteArray.empty=x:=by rw[List.getD_eq_getElem?_getD,h];rfl
 have t:tkB ws n false (fun s=>Txt.a1j s.data.toList)=true:=by
  unfold tkB;rw[hg];have:Txt.a1j x.data.toList=true:=hB;simp[a1b,hn,this]
 unfold a2F tkS;rw[t,hg];exact if_pos hB
theorem a8t:Txt.a3V a3F.data.toList=true/\Txt.a3V a9P.data.toList=true/\Txt.a3V b5f.data.toList=true/\Txt.a3V b4k.data.toList=true/\Txt.a3V a6m.data.toList=true/\Txt.a3V a4z.data.toList=true/\Txt.a3V a5Q.data.toList=true/\Txt.a3V a9a.data.toList=true/\Txt.a3V b5h.data.toList=true/\Txt.a3V b4n.data.toList=true:=by decide +kernel
theorem a8K(hn:Nm nm)(hu:1<=u/\u<=9)(ht:t.data.toList=a3F.data.toList++32 :: (nm.data.toList++32 :: (Txt.a0x u).data.toList)):
  Reads t (.iface 149 (.agg #[.string nm,.int .i64 u])):=by
 obtain⟨u1,u2,u3⟩:=c5P hu.1 hu.2
 have hw:Txt.a1v t=[a3F,nm,Txt.a0x u]:=by
  refine Txt.a5p ?_ ?_
  ·rw[ht];simp only[List.map_cons,List.map_nil,Txt.a6Q,Txt.b3k]
  ·intro x hx;simp only[List.mem_cons,List.not_mem_nil,or_false] at hx;rcases hx with rfl|rfl|rfl
   ·exact a8t.1
   ·exact hn.w
   ·exact u3
 have hs:t.size<=160:=by
  have a:=Txt.a0I u (by omega) (by omega)
  rw[<- Txt.a1l] at a ⊢;rw[ht];have:=hn.s;rw[<- Txt.a1l] at this;simp only[List.length_append,List.length_cons];have:a3F.data.toList.length=5:=rfl;omega
 have t1:=takes (ws:=[a3F,nm,Txt.a0x u]) (n:=1) (x:=nm) (B:=nmB) rfl hn.b;have t2:=takes (ws:=[a3F,nm,Txt.a0x u]) (n:=2) (x:=Txt.a0x u) (B:=unB) rfl u1;have h:=a2H.a0k (ws:=[a3F,nm,Txt.a0x u]) (b1P rfl);simp only[a4T,a6y,t1.1,t2.1,t2.2,a8A (ws:=[a3F,nm,Txt.a0x u]) (n:=1) rfl hn.b,u2] at h;exact a5G hw hs h rfl
theorem b8g(hn:Nm nm)(ht:t.data.toList=a5Q.data.toList++32 :: nm.data.toList):
  Reads t (.iface 170 (.agg #[.string nm,.bool false,.int .i64 0,.int .i64 0])):=by
 have hw:Txt.a1v t=[a5Q,nm]:=by
  refine Txt.a5p ?_ ?_
  ·rw[ht];simp only[List.map_cons,List.map_nil,Txt.a6Q,Txt.b3k]
  ·intro x hx;simp only[List.mem_cons,List.not_mem_nil,or_false] at hx;rcases hx with rfl|rfl
   ·exact a8t.2.2.2.2.2.2.1
   ·exact hn.w
 have hs:t.size<=160:=by
  rw[<- Txt.a1l];rw[ht];have:=hn.s;rw[<- Txt.a1l] at this;simp only[List.length_append,List.length_cons];have:a5Q.data.toList.length=4:=rfl;omega
 have t1:=takes (ws:=[a5Q,nm]) (n:=1) (x:=nm) (B:=nmB) rfl hn.b;have h:=a2H.list0 (ws:=[a5Q,nm]) (b1P rfl) (by simp only[a4T,a6y,t1.1];rfl)
 simp only[a4T,a6y,t1.1,a8A (ws:=[a5Q,nm]) (n:=1) rfl hn.b] at h;exact a5G hw hs h rfl
theorem b8N(hn:Nm nm)(hu:1<=u/\u<=9)(hf:0<=fr/\fr<=1048320)(hl:0<=til/\til<=1048320)(ht:t.data.toList=a9P.data.toList++32 :: (nm.data.toList++32 :: ((Txt.a0x u).data.toList++32 :: ((Txt.a0x fr).data.toList++32 :: (Txt.a0x til).data.toList)))):
  Reads t (.iface 154 (.agg #[.string nm,.int .i64 u,.int .i64 fr,.int .i64 til])):=by
 obtain⟨u1,u2,u3⟩:=c5P hu.1 hu.2;obtain⟨f1,f2,f3⟩:=b1q hf.1 hf.2;obtain⟨l1,l2,l3⟩:=b1q hl.1 hl.2
 have hw:Txt.a1v t=[a9P,nm,Txt.a0x u,Txt.a0x fr,Txt.a0x til]:=by
  refine Txt.a5p ?_ ?_
  ·rw[ht];simp only[List.map_cons,List.map_nil,Txt.a6Q,Txt.b3k]
  ·intro x hx;simp only[List.mem_cons,List.not_mem_nil,or_false] at hx;rcases hx with rfl|rfl|rfl|rfl|rfl
   ·exact a8t.2.1
   ·exact hn.w
   ·exact u3
   ·exact f3
   ·exact l3
 have hs:t.size<=160:=by
  have c:=Txt.a0I u (by omega) (by omega)
  have a:=Txt.a0I fr (by omega) (by omega)
  have b:=Txt.a0I til (by omega) (by omega)
  rw[<- Txt.a1l] at a b c ⊢;rw[ht];have:=hn.s;rw[<- Txt.a1l] at this;simp only[List.length_append,List.length_cons];have:a9P.data.toList.length=4:=rfl;omega
 generalize hW:[a9P,nm,Txt.a0x u,Txt.a0x fr,Txt.a0x til]=W at hw;have t1:=takes (ws:=W) (n:=1) (x:=nm) (B:=nmB) (by rw[<- hW];rfl) hn.b
 have t2:=takes (ws:=W) (n:=2) (x:=Txt.a0x u) (B:=unB) (by rw[<- hW];rfl) u1
 have t3:=takes (ws:=W) (n:=3) (x:=Txt.a0x fr) (B:=a0n) (by rw[<- hW];rfl) f1
 have t4:=takes (ws:=W) (n:=4) (x:=Txt.a0x til) (B:=a0n) (by rw[<- hW];rfl) l1
 have h:=a2H.book (ws:=W) (b1P (by rw[<- hW];rfl))
 simp only[a4T,a6y,t1.1,t2.1,t2.2,t3.1,t3.2,t4.1,t4.2,a8A (ws:=W) (n:=1) (by rw[<- hW];rfl) hn.b,u2,f2,l2] at h
 exact a5G hw hs h (by rw[<- hW];rfl)
namespace Desk
theorem b3t{b:Int}{x:Ent}:∀ l:List Ent,(c0F a b x l).Perm (x :: l)
 |[]=>by simp[c0F]
 |y :: r=>by
  simp only[c0F]
  split
  ·exact List.Perm.refl _
  ·exact ((b3t r).cons y).trans (List.Perm.swap x y r)
theorem a3Y{b:Int}:∀ l:List Ent,(b2J a b l).Perm l
 |[]=>List.Perm.refl _
 |x :: r=>(b3t _).trans ((a3Y r).cons x)
end Desk
open Desk (Ent a0r hasB)
structure SV(w:World)(v:Value)(L:List (Int × Int)):Prop where
 form:∃ a cap,v=.slice a L.length cap
 cell:∀ (k:Nat) (hk:k<L.length),∃ g cap,v=.slice (some ⟨g,0,none⟩) L.length cap/\w.cell? ⟨g,k*2,none⟩=some (.int .i64 L[k].1)/\w.cell? ⟨g,k*2+1,none⟩=some (.int .i64 L[k].2)
theorem SV.later(h:SV w v L)(k:Below w.heap.size w w'):SV w' v L :=
 ⟨h.form,fun i hi=>by
  obtain⟨g,cap,e,a,b⟩:=h.cell i hi
  exact⟨g,cap,e,a0a k a,a0a k b⟩⟩
theorem SV.own(h:w.ownsRow B 60 2 v L.length (L.flatMap spV)):SV w v L:=by
 refine⟨a0B h,fun k hk=>?_⟩
 obtain⟨g,cap,e⟩:=Joins.ownsRow_form h (by omega)
 subst e;obtain⟨f1,f2⟩:=b3B k hk;have hl:=b0S L;have a0:=h.cellAt (k*2) (by omega)
 have a1:=h.cellAt (k*2+1) (by omega)
 rw[f1] at a0;rw[f2] at a1;exact⟨g,cap,rfl,a0,a1⟩
structure EV(w:World)(v:Value)(l:List (Ent × Value)):Prop where
 form:∃ a cap,v=.slice a l.length cap
 cell:∀ (k:Nat) (hk:k<l.length),∃ g cap,v=.slice (some ⟨g,0,none⟩) l.length cap/\w.cell? ⟨g,k*6,none⟩=some (.int .i64 l[k].1.id)/\w.cell? ⟨g,k*6+1,none⟩=some (.int .i64 l[k].1.kind)/\w.cell? ⟨g,k*6+2,none⟩=some (.string l[k].1.a0k)/\w.cell? ⟨g,k*6+3,none⟩=some (.int .i64 l[k].1.a0c)/\w.cell? ⟨g,k*6+4,none⟩=some l[k].2/\w.cell? ⟨g,k*6+5,none⟩=some (.int .i64 l[k].1.a0Z)
 sp:∀ p∈l,SV w p.2 p.1.a0e
theorem EV.later{l:List (Ent × Value)}(h:EV w v l)(k:Below w.heap.size w w'):EV w' v l :=
 ⟨h.form,fun i hi=>by
  obtain⟨g,cap,e,a0,a1,a2,a3,a4,a5⟩:=h.cell i hi
  exact⟨g,cap,e,a0a k a0,a0a k a1,a0a k a2,a0a k a3,a0a k a4,a0a k a5⟩,fun p hp=>(h.sp p hp).later k⟩
theorem EV.own{l:List (Ent × Value)}(h:w.ownsRow B 58 6 v l.length (l.flatMap a1f))(sp:∀ p∈l,SV w p.2 p.1.a0e):EV w v l:=by
 refine⟨a0B h,fun k hk=>?_,sp⟩
 obtain⟨g,cap,e⟩:=Joins.ownsRow_form h (by omega)
 subst e
 have at_:∀ j,j<6->w.cell? ⟨g,k*6+j,none⟩=(a1f l[k])[j]?:=fun j hj=>by
  have a0:=h.cellAt (k*6+j) (by omega)
  rw[a3M hk hj] at a0;exact a0
 exact⟨g,cap,rfl,at_ 0 (by omega),at_ 1 (by omega),at_ 2 (by omega),at_ 3 (by omega),at_ 4 (by omega),at_ 5 (by omega)⟩
theorem a3j.ev{col:Nat->Option Col}{l:List (Ent × Value)}(h:a3j w B col v l):EV w v l:=EV.own h.own (fun p hp=>SV.own (h.sp p hp).1.own)
namespace Desk
theorem d2D{ts:List (ByteArray × Int)}{es:List Ent}(h:∀ e∈es,e.kind≠3):a0R ts es=(es,[]):=by
 unfold a0R;rw[b0Q ts es [] (fun e he hk=>absurd hk (h e he))]
 simp
end Desk
namespace Desk
theorem b8H{s:St}{l:a7U}(h:(a0g s l).2.err≠0):(a0g s l).2=Rep.error (a0g s l).2.err:=by
 cases l with
 |a0k name u =>
  simp only[a0g] at h ⊢
  by_cases c1:a0h name s.ts≠0
  ·rw[if_pos c1];rfl
  ·rw[if_neg c1] at h ⊢
   by_cases c2:s.ts.length=4
   ·rw[if_pos c2];rfl
   ·rw[if_neg c2] at h;exact absurd rfl h
 |enter k name u fr til long =>
  simp only[a0g] at h ⊢
  by_cases c:a1M s k name u fr til long≠0
  ·rw[if_pos c];rfl
  ·rw[if_neg c] at h;exact absurd rfl h
 |series name u r =>
  simp only[a0g] at h ⊢
  by_cases c:a2l s name u r≠0
  ·rw[if_pos c];rfl
  ·rw[if_neg c] at h;exact absurd rfl h
 |confirm id =>
  simp only[a0g] at h ⊢
  cases hf:a5S id s.es with
  |none=>rfl
  |some e =>
   rw[hf] at h;simp only at h ⊢
   by_cases c:e.kind≠2
   ·rw[if_pos c];rfl
   ·rw[if_neg c] at h;exact absurd rfl h
 |cancel id =>
  simp only[a0g] at h ⊢
  cases hf:a5S id s.es with
  |none=>rfl
  |some e=>rw[hf] at h;exact absurd rfl h
 |list name fr til =>
  simp only[a0g] at h ⊢
  by_cases c1:a0h name s.ts=0
  ·rw[if_pos c1];rfl
  ·rw[if_neg c1] at h ⊢
   by_cases c2:til<=fr
   ·rw[if_pos c2];rfl
   ·rw[if_neg c2] at h;exact absurd rfl h
 |waiting=>exact absurd rfl h
 |peak name fr til =>
  simp only[a0g] at h ⊢
  by_cases c1:a0h name s.ts=0
  ·rw[if_pos c1];rfl
  ·rw[if_neg c1] at h ⊢
   by_cases c2:til<=fr
   ·rw[if_pos c2];rfl
   ·rw[if_neg c2] at h;exact absurd rfl h
 |find name u long fr til =>
  simp only[a0g] at h ⊢
  by_cases c1:a0S s.ts name u≠0
  ·rw[if_pos c1];rfl
  ·rw[if_neg c1] at h ⊢
   by_cases c2:til<=fr
   ·rw[if_pos c2];rfl
   ·rw[if_neg c2] at h;exact absurd rfl h
 |expand r =>
  simp only[a0g] at h ⊢
  by_cases c:Rd.a6W r≠0
  ·rw[if_pos c];rfl
  ·rw[if_neg c] at h;exact absurd rfl h
 |tick n =>
  simp only[a0g] at h ⊢
  by_cases c:1048320<s.now+n
  ·rw[if_pos c];rfl
  ·rw[if_neg c] at h;exact absurd rfl h
 |clock=>exact absurd rfl h
theorem b7R{s:St}{l:a7U}(h:(a1q s l).2.err≠0):(a1q s l).1=s/\(a1q s l).2=Rep.error (a1q s l).2.err:=by
 unfold a1q at h ⊢
 by_cases c:(a0g s l).2.err≠0
 ·rw[if_pos c];exact⟨b7g c,b8H c⟩
 ·rw[if_neg c] at h;exact absurd h c
theorem a8T{s:St}(h:Inv s){l:a7U}(hl:(a0g s l).1=s):a1q s l=(s,(a0g s l).2):=by
 unfold a1q
 by_cases c:(a0g s l).2.err≠0
 ·rw[if_pos c];exact Prod.ext hl rfl
 ·rw[if_neg c,hl,a9s h];simp only[List.append_nil]
end Desk
namespace Desk
theorem c0Z(s:St)(l:a7U):(a0g s l).1.ts=s.ts\/∃ t,(a0g s l).1.ts=s.ts++[t]:=by
 cases l <;> simp only[a0g,a2t]
 case a0k name u =>
  split
  ·exact .inl rfl
  ·split
   ·exact .inl rfl
   ·exact .inr ⟨_,rfl⟩
 case enter=>split <;> exact .inl rfl
 case series=>split <;> exact .inl rfl
 case confirm =>
  split
  ·exact .inl rfl
  ·split <;> exact .inl rfl
 case cancel=>split <;> exact .inl rfl
 case list=>split <;> first|exact .inl rfl|(split <;> exact .inl rfl)
 case waiting=>simp
 case peak=>split <;> first|exact .inl rfl|(split <;> exact .inl rfl)
 case find=>split <;> first|exact .inl rfl|(split <;> exact .inl rfl)
 case expand=>split <;> exact .inl rfl
 case tick=>split <;> exact .inl rfl
 case clock=>simp
theorem b0V(s:St)(l:a7U):(a0g s l).1.given<=s.given+1:=by
 cases l <;> simp only[a0g,a2t]
 case a0k name u =>
  split
  ·show s.given<=s.given+1;omega
  ·split <;> (show s.given<=s.given+1;omega)
 case enter=>split <;> (first|(show s.given<=s.given+1;omega)|(show s.given+1<=s.given+1;omega))
 case series=>split <;> (first|(show s.given<=s.given+1;omega)|(show s.given+1<=s.given+1;omega))
 case confirm =>
  split
  ·show s.given<=s.given+1;omega
  ·split <;> (show s.given<=s.given+1;omega)
 case cancel=>split <;> (show s.given<=s.given+1;omega)
 case list=>split <;> first|(show s.given<=s.given+1;omega)|(split <;> (show s.given<=s.given+1;omega))
 case waiting=>omega
 case peak=>split <;> first|(show s.given<=s.given+1;omega)|(split <;> (show s.given<=s.given+1;omega))
 case find=>split <;> first|(show s.given<=s.given+1;omega)|(split <;> (show s.given<=s.given+1;omega))
 case expand=>split <;> (show s.given<=s.given+1;omega)
 case tick=>split <;> (show s.given<=s.given+1;omega)
 case clock=>omega
theorem c4B(s:St)(l:a7U):(a1q s l).1.ts=s.ts\/∃ t,(a1q s l).1.ts=s.ts++[t]:=by
 unfold a1q
 split
 ·exact c0Z s l
 ·exact c0Z s l
theorem b7Q(s:St)(l:a7U):(a1q s l).1.given<=s.given+1:=by
 unfold a1q
 split
 ·exact b0V s l
 ·exact b0V s l
theorem b7F{s:St}(h:Inv s)(l:a7U)(hn:a0h nm s.ts≠0):a0h nm (a1q s l).1.ts=a0h nm s.ts:=by
 rcases c4B s l with e|⟨t,e⟩
 ·rw[e]
 ·rw[e];exact a8F h.tu hn
theorem c0t{s:St}(h:Inv s)(hn:a0h nm s.ts≠0):a1q s (.list nm 0 1048320)=(s,⟨0,0,0,a2x nm 0 1048320 s.es,[],[],[]⟩):=by
 have e:a0g s (.list nm 0 1048320)=(s,⟨0,0,0,a2x nm 0 1048320 s.es,[],[],[]⟩):=by
  simp only[a0g];rw[if_neg hn,if_neg (by omega)]
  rfl
 rw[a8T h (by rw[e]),e]
theorem a8M(nm:ByteArray)(x:Int)(e:Ent):∀ es:List Ent,a0o nm x (es++[e])=a0o nm x es+(if ofB nm e then a0r e.a0e x*e.a0c else 0)
 |[]=>by simp[a0o]
 |a :: r=>by
  have:=a8M nm x e r;simp only[List.cons_append,a0o,this];omega
theorem c2X{s:St}(h:Inv s){e:Ent}(hg:s.given≠60)(he:a1H s.now e)(hk:e.kind=1)(ht:e.a0c<=a0h e.a0k s.ts)(hf:a1e s.ts s.es e.a0k e.a0c e.a0e=true):Inv (a2t s e).1:=by
 have hm:=Inv.join h hg he ht (fun c=>by rw[hk] at c;cases c) (fun _=>hf)
 refine hm.inv fun w hw h3=>?_
 have hw':w∈s.es:=by
  have hw2:w∈s.es++[{ e with id:=s.given+1 }]:=hw;rcases List.mem_append.1 hw2 with c|c
  ·exact c
  ·rw[List.mem_singleton.1 c] at h3;have:(1:Int)=3:=by rw[<- hk];exact h3
   omega
 have hpos:Pos s.es:=h.mid.pos;refine a9v (es:=s.es) hpos hm.pos (by have:=(h.en w hw').u1;omega) (fun x=>?_) (h.no w hw' h3)
 have e1:(a2t s e).1.es=s.es++[{ e with id:=s.given+1 }]:=rfl;rw[e1,a8M]
 split
 ·have t0:0<=a0r e.a0e x:=by unfold a0r;omega
  have:0<=a0r e.a0e x*e.a0c:=Int.mul_nonneg t0 (by have:=he.u1;omega)
  show a0o w.a0k x s.es<=a0o w.a0k x s.es+a0r e.a0e x*e.a0c;omega
 ·omega
theorem c0D{s:St}(h:Inv s){l:a7U}{e:Ent}(hd:a0g s l=a2t s e)(hg:s.given≠60)(he:a1H s.now e)(hk:e.kind=1)(ht:e.a0c<=a0h e.a0k s.ts)(hf:a1e s.ts s.es e.a0k e.a0c e.a0e=true):a1q s l=a2t s e:=by
 have hi:=c2X h hg he hk ht hf;unfold a1q;rw[hd,if_neg (by simp[a2t,Rep.num]),a9s hi]
 simp[a2t,Rep.num]
theorem c1u{s:St}(h:Inv s)(hu:1<=u)(hu9:u<=9)(hu2:u<=a0h nm s.ts)(h0:0<=fr)(hlt:fr<til)(ht:til<=1048320)(hg:s.given<60):
  (a1e s.ts s.es nm u [(fr,til)]=true->a1q s (.enter 1 nm u fr til 0)=a2t s ⟨0,1,nm,u,[(fr,til)],0⟩)/\(a1e s.ts s.es nm u [(fr,til)]=false->a1q s (.enter 1 nm u fr til 0)=(s,Rep.error 8)):=by
 have ha:a0S s.ts nm u=0:=by
  unfold a0S;rw[if_neg (by omega),if_neg (by omega)]
 have hn:=h.n1;refine⟨fun hf=>?_,fun hf=>?_⟩
 ·have he:a1M s 1 nm u fr til 0=0:=by
   unfold a1M;rw[if_neg (by rw[ha];simp),if_neg (by omega),if_neg (by omega),if_neg (by omega),if_pos hf]
  refine c0D h ?_ (by omega) ⟨hu,hu9,by simp,by simp,?_,?_,.inl ⟨rfl,rfl⟩⟩ rfl hu2 hf
  ·simp only[a0g];rw[he,if_neg (by simp)]
   simp[a8p]
  ·intro p hp;rw[List.mem_singleton.1 hp];exact⟨h0,hlt,ht⟩
  ·simp[a2c]
 ·have he:a1M s 1 nm u fr til 0=8:=by
   unfold a1M;rw[if_neg (by rw[ha];simp),if_neg (by omega),if_neg (by omega),if_neg (by omega),if_neg (by rw[hf];simp)]
  have e:a0g s (.enter 1 nm u fr til 0)=(s,Rep.error 8):=by
   simp only[a0g];rw[he,if_pos (by simp)]
  rw[a8T h (by rw[e]),e]
theorem b6I{s:St}(h:Inv s)(nm:ByteArray){e:Ent}(he:e∈a2x nm 0 1048320 s.es):e∈s.es/\1<=e.id/\e.id<=s.given:=by
 have:=a4U.1 he;have hm:=(List.mem_filter.1 this).1;exact⟨hm,h.idb e hm⟩
theorem c3R:∀ (l:List Int)(a b:Int),l.Pairwise (· < ·)->(∀ x∈l,a<=x/\x<=b)->(l.length:Int)<=max 0 (b-a+1)
 |[],_,_,_,_=>by simp;omega
 |x :: r,a,b,hp,hb=>by
  obtain⟨h1,h2⟩:=List.pairwise_cons.1 hp;have hx:=hb x (List.mem_cons_self ..);have:=c3R r (x+1) b h2 (fun y hy=>⟨by have:=h1 y hy;omega,(hb y (List.mem_cons_of_mem _ hy)).2⟩)
  simp only[List.length_cons];omega
theorem c6C{s:St}(h:Inv s):s.es.length<=60:=by
 have hi:(s.es.map (·.id)).Pairwise (· < ·):=h.ids
 have hg:=h.g1
 have:=c3R _ 1 60 hi (fun x hx=>by
  obtain⟨e,he,rfl⟩:=List.mem_map.1 hx;have:=h.idb e he
  omega)
 rw[List.length_map] at this;omega
theorem c2P{s:St}(h:Inv s)(nm:ByteArray):(a2x nm 0 1048320 s.es).length<=60:=by
 have:=c6C h;have e:=(a3Y (a:=0) (b:=1048320) (s.es.filter (b7U nm 0 1048320))).length_eq;have f:=List.length_filter_le (b7U nm 0 1048320) s.es;unfold a2x;omega
end Desk
open Desk (Ent St Ids kept a0C a0Q a1C a2e ofB a0y a2c Mid a1H a0z Inv a0h a2x a1q Rep)
theorem Step.lowK{S:Col->Prop}{N:Nat}{col col':Nat->Option Col}(h:Step S B col col' w w')(hB:N<=B)(hs:N<=w.heap.size)(hc:∀ b,b<N->col b=none):Below N w w'/\∀ b,b<N->col' b=none:=by
 obtain⟨G,h1,h2⟩:=h.off;refine⟨⟨h1.os,h1.tape,h1.output,h1.size,fun b hb=>h1.block b (by omega) (fun hx=>?_)⟩,fun b hb=>?_⟩
 ·rcases h2 b hx with ⟨c,e,_⟩|⟨_,e⟩
  ·rw[hc b hb] at e;cases e
  ·omega
 ·exact h.keepN (hc b hb) (by omega)
theorem BD.laterK{s:St}{r:Raw}{col:Nat->Option Col}(h:BD w p d s r col)(k:Below w.heap.size w w'):BD w' p d s r col :=
 ⟨(k.block p (Array.getElem?_eq_some_iff.1 h.pc).1).trans h.pc,h.pn,⟨h.ds.dk.later k,h.ds.of,h.ds.wl,h.ds.hl,h.ds.inv⟩,h.env.later k,h.gl⟩
structure DG(w W:World)(p dk:Nat)(s:St)(r:Raw)(col:Nat->Option Col):Prop where
 bd:BD W p dk s r col
 bl:Below w.heap.size w W
 lo:∀ b,b<w.heap.size->col b=none
theorem DG.later{s:St}{r:Raw}{col:Nat->Option Col}(h:DG w W p dk s r col)(k:Below W.heap.size W W'):DG w W' p dk s r col:=⟨h.bd.laterK k,h.bl.trans (k.mono h.bl.size),h.lo⟩
theorem DG.step{s s':St}{r r':Raw}{col col':Nat->Option Col}(h:DG w W p dk s r col)(bd:BD W' p dk s' r' col')(st:Step anyS W.heap.size col col' W W'):DG w W' p dk s' r' col':=by
 obtain⟨k1,k2⟩:=st.lowK h.bl.size h.bl.size h.lo;exact⟨bd,h.bl.trans k1,k2⟩
theorem DG.none{s:St}{r:Raw}{col:Nat->Option Col}(h:DG w W p dk s r col)(hb:W.heap.size<=b):col b=none:=h.bd.ds.dk.none hb
theorem DG.inv{s:St}{r:Raw}{col:Nat->Option Col}(h:DG w W p dk s r col):Inv s:=h.bd.ds.inv
theorem Step.still{col col':Nat->Option Col}(st:Step anyS W.heap.size col col' W W'){o:Obj}(hb:W.heap[b]?=some o)(hc:col b=none):W'.heap[b]?=some o/\col' b=none:=by
 have hl:=(Array.getElem?_eq_some_iff.1 hb).1;exact⟨(st.blockN hl hc hl).trans hb,st.keepN hc hl⟩
structure DoP(w W:World)(p dk:Nat)(col:Nat->Option Col)(s':St)(rep:Rep)(l:List (Ent × Value))(v1 v3 v4:Value)(r':Raw)(col':Nat->Option Col)(W':World):Prop where
 c7n:l.map (·.1)=rep.entries
 row:a3j W' W.heap.size col' v1 l
 gr:a2I W' W.heap.size col' v3 rep.granted
 ed:a2I W' W.heap.size col' v4 rep.ended
 dg:DG w W' p dk s' r' col'
 st:Step anyS W.heap.size col col' W W'
def b4e(w W:World)(p dk:Nat)(col:Nat->Option Col)(q:St × Rep)(e:Ending)(W':World):Prop :=
 ∃ (l:List (Ent × Value)) (a1 a2 a3 a4:Option Addr) (n2 c1 c2 c3 c4:Nat) (r':Raw) (col':Nat->Option Col),e=.returned (.agg #[.int .i64 q.2.err,.int .i64 q.2.at_,.int .i64 q.2.n,.slice a1 l.length c1,.slice a2 n2 c2,.slice a3 q.2.granted.length c3,.slice a4 q.2.ended.length c4]) /\
  DoP w W p dk col q.1 q.2 l (.slice a1 l.length c1) (.slice a3 q.2.granted.length c3) (.slice a4 q.2.ended.length c4) r' col' W'
theorem b7o{s:St}{r:Raw}{col:Nat->Option Col}(h:DG w W p dk s r col){q:St × Rep}(k:b5M W p dk col q v W'):b4e w W p dk col q (.returned v) W':=by
 obtain⟨r',col',bd,st,en,da,gr,ed,l,rfl,he,k1,k2,k3,k4,_⟩:=k;obtain⟨a1,c1,rfl⟩:=a0B k1.own;obtain⟨a2,c2,rfl⟩:=a0B k2.own;obtain⟨a3,c3,rfl⟩:=a0B k3.own;obtain⟨a4,c4,rfl⟩:=a0B k4.own;exact⟨l,a1,a2,a3,a4,_,c1,c2,c3,c4,r',col',rfl,he,k1,k3,k4,h.step bd st,st⟩
theorem b2g{s:St}{r:Raw}{col:Nat->Option Col}(h:DG w W p dk s r col){l:Desk.a7U}(hr:Reads t v)(hv:LV v l)(hl:Desk.a1O l){q:St × Rep}(hq:a1q s l=q):
  Calls Tryz.prog 21 #[.pointer (some ⟨p,0,none⟩),.string t] W fun e W'=>b4e w W p dk col q e W':=by
 subst hq;exact (b7q h.bd t hr hv hl).mono fun _ _ ⟨_,e,k⟩=>by rw[e];exact b7o h k
def nmA:ByteArray:=⟨#[97]⟩
def nmC:ByteArray:=⟨#[98]⟩
def a3Z(a b:Int):St:=⟨[(nmA,a),(nmC,b)],[],0,0⟩
theorem c4w(a:Int):a1q st0 (.a0k nmA a)=(⟨[(nmA,a)],[],0,0⟩,⟨0,0,0,[],[],[],[]⟩):=by
 simp[a1q,Desk.a0g,st0,a0h,Rep.num,Desk.a0R,Desk.a0O]
theorem b9C:a0y nmA nmC=false:=by decide +kernel
theorem c4v(a b:Int):a1q ⟨[(nmA,a)],[],0,0⟩ (.a0k nmC b)=(a3Z a b,⟨0,0,0,[],[],[],[]⟩):=by
 simp[a1q,Desk.a0g,a0h,b9C,Rep.num,Desk.a0R,Desk.a0O,a3Z]
theorem b9b(a b:Int):a0h nmA (a3Z a b).ts=a:=by simp[a3Z,a0h,a0y]
theorem b9a(a b:Int):a0h nmC (a3Z a b).ts=b:=by
 have e:a0y nmC nmC=true:=by decide +kernel
 simp[a3Z,a0h,b9C,e]
def a1T(a b:Int):Obj:=.cells #[.int .i64 a,.int .i64 b] 28 (0,0)
def a5w(err at_ n:Int)(v1 v2 v3 v4:Value):Obj:=.cells #[.int .i64 err,.int .i64 at_,.int .i64 n,v1,v2,v3,v4] 40 (0,0)
theorem a2T{err at_:Int}{v1 v2 v3 v4:Value}(h:W.heap[b]?=some (a5w err at_ n v1 v2 v3 v4)):W.cell? ⟨b,0,none⟩=some (.int .i64 err)/\W.cell? ⟨b,1,none⟩=some (.int .i64 at_)/\W.cell? ⟨b,2,none⟩=some (.int .i64 n)/\W.cell? ⟨b,3,none⟩=some v1/\W.cell? ⟨b,4,none⟩=some v2/\W.cell? ⟨b,5,none⟩=some v3/\W.cell? ⟨b,6,none⟩=some v4:=by
 unfold a5w at h;refine⟨?_,?_,?_,?_,?_,?_,?_⟩ <;> (simp only[World.cell?,h];rfl)
structure AW(w0:World)(F:Nat)(s:ByteArray)(A R:Nat)(nm:ByteArray)(u fr til:Int)(w:World):Prop where
 fw:FW w0 F s w
 a:w.heap[A]?=some (a1P nm u fr til)
 r:w.heap[R]?=some (a1P ⟨#[]⟩ 0 0 0)
 ar:A≠R
 af:A≠F
 rf:R≠F
 a0:w0.heap.size<=A
 r0:w0.heap.size<=R
 h0:10<=w0.heap.size
theorem AW.drew{s:ByteArray}(h:AW w0 F s A R nm u fr til w):AW w0 F s A R nm u fr til w.drew :=
 ⟨h.fw.drew,h.a,h.r,h.ar,h.af,h.rf,h.a0,h.r0,h.h0⟩
theorem AW.c{s:ByteArray}(h:AW w0 F s A R nm u fr til w):w.cell? ⟨A,0,none⟩=some (.string nm)/\w.cell? ⟨A,1,none⟩=some (.int .i64 u)/\w.cell? ⟨A,2,none⟩=some (.int .i64 fr)/\w.cell? ⟨A,3,none⟩=some (.int .i64 til)/\∀ o,w.frozen? ⟨A,o,none⟩=false:=b1X h.a
theorem AW.rc{s:ByteArray}(h:AW w0 F s A R nm u fr til w):w.cell? ⟨R,0,none⟩=some (.string ⟨#[]⟩)/\w.cell? ⟨R,1,none⟩=some (.int .i64 0)/\w.cell? ⟨R,2,none⟩=some (.int .i64 0)/\w.cell? ⟨R,3,none⟩=some (.int .i64 0)/\∀ o,w.frozen? ⟨R,o,none⟩=false:=b1X h.r
theorem AW.to{s:ByteArray}{nm':ByteArray}{u' til':Int}(h:AW w0 F s A R nm u fr til w)(hw:FW w0 F s w')(k:Off [A] w w')(ha:w'.heap[A]?=some (a1P nm' u' fr' til')):AW w0 F s A R nm' u' fr' til' w' :=
 ⟨hw,ha,(k.block R (Array.getElem?_eq_some_iff.1 h.r).1 (by simp;exact fun e=>h.ar e.symm)).trans h.r,h.ar,h.af,h.rf,h.a0,h.r0,h.h0⟩
theorem AW.name{s:ByteArray}(h:AW w0 F s A R nm u fr til w)(x:ByteArray):AW w0 F s A R x u fr til (w.setCell ⟨A,0,none⟩ (.string x)) :=
 h.to (h.fw.set h.a0 h.af (Nat.le_trans h.h0 h.a0) _ _) (Off.set0 _ _ _ _) (a2A h.a _)
theorem AW.from_{s:ByteArray}(h:AW w0 F s A R nm u fr til w)(x:Int):AW w0 F s A R nm u x til (w.setCell ⟨A,2,none⟩ (.int .i64 x)) :=
 h.to (h.fw.set h.a0 h.af (Nat.le_trans h.h0 h.a0) _ _) (Off.set0 _ _ _ _) (a2A h.a _)
theorem AW.a0Z{s:ByteArray}(h:AW w0 F s A R nm u fr til w)(x:Int):AW w0 F s A R nm u fr x (w.setCell ⟨A,3,none⟩ (.int .i64 x)) :=
 h.to (h.fw.set h.a0 h.af (Nat.le_trans h.h0 h.a0) _ _) (Off.set0 _ _ _ _) (a2A h.a _)
theorem a3B{s:ByteArray}(h:AW w0 F s A R nm u fr til w)(n:Int)(h1:1<=n)(h2:n<=1000):
  Calls Tryz.prog 26 #[.pointer (some ⟨F,0,none⟩),.int .i64 n] w fun e w'=>∃ v,e=.returned (.int .i64 v)/\0<=v/\v<n/\AW w0 F s A R nm u fr til w':=by
 have hf:FW w F s w:=⟨h.fw.fd,h.fw.env,Off.refl _ _,h.fw.ten⟩;refine (a1h hf n h1 h2).mono ?_;rintro e w' ⟨v,rfl,v0,v1,k⟩;refine⟨v,rfl,v0,v1,⟨k.fd,k.env,h.fw.off.trans k.off,k.ten⟩,?_,?_,h.ar,h.af,h.rf,h.a0,h.r0,h.h0⟩
 ·exact (k.off.block A (Array.getElem?_eq_some_iff.1 h.a).1 (by simp;exact h.af)).trans h.a
 ·exact (k.off.block R (Array.getElem?_eq_some_iff.1 h.r).1 (by simp;exact h.rf)).trans h.r
structure b8U(nm:ByteArray)(u fr til:Int):Prop where
 n:nm=⟨#[97]⟩\/nm=⟨#[98]⟩\/nm=⟨#[99]⟩
 u1:1<=u
 u3:u<=3
 f0:0<=fr
 f1:fr<=1048320
 t0:0<=til
 t1:til<=1048320
theorem b0I{s:ByteArray}(h:FW w F s w):
  Calls Tryz.prog 25 #[.pointer (some ⟨F,0,none⟩)] w fun e w'=>∃ nm u fr til,e=.returned (.agg #[.string nm,.int .i64 u,.int .i64 fr,.int .i64 til])/\b8U nm u fr til/\FW w F s w':=by
 have hF:=h.lt;have h10:=h.env.size;have NX:=a0b (fun n h1 h2=>a1h (h.alloc (a1P ⟨#[]⟩ 0 0 0)) n h1 h2)
 have hr:(w.alloc (a1P ⟨#[]⟩ 0 0 0)).heap[w.heap.size]?=some (a1P ⟨#[]⟩ 0 0 0):=a0p w _
 have ST:Hid (∀ W u,FW w F s W->Off [F] (w.alloc (a1P ⟨#[]⟩ 0 0 0)) W->AW w F s W.heap.size w.heap.size ⟨#[97]⟩ u 0 0 (W.alloc (a1P ⟨#[97]⟩ u 0 0))):=fun W u hW ho=>by
  have hl:w.heap.size<W.heap.size:=Nat.lt_of_lt_of_le (by simp) ho.size
  have hR:=(ho.block w.heap.size (by simp) (by simp;omega)).trans hr
  exact⟨hW.alloc _,a0p W _,(Below.heap_alloc W _ _ hl).trans hR,by omega,by omega,by omega,by omega,Nat.le_refl _,h10⟩
 have NX1:=a0b (fun n h1 h2=>a1h (w0:=w.alloc (a1P ⟨#[]⟩ 0 0 0)) (w:=w.alloc (a1P ⟨#[]⟩ 0 0 0)) (F:=F) (s:=s) ⟨(h.alloc _).fd,(h.alloc _).env,Off.refl _ _,h.ten⟩ n h1 h2)
 have HH:=a0b h;clear h hr NX
 go_enter Tryz.func25,Tryz.ntmps25
 go_upto_region 1 with fail
 change Code.wp _ _ _ _ (w.alloc (a1P ⟨#[]⟩ 0 0 0))
 go_upto_region 2 with (first
  |(go_at_call 26;refine (NX1.out 3 (by omega) (by omega)).mono ?_;rintro e w1 ⟨v1,rfl,a1,b1,hf1⟩;have k1:IntKind.i64.wrap (1+v1)=1+v1:=a0G (by omega) (by omega)))
 have HA:=a0b (ST.out w1 (1+v1) ⟨hf1.fd,hf1.env,((Off.refl [F] w).alloc _).trans hf1.off,hf1.ten⟩ hf1.off);clear ST NX1 HH;have u1:1<=1+v1:=by omega
 have u3:1+v1<=3:=by omega
 clear hf1 a1 b1 k1;change Code.wp _ _ _ _ (w1.alloc (a1P ⟨#[97]⟩ (1+v1) 0 0));generalize w1.alloc (a1P ⟨#[97]⟩ (1+v1) 0 0)=X1 at HA ⊢;generalize w1.heap.size=A at HA ⊢;generalize 1+v1=u at u1 u3 HA ⊢;generalize w.heap.size=R at HA ⊢
 rename_i K1 h1 K0 h0
 have KK1:∀ (t4 t5 t6 t7 t8 t9 t10 t11:Value) (nm:ByteArray) (W:World),(nm=⟨#[97]⟩\/nm=⟨#[98]⟩)->AW w F s A R nm u 0 0 W->K1 { tmps:=#[.pointer (some ⟨F,0,none⟩),undef,.pointer (some ⟨R,0,none⟩),.pointer (some ⟨A,0,none⟩),t4,t5,t6,t7,t8,t9,t10,t11,undef,undef,undef,undef,undef,undef,undef,undef,undef,undef,undef,undef,undef,undef,undef,undef,undef,undef,undef,undef,undef,undef,undef,undef,undef,undef,undef,undef,undef,undef],defers:=[] } W:=by
  intro t4 t5 t6 t7 t8 t9 t10 t11 nm W hnm hA;refine h1 _ _ ?_;have HA:=a0b hA;clear h1 h0 hA
  go_upto_region 5 with (first
   |(go_at_call 26;refine (a3B HA.out 30 (by omega) (by omega)).mono ?_;rintro e w3 ⟨v3,rfl,a3,b3,ha3⟩;have HA3:=a0b ha3;clear ha3;have k3:IntKind.i64.wrap (5*v3)=5*v3:=a0G (by omega) (by omega);have cf:=HA3.out.c.2.2.2.2;have c2:=HA3.out.c.2.2.1))
  have HB:=a0b (HA3.out.from_ (5*v3));have f0:0<=5*v3:=by omega
  have f1:5*v3<=145:=by omega
  clear HA HA3 k3 cf c2 a3 b3;generalize w3.setCell ⟨A,2,none⟩ (.int .i64 (5*v3))=X3 at HB ⊢;generalize 5*v3=fr at f0 f1 HB ⊢;have HBd:=a0b HB.out.drew;have c2:=HBd.out.c.2.2.1
  go_region_held3 (fun w'=>w'.cell? ⟨A,2,none⟩=some (.int .i64 fr))
   (first
    |exact c2b
    |exact AS _
    |exact c2)
   (first
    |(go_at_call 26;refine (a3B HBd.out 12 (by omega) (by omega)).mono ?_;rintro e w4 ⟨v4,rfl,a4,b4,ha4⟩;have HA4:=a0b ha4;clear ha4;have k4:IntKind.i64.wrap (5*v4)=5*v4:=a0G (by omega) (by omega);have k5:IntKind.i64.wrap (fr+5*v4)=fr+5*v4:=a0G (by omega) (by omega);have c2b:=HA4.out.c.2.2.1;have c3b:=HA4.out.c.2.2.2.1;have cfb:=HA4.out.c.2.2.2.2;have AS:=fun x=>(HA4.out.a0Z x).c.2.2.1))
  have HC:=a0b (HA4.out.a0Z (fr+5*v4));have g0:0<=fr+5*v4:=by omega
  have g1:fr+5*v4<=1000:=by omega
  clear HB HBd c2 HA4 k4 k5 c2b c3b cfb AS a4 b4;generalize w4.setCell ⟨A,3,none⟩ (.int .i64 (fr+5*v4))=X4 at HC ⊢;generalize fr+5*v4=til at g0 g1 HC ⊢
  go_upto_region 6 with fail
  rename_i K2 h2 K3 h3
  have KK2:∀ (t4 t5 t6 t7 t8 t9 t10 t11 t12 t13 t14 t15 t16 t17 t18 t19 t20 t21 t22 t23 t24 t25 t26 t27 t28 t29 t30 t31 t32 t33 t34 t35 t36:Value) (fr til:Int) (W:World),(0<=fr/\fr<=1048320)->(0<=til/\til<=1048320)->AW w F s A R nm u fr til W->K2 { tmps:=#[.pointer (some ⟨F,0,none⟩),undef,.pointer (some ⟨R,0,none⟩),.pointer (some ⟨A,0,none⟩),t4,t5,t6,t7,t8,t9,t10,t11,t12,t13,t14,t15,t16,t17,t18,t19,t20,t21,t22,t23,t24,t25,t26,t27,t28,t29,t30,t31,t32,t33,t34,t35,t36,undef,undef,undef,undef,undef],defers:=[] } W:=by
   intro t4 t5 t6 t7 t8 t9 t10 t11 t12 t13 t14 t15 t16 t17 t18 t19 t20 t21 t22 t23 t24 t25 t26 t27 t28 t29 t30 t31 t32 t33 t34 t35 t36 fr til W hf ht hA;refine h2 _ _ ?_;have HA:=a0b hA;clear h2 h3 hA HC f0 f1 g0 g1
   go_upto_region 9 with fail
   rename_i K4 h4 K5 h5
   have KK4:∀ (t4 t5 t6 t7 t8 t9 t10 t11 t12 t13 t14 t15 t16 t17 t18 t19 t20 t21 t22 t23 t24 t25 t26 t27 t28 t29 t30 t31 t32 t33 t34 t35 t36 t37 t38 t39 t40:Value) (nm:ByteArray) (W:World),(nm=⟨#[97]⟩\/nm=⟨#[98]⟩\/nm=⟨#[99]⟩)->AW w F s A R nm u fr til W->K4 { tmps:=#[.pointer (some ⟨F,0,none⟩),undef,.pointer (some ⟨R,0,none⟩),.pointer (some ⟨A,0,none⟩),t4,t5,t6,t7,t8,t9,t10,t11,t12,t13,t14,t15,t16,t17,t18,t19,t20,t21,t22,t23,t24,t25,t26,t27,t28,t29,t30,t31,t32,t33,t34,t35,t36,t37,t38,t39,t40,undef],defers:=[] } W:=by
    intro t4 t5 t6 t7 t8 t9 t10 t11 t12 t13 t14 t15 t16 t17 t18 t19 t20 t21 t22 t23 t24 t25 t26 t27 t28 t29 t30 t31 t32 t33 t34 t35 t36 t37 t38 t39 t40 nm W hn hA;refine h4 _ _ ?_;obtain⟨c0,c1,c2,c3,cf⟩:=hA.c;obtain⟨r0,r1,r2,r3,rf⟩:=hA.rc
    have HW:Hid (FW w F s ((((W.setCell ⟨R,0,none⟩ (.string nm)).setCell ⟨R,1,none⟩ (.int .i64 u)).setCell ⟨R,2,none⟩ (.int .i64 fr)).setCell ⟨R,3,none⟩ (.int .i64 til))) :=
     (((hA.fw.set hA.r0 hA.rf (Nat.le_trans hA.h0 hA.r0) _ _).set hA.r0 hA.rf (Nat.le_trans hA.h0 hA.r0) _ _).set hA.r0 hA.rf (Nat.le_trans hA.h0 hA.r0) _ _).set hA.r0 hA.rf (Nat.le_trans hA.h0 hA.r0) _ _
    have HK:=a0b (b8U.mk hn u1 u3 hf.1 hf.2 ht.1 ht.2);clear h4 h5 hA HA hf ht hn hnm
    go_wp2_with fail
    exact bodyPost_ret (v:=.agg #[.string nm,.int .i64 u,.int .i64 fr,.int .i64 til]) (by simp[results,Tryz.results25,go_sem,r0,r1,r2,r3]) rfl ⟨_,_,_,_,rfl,HK.out,HW.out⟩
   clear h4;have hn3:nm=⟨#[97]⟩\/nm=⟨#[98]⟩\/nm=⟨#[99]⟩:=by rcases hnm with e|e <;> simp[e]
   clear hnm
   go_upto_region 10 with (first
    |(go_at_call 26;refine (a3B HA.out 20 (by omega) (by omega)).mono ?_;rintro e w7 ⟨v7,rfl,a7,b7,ha7⟩;have HA7:=a0b ha7;clear ha7))
   ·have c0:=HA7.out.c.1;have cf:=HA7.out.c.2.2.2.2;have HA8:=a0b (HA7.out.name ⟨#[99]⟩);clear HA7 HA
    go_wp2_with fail
    exact KK4 _ _ _ _ _ _ _ _ _ _ _ _ _ _ _ _ _ _ _ _ _ _ _ _ _ _ _ _ _ _ _ _ _ _ _ _ _ _ _ (.inr (.inr rfl)) HA8.out
   ·exact KK4 _ _ _ _ _ _ _ _ _ _ _ _ _ _ _ _ _ _ _ _ _ _ _ _ _ _ _ _ _ _ _ _ _ _ _ _ _ _ _ hn3 HA7.out
  go_upto_region 7 with (first
   |(go_at_call 26;refine (a3B HC.out 12 (by omega) (by omega)).mono ?_;rintro e w5 ⟨v5,rfl,a5,b5,ha5⟩;have HA5:=a0b ha5;clear ha5))
  ·have KKt:=KK2;clear KK2 HC h2
   go_upto_region 8 with (first
    |(go_at_call 26;refine (a3B HA5.out 3 (by omega) (by omega)).mono ?_;rintro e w6 ⟨v6,rfl,a6,b6,ha6⟩;have HA6:=a0b ha6;clear ha6;have k6:IntKind.i64.wrap (1048320-v6)=1048320-v6:=a0G (by omega) (by omega);have cf:=HA6.out.c.2.2.2.2;have c3:=HA6.out.c.2.2.2.1))
   have HB6:=a0b (HA6.out.a0Z (1048320-v6));have p0:1048318<=1048320-v6:=by omega
   have p1:1048320-v6<=1048320:=by omega
   clear HA6 HA5 k6 cf c3 a6 b6 a5 b5;generalize w6.setCell ⟨A,3,none⟩ (.int .i64 (1048320-v6))=X6 at HB6 ⊢;generalize 1048320-v6=ti at p0 p1 HB6 ⊢;have HBd:=a0b HB6.out.drew;have c3:=HBd.out.c.2.2.2.1
   go_region_held3 (fun w'=>w'.cell? ⟨A,3,none⟩=some (.int .i64 ti))
    (first
     |exact c3b
     |exact AS _
     |exact c3)
    (first
     |(go_at_call 26;refine (a3B HBd.out 20 (by omega) (by omega)).mono ?_;rintro e w8 ⟨v8,rfl,a8,b8,ha8⟩;have HA8:=a0b ha8;clear ha8;have k8:IntKind.i64.wrap (10*v8)=10*v8:=a0G (by omega) (by omega);have k9:IntKind.i64.wrap (ti-10*v8)=ti-10*v8:=a0G (by omega) (by omega);have c3b:=HA8.out.c.2.2.2.1;have c2b:=HA8.out.c.2.2.1;have cfb:=HA8.out.c.2.2.2.2;have AS:=fun x=>(HA8.out.from_ x).c.2.2.2.1))
   have HA9:=a0b (HA8.out.from_ (ti-10*v8));exact KKt _ _ _ _ _ _ _ _ _ _ _ _ _ _ _ _ _ _ _ _ _ _ _ _ _ _ _ _ _ _ _ _ _ _ _ _ ⟨by omega,by omega⟩ ⟨by omega,by omega⟩ HA9.out
  ·exact KK2 _ _ _ _ _ _ _ _ _ _ _ _ _ _ _ _ _ _ _ _ _ _ _ _ _ _ _ _ _ _ _ _ _ _ _ _ ⟨by omega,by omega⟩ ⟨by omega,by omega⟩ HA5.out
 clear h1
 go_upto_region 3 with (first
  |(go_at_call 26;refine (a3B HA.out 3 (by omega) (by omega)).mono ?_;rintro e w2 ⟨v2,rfl,a2,b2,ha2⟩;have HA2:=a0b ha2;clear ha2))
 ·have c0:=HA2.out.c.1;have cf:=HA2.out.c.2.2.2.2;have HA3:=a0b (HA2.out.name ⟨#[98]⟩);clear HA2 HA
  go_wp2_with fail
  exact KK1 _ _ _ _ _ _ _ _ _ _ (.inr rfl) HA3.out
 ·exact KK1 _ _ _ _ _ _ _ _ _ _ (.inl rfl) HA2.out
end Go.Proofs.YtfigmlfdnickmaaGreatDoor
