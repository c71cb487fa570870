/-
  Parts of the proof, one behind the other.
-/
import Derived.Test.YtjfkfiffakbagaaGreatDoorL17
import Derived.Lib.ItoaNum
import Derived.Deep.RegionHeld3
set_option maxRecDepth 100000
set_option maxHeartbeats 8000000
namespace Go.Proofs.YtjfkfiffakbagaaGreatDoor
open Go.RowKit
open Desk (Ent St Ids kept a0C a0Q a1C a2e ofB a0y a2c Mid a1H a0z Inv)
theorem c6m{ws:List ByteArray}{x:ByteArray}(h:isB ws 0 false x=true)(y:ByteArray):isB ws 0 false y=(x.toList==y.toList):=by
 unfold isB at h ⊢
 rw[Bool.and_eq_true] at h
 have e:=eq_of_beq h.2
 rw[h.1,e,Bool.true_and]
def c2h:Value->Nat
 |.iface t _=>t
 |_=>0
def tyL:List (ByteArray × Nat):=[(a3F,143),(a9P,148),(b5f,150),(b4k,151),(a7l,159),(a4z,161),(a6m,162),(a5Q,164),(a5q,167),(a9a,170),(b5h,172),(a7M,174),(b4n,176),(b1c,177)]
def tyF(f:ByteArray->Bool):Nat:=((tyL.find? fun p=>f p.1).map (·.2)).getD 0
theorem a3p{ws:List ByteArray}{x:ByteArray}(h:isB ws 0 false x=true):tyF (isB ws 0 false)=tyF (fun y=>x.toList==y.toList):=by
 rw[show isB ws 0 false=fun y=>x.toList==y.toList from funext (c6m h)]
theorem a2H.tag{ws:List ByteArray}{v:Value}{s:Nat × Bool}(h:a2H ws v s):c2h v=tyF (isB ws 0 false):=by
 cases h with
 |none h0 h1 h2 h3 h4 h5 h6 h7 h8 h9 h10 h11 h12 h13=>simp[c2h,tyF,tyL,h0,h1,h2,h3,h4,h5,h6,h7,h8,h9,h10,h11,h12,h13]
 |a0k h=>rw[a3p h];exact (by decide +kernel:143=tyF (fun y=>a3F.toList==y.toList))
 |book h=>rw[a3p h];exact (by decide +kernel:148=tyF (fun y=>a9P.toList==y.toList))
 |hold h=>rw[a3p h];exact (by decide +kernel:150=tyF (fun y=>b5f.toList==y.toList))
 |wait h=>rw[a3p h];exact (by decide +kernel:151=tyF (fun y=>b4k.toList==y.toList))
 |series h=>rw[a3p h];exact (by decide +kernel:159=tyF (fun y=>a7l.toList==y.toList))
 |confirm h=>rw[a3p h];exact (by decide +kernel:161=tyF (fun y=>a4z.toList==y.toList))
 |cancel h=>rw[a3p h];exact (by decide +kernel:162=tyF (fun y=>a6m.toList==y.toList))
 |list0 h=>rw[a3p h];exact (by decide +kernel:164=tyF (fun y=>a5Q.toList==y.toList))
 |list1 h=>rw[a3p h];exact (by decide +kernel:164=tyF (fun y=>a5Q.toList==y.toList))
 |waiting h=>rw[a3p h];exact (by decide +kernel:167=tyF (fun y=>a5q.toList==y.toList))
 |peak h=>rw[a3p h];exact (by decide +kernel:170=tyF (fun y=>a9a.toList==y.toList))
 |find h=>rw[a3p h];exact (by decide +kernel:172=tyF (fun y=>b5h.toList==y.toList))
 |expand h=>rw[a3p h];exact (by decide +kernel:174=tyF (fun y=>a7M.toList==y.toList))
 |tick h=>rw[a3p h];exact (by decide +kernel:176=tyF (fun y=>b4n.toList==y.toList))
 |clock h=>rw[a3p h];exact (by decide +kernel:177=tyF (fun y=>b1c.toList==y.toList))
theorem c5u{ws:List ByteArray}{st:Nat × Bool}{ti un ti' un':Int}{s s':Nat × Bool}(h:c3M ws st ti un s)(h':c3M ws st ti' un' s'):s=s'/\ti=ti'/\un=un':=by
 cases h <;> cases h' <;> first|exact⟨rfl,rfl,rfl⟩|(simp_all;done)
theorem c2F{ws:List ByteArray}{st:Nat × Bool}{pc ev pc' ev':Int}{acc acc':List Int}{s s':Nat × Bool}(h:b0n ws st pc ev acc s)(h':b0n ws st pc' ev' acc' s'):s=s'/\pc=pc'/\ev=ev'/\(s.2=false->acc=acc'):=by
 cases h with
 |daily h=>cases h' <;> first|exact⟨rfl,rfl,rfl,fun _=>rfl⟩|(simp_all;done)
 |monthly h1 h2 h=>cases h' <;> first|exact⟨rfl,rfl,rfl,fun _=>rfl⟩|(simp_all;done)
 |none h1 h2 h=>cases h' <;> first|exact⟨rfl,rfl,rfl,fun _=>rfl⟩|(simp_all;done)
 |weekly h1 h acc ha =>
  cases h' with
  |daily g=>rw[g] at h1;cases h1
  |weekly g1 g acc' ga =>
   refine⟨rfl,rfl,rfl,fun h2=>?_⟩
   have t:tkB ws (a0M ws [evB] (nxt st)).1 (a0M ws [evB] (nxt st)).2 Txt.onB=true:=a8u (B:=Txt.onB) (st:=a0M ws [evB] (nxt st)) h2
   exact Option.some.inj ((ha t).symm.trans (ga t))
  |monthly g1 g2 g=>rw[h] at g2;cases g2
  |none g1 g2 g=>rw[h] at g2;cases g2
theorem b6f{ws:List ByteArray}{st:Nat × Bool}{pc ev:Int}{acc:List Int}{fr mn mi ti un:Int}{s:Nat × Bool}{pc' ev':Int}{acc':List Int}{fr' mn' mi' ti' un':Int}{s':Nat × Bool}(h:b0m ws st pc ev acc fr mn mi ti un s)(h':b0m ws st pc' ev' acc' fr' mn' mi' ti' un' s'):
  s=s'/\pc=pc'/\ev=ev'/\(s.2=false->acc=acc')/\fr=fr'/\mn=mn'/\mi=mi'/\ti=ti'/\un=un':=by
 obtain⟨s0,hp,he,rfl,rfl,rfl⟩:=a7m h
 obtain⟨s0',hp',he',rfl,rfl,rfl⟩:=a7m h'
 obtain⟨rfl,rfl,rfl,ha⟩:=c2F hp hp'
 obtain⟨rfl,rfl,rfl⟩:=c5u he he'
 refine⟨rfl,rfl,rfl,fun h2=>ha ?_,rfl,rfl,rfl,rfl,rfl⟩
 have hm:=(b7b he h2).1
 have m6:(stp ws miB (stp ws (a1s b3z) (stp ws Txt.a3a (stp ws (a1s atW) (stp ws Txt.a2y (stp ws (a1s a1t) s0)))))).2=false:=hm
 exact a0H (a0H (a0H (a0H (a0H (a0H m6)))))
theorem a8x{ws:List ByteArray}{v v':Value}{s s':Nat × Bool}(h1:a2H ws v s)(h2:a2H ws v' s'):s=s'/\(s.2=false->v=v'):=by
 have e:c2h v=c2h v':=h1.tag.trans h2.tag.symm
 cases h1 with
 |series h pc ev acc fr mn mi ti un s hr =>
  cases h2 with
  |series h' pc' ev' acc' fr' mn' mi' ti' un' s' hr' =>
   obtain⟨rfl,rfl,rfl,ha,rfl,rfl,rfl,rfl,rfl⟩:=b6f hr hr'
   exact⟨rfl,fun h2=>by rw[ha h2]⟩
  |_=>exact absurd e (by simp[c2h])
 |expand h pc ev acc fr mn mi ti un s hr =>
  cases h2 with
  |expand h' pc' ev' acc' fr' mn' mi' ti' un' s' hr' =>
   obtain⟨rfl,rfl,rfl,ha,rfl,rfl,rfl,rfl,rfl⟩:=b6f hr hr'
   exact⟨rfl,fun h2=>by rw[ha h2]⟩
  |_=>exact absurd e (by simp[c2h])
 |list0 h hm =>
  cases h2 with
  |list0 h' hm'=>exact⟨rfl,fun _=>rfl⟩
  |list1 h' hm'=>rw[hm] at hm';cases hm'
  |_=>exact absurd e (by simp[c2h])
 |list1 h hm =>
  cases h2 with
  |list0 h' hm'=>rw[hm] at hm';cases hm'
  |list1 h' hm'=>exact⟨rfl,fun _=>rfl⟩
  |_=>exact absurd e (by simp[c2h])
 |_=>cases h2 <;> first|exact⟨rfl,fun _=>rfl⟩|exact absurd e (by simp[c2h])
theorem a8v{t:ByteArray}{e e':Ending}(h:a7T t e)(h':a7T t e'):e=e':=by
 cases h with
 |long h =>
  cases h' with
  |long h'=>rfl
  |bad h'=>omega
  |e6J h'=>omega
 |bad h v st hl hb =>
  cases h' with
  |long h'=>omega
  |bad h' v' st' hl' hb'=>obtain⟨rfl,_⟩:=a8x hl hl';rfl
  |e6J h' v' st' hl' h2 hb' =>
   obtain⟨rfl,_⟩:=a8x hl hl'
   rcases hb with hb|hb
   ·rw[h2] at hb;cases hb
   ·rw[hb'] at hb;cases hb
 |e6J h v st hl h2 hb =>
  cases h' with
  |long h'=>omega
  |bad h' v' st' hl' hb' =>
   obtain⟨rfl,_⟩:=a8x hl hl'
   rcases hb' with hb' |hb'
   ·rw[h2] at hb';cases hb'
   ·rw[hb] at hb';cases hb'
  |e6J h' v' st' hl' h2' hb'=>obtain⟨rfl,hv⟩:=a8x hl hl';rw[hv h2]
def c4m(t:ByteArray):(Int × Int) ⊕ Desk.a7U->Prop
 |.inl (er,at_)=>er≠0/\(er=1/\at_=0\/er=2/\0<=at_)/\∀ e,a7T t e->e=.returned (.tuple #[.nilIface,.int .i64 er,.int .i64 at_])
 |.inr l=>∃ line,(∀ e,a7T t e->e=.returned (.tuple #[line,.int .i64 0,.int .i64 0]))/\LV line l/\Desk.a1O l
theorem b9l(t:ByteArray):∃ o,c4m t o:=by
 by_cases h:∃ e,a7T t e
 ·obtain⟨e,he⟩:=h
  cases he with
  |long h=>exact⟨.inl (1,0),by decide,.inl ⟨rfl,rfl⟩,fun e he=>a8v he (.long h)⟩
  |bad h v st hl hb=>exact⟨.inl (2,st.1),by decide,.inr ⟨rfl,by omega⟩,fun e he=>a8v he (.bad h v st hl hb)⟩
  |e6J h v st hl h2 hb =>
   obtain⟨l,h1,h3⟩:=c0v hl h2
   exact⟨.inr l,v,fun e he=>a8v he (.e6J h v st hl h2 hb),h1,h3⟩
 ·exact⟨.inl (1,0),by decide,.inl ⟨rfl,rfl⟩,fun e he=>absurd ⟨e,he⟩ h⟩
noncomputable def b9K(t:ByteArray):(Int × Int) ⊕ Desk.a7U:=Classical.choose (b9l t)
theorem c2y(t:ByteArray):c4m t (b9K t):=Classical.choose_spec (b9l t)
noncomputable def stepT(s:St)(t:ByteArray):St × Desk.Rep :=
 match b9K t with
 |.inl (er,at_)=>(s,⟨er,at_,0,[],[],[],[]⟩)
 |.inr l=>Desk.a1q s l
theorem c5A{w:World}{p d:Nat}{s:St}{r:Raw}{col:Nat->Option Col}(h:BD w p d s r col)(t:ByteArray):
  Calls Tryz.prog 20 #[.pointer (some ⟨p,0,none⟩),.string t] w fun e w'=>∃ v,e=.returned v/\b5M w p d col (stepT s t) v w':=by
 have hr:=c2y t
 unfold stepT
 generalize b9K t=o at hr ⊢
 cases o with
 |inl q =>
  obtain⟨er,at_⟩:=q
  exact c5z h t er at_ hr.1 hr.2.2
 |inr l =>
  obtain⟨line,h1,h2,h3⟩:=hr
  exact b7q h t h1 h2 h3
end Go.Proofs.YtjfkfiffakbagaaGreatDoor
namespace Go.Proofs.YtjfkfiffakbagaaGreatDoor.Txt
open Go
theorem b5p:∀ (k u:Nat),u<10 ^ (k+1)->(Lib.decDigits u).length<=k+1
 |0,u,h=>by rw[Lib.decDigits];simp at h;rw[dif_pos h];simp
 |k+1,u,h=>by
  rw[Lib.decDigits]
  split
  ·simp
  ·have:=b5p k (u / 10) (by rw[Nat.pow_succ] at h;omega)
   simp;omega
def a0x(n:Int):ByteArray:=⟨(Lib.itoa n).toArray⟩
theorem a0I(n:Int)(h0:0<=n)(h:n<=9999999):(a0x n).size<=7:=by
 rw[<- a1d]
 unfold a0x Lib.itoa
 rw[if_neg (by omega)]
 have:=b5p 6 n.toNat (by omega)
 simpa using this
def pz:Nat->ByteArray->ByteArray
 |0,t=>t
 |k+1,t=>pz k (⟨#[48]⟩++t)
def b8V(n:Int)(size:Nat):ByteArray:=pz (size-(a0x n).size) (a0x n)
theorem c1f(u:Nat)(h:u<10):Lib.decDigits u=[UInt8.ofNat (48+u)]:=by
 rw[Lib.decDigits,dif_pos h]
theorem c5x(u:Nat)(h:¬ u<10):Lib.decDigits u=Lib.decDigits (u / 10)++[UInt8.ofNat (48+u % 10)]:=by
 rw[Lib.decDigits,dif_neg h]
end Go.Proofs.YtjfkfiffakbagaaGreatDoor.Txt
namespace Go.Proofs.YtjfkfiffakbagaaGreatDoor
open Go.RowKit
theorem b8w(w:World)(k:Nat)(os:Array Obj):Below w.heap.size w (Sort.grow (w.drewN k) os) :=
 ⟨rfl,rfl,rfl,by simp[Sort.grow],fun j hj=>by simp only[Sort.grow,World.heap_drewN];rw[Array.getElem?_append_left hj]⟩
theorem c2Y(n:Int)(w:World)(he:Env w)(h0:-9223372036854775808<=n)(h1:n<=9223372036854775807):
  Calls Tryz.prog 44 #[.int .i64 n] w fun e w'=>e=.returned (.string (Txt.a0x n))/\Below w.heap.size w w':=by
 refine (Tryz.strconv_Itoa n h0 h1 w he.pow).mono ?_
 rintro e w' ⟨rfl,k,os,rfl⟩
 exact⟨rfl,b8w w k os⟩
end Go.Proofs.YtjfkfiffakbagaaGreatDoor
namespace Go.Proofs.YtjfkfiffakbagaaGreatDoor.Txt
open Go
def b1m(x:List (List UInt8) × List UInt8)(c:UInt8):List (List UInt8) × List UInt8:=if c=32 then ((if x.2=[] then x.1 else x.1++[x.2]),[]) else (x.1,x.2++[c])
def c4p(l:List UInt8):List (List UInt8) × List UInt8:=l.foldl b1m ([],[])
def c1V(x:List (List UInt8) × List UInt8):List (List UInt8):=if x.2=[] then x.1 else x.1++[x.2]
def b2u(l:List UInt8):List (List UInt8):=c1V (c4p l)
theorem c1t{a b:ByteArray}(h:a.data.toList=b.data.toList):a=b:=by
 cases a;cases b
 simp only[ByteArray.mk.injEq]
 exact Array.toList_inj.1 h
theorem a1l(s:ByteArray):s.data.toList.length=s.size:=by rw[Array.length_toList];rfl
theorem c4i(s:ByteArray)(k:Nat)(h:k<s.size):a0V s k=32↔s.data.toList[k]'(by rw[a1l];exact h)=32:=by
 have hl:k<s.data.toList.length:=by rw[a1l];exact h
 have e:a0V s k=((s.data.toList[k]).toNat:Int):=by
  unfold a0V
  rw[List.getD_eq_getElem?_getD,List.getElem?_eq_getElem hl]
  rfl
 rw[e]
 constructor
 ·intro e1
  apply UInt8.toNat_inj.1
  show (s.data.toList[k]).toNat=32
  omega
 ·intro k;rw[k];rfl
theorem c2G(s:ByteArray)(k:Nat)(h:k<s.size):(s.extract k (k+1)).data.toList=[s.data.toList[k]'(by rw[a1l];exact h)]:=by
 have hl:k<s.data.toList.length:=by rw[a1l];exact h
 rw[ByteArray.data_extract,Array.toList_extract,List.extract_eq_take_drop]
 rw[Nat.add_sub_cancel_left,List.drop_eq_getElem_cons hl]
 simp
theorem a4V(b:ByteArray):b.size=0↔b.data.toList=[]:=by
 rw[<- a1l];exact List.length_eq_zero_iff
theorem c0L(s:ByteArray):∀ k:Nat,k<=s.size->(s.data.toList.take k).foldl b1m ([],[])=((b7w s k).map (·.data.toList),(a8z s k).data.toList)
 |0,_=>by
  have h1:=b5J s 0
  have h2:=b7k s 0
  have e1:b7w s 0=[]:=List.length_eq_zero_iff.1 (by omega)
  have e2:(a8z s 0).data.toList=[]:=(a4V _).1 (by omega)
  simp[e1,e2]
 |k+1,h=>by
  have ih:=c0L s k (by omega)
  have hl:k<s.data.toList.length:=by rw[a1l];omega
  rw[List.take_succ_eq_append_getElem hl,List.foldl_append,ih]
  simp only[List.foldl_cons,List.foldl_nil]
  unfold b1m
  by_cases c:a0V s k=32
  ·rw[if_pos ((c4i s k (by omega)).1 c)]
   obtain⟨h1,h2⟩:=b3O s k (by omega) c
   rw[h1,h2]
   refine Prod.ext ?_ rfl
   show (if (a8z s k).data.toList=[] then _ else _)=_
   by_cases d:(a8z s k).size=0
   ·rw[if_pos ((a4V _).1 d),if_pos d,List.append_nil]
   ·rw[if_neg (fun e=>d ((a4V _).2 e)),if_neg d,List.map_append]
    rfl
  ·rw[if_neg (fun e=>c ((c4i s k (by omega)).2 e))]
   obtain⟨h1,h2⟩:=b7l s k c
   rw[h2,<- h1,a1X,c2G s k (by omega)]
theorem b7B(s:ByteArray):(a1v s).map (·.data.toList)=b2u s.data.toList:=by
 have h:=c0L s s.size (Nat.le_refl _)
 rw[List.take_of_length_le (by rw[a1l];exact Nat.le_refl _)] at h
 unfold b2u c4p c1V
 rw[h,b2t,List.map_append]
 by_cases d:(a8z s s.size).size=0
 ·rw[if_pos d,if_pos ((a4V _).1 d)];simp
 ·rw[if_neg d,if_neg (fun e=>d ((a4V _).2 e))];simp
theorem c1R{s:ByteArray}{ws:List ByteArray}(h:b2u s.data.toList=ws.map (·.data.toList)):a1v s=ws:=by
 rw[<- b7B] at h
 generalize a1v s=l at h
 induction l generalizing ws with
 |nil =>
  cases ws with
  |nil=>rfl
  |cons w ws=>simp at h
 |cons x l ih =>
  cases ws with
  |nil=>simp at h
  |cons w ws =>
   simp only[List.map_cons,List.cons.injEq] at h
   rw[c1t h.1,ih h.2]
def a3V(w:List UInt8):Bool:=!w.isEmpty && w.all fun c=>decide (c≠32)
theorem a8C{w:List UInt8}:a3V w=true↔w≠[]/\∀ c∈w,c≠32:=by
 unfold a3V
 rw[Bool.and_eq_true,List.all_eq_true]
 constructor
 ·rintro ⟨h1,h2⟩
  exact⟨fun e=>by simp[e] at h1,fun c hc=>by simpa using h2 c hc⟩
 ·rintro ⟨h1,h2⟩
  exact⟨by cases w <;> simp at h1 ⊢,fun c hc=>by simpa using h2 c hc⟩
theorem b3A{w:List UInt8}(h:∀ c∈w,c≠32):∀ x:List (List UInt8) × List UInt8,w.foldl b1m x=(x.1,x.2++w):=by
 induction w with
 |nil=>intro x;simp
 |cons c w ih =>
  intro x
  rw[List.foldl_cons]
  have:b1m x c=(x.1,x.2++[c]):=by unfold b1m;rw[if_neg (h c (by simp))]
  rw[this,ih (fun d hd=>h d (by simp[hd]))]
  simp
theorem b7S(x:List (List UInt8) × List UInt8):b1m x 32=(c1V x,[]):=by
 unfold b1m c1V;rw[if_pos rfl]
def jb:List (List UInt8)->List UInt8
 |[]=>[]
 |w :: r=>w++(match r with| []=>[]|_ :: _=>32 :: jb r)
theorem a6Q(w v:List UInt8)(r:List (List UInt8)):jb (w :: v :: r)=w++32 :: jb (v :: r):=rfl
theorem b3k(w:List UInt8):jb [w]=w:=by simp[jb]
theorem c0K:∀ (ws:List (List UInt8))(acc:List (List UInt8)),(∀ w∈ws,a3V w=true)->c1V ((jb ws).foldl b1m (acc,[]))=acc++ws
 |[],acc,_=>by simp[jb,c1V]
 |[w],acc,h=>by
  obtain⟨h1,h2⟩:=a8C.1 (h w (by simp))
  rw[b3k,b3A h2]
  simp[c1V,h1]
 |w :: v :: r,acc,h=>by
  obtain⟨h1,h2⟩:=a8C.1 (h w (by simp))
  rw[a6Q,List.foldl_append,b3A h2,List.foldl_cons,b7S]
  have e:c1V (acc,[]++w)=acc++[w]:=by simp[c1V,h1]
  rw[e,c0K (v :: r) (acc++[w]) (fun z hz=>h z (by simp at hz ⊢;exact .inr hz))]
  simp
theorem c1S{ws:List (List UInt8)}(h:∀ w∈ws,a3V w=true):b2u (jb ws)=ws:=by
 unfold b2u c4p
 rw[c0K ws [] h];simp
theorem a5p{s:ByteArray}{ws:List ByteArray}(hs:s.data.toList=jb (ws.map (·.data.toList)))(h:∀ w∈ws,a3V w.data.toList=true):a1v s=ws:=by
 apply c1R
 rw[hs]
 apply c1S
 intro w hw
 obtain⟨v,hv,rfl⟩:=List.mem_map.1 hw
 exact h v hv
end Go.Proofs.YtjfkfiffakbagaaGreatDoor.Txt
namespace Go.Proofs.YtjfkfiffakbagaaGreatDoor.Txt
open Go
theorem c4f(u:Nat)(h:u<10):dig (UInt8.ofNat (48+u))=true/\((UInt8.ofNat (48+u)).toNat:Int)=48+u:=by
 have e:(UInt8.ofNat (48+u)).toNat=48+u:=by rw[UInt8.toNat_ofNat'];omega
 refine⟨?_,by rw[e];omega⟩
 unfold dig
 rw[e]
 exact decide_eq_true (by omega)
theorem b7h(n:Nat):a6j (Lib.decDigits n)=true/\b4R (Lib.decDigits n)=n/\1<=(Lib.decDigits n).length:=by
 induction n using Nat.strongRecOn with
 |_ n ih =>
  by_cases c:n<10
  ·rw[c1f n c]
   obtain⟨h1,h2⟩:=c4f n c
   refine⟨by unfold a6j;rw[List.all_cons,h1];rfl,?_,by simp⟩
   unfold b4R
   simp only[List.foldl_cons,List.foldl_nil]
   omega
  ·rw[c5x n c]
   obtain⟨i1,i2,i3⟩:=ih (n / 10) (by omega)
   obtain⟨h1,h2⟩:=c4f (n % 10) (by omega)
   refine⟨?_,?_,by simp⟩
   ·unfold a6j at i1 ⊢
    rw[List.all_append,i1,List.all_cons,h1];rfl
   ·rw[b2Y,i2,h2];omega
theorem a9j(n:Int)(h:0<=n):(a0x n).data.toList=Lib.decDigits n.toNat:=by
 unfold a0x Lib.itoa
 rw[if_neg (by omega)]
theorem b6O{n:Int}(h0:0<=n)(h1:n<=9999999):isNum (a0x n).data.toList=true/\a2f (a0x n).data.toList=n:=by
 obtain⟨d1,d2,d3⟩:=b7h n.toNat
 have hl:=b5p 6 n.toNat (by omega)
 have e:isNum (a0x n).data.toList=true:=by
  rw[a9j n h0]
  unfold isNum
  rw[d1,decide_eq_true (by omega)];rfl
 refine⟨e,?_⟩
 unfold a2f
 rw[if_pos e,a9j n h0,d2];omega
theorem c1c{l:List UInt8}(h:a6j l=true)(hl:1<=l.length):a3V l=true:=by
 rw[a8C]
 refine⟨fun e=>by rw[e] at hl;simp at hl,fun c hc e=>?_⟩
 have:=List.all_eq_true.1 h c hc
 rw[e] at this
 exact absurd this (by decide)
theorem b3l{n:Int}(h:0<=n):a3V (a0x n).data.toList=true:=by
 obtain⟨d1,_,d3⟩:=b7h n.toNat
 rw[a9j n h]
 exact c1c d1 d3
end Go.Proofs.YtjfkfiffakbagaaGreatDoor.Txt
namespace Go.Proofs.YtjfkfiffakbagaaGreatDoor
open Go.RowKit
theorem a0G{x:Int}(h1:-9223372036854775808<=x)(h2:x<=9223372036854775807):IntKind.i64.wrap x=x:=by
 rw[IntKind.wrap_i64];omega
def a2s(c n:Int):Int:=(if c<0 then -(c+1) else c) % n
theorem a6G{c n:Int}(hn:1<=n):0<=a2s c n/\a2s c n<n:=⟨Int.emod_nonneg _ (by omega),Int.emod_lt_of_pos _ (by omega)⟩
theorem b9M(c n:Int)(w:World)(h1:-9223372036854775808<=c)(h2:c<=9223372036854775807)(hn:1<=n)(hn2:n<=1000000):
  Calls Tryz.prog 29 #[.int .i64 c,.int .i64 n] w fun e w'=>e=.returned (.int .i64 (a2s c n))/\w'=w:=by
 have hz:(n==0)=false:=by simp;omega
 have hb:=a6G (c:=c) hn
 by_cases h:c<0
 ·have k1:IntKind.i64.wrap (c+1)=c+1:=a0G (by omega) (by omega)
  have k2:IntKind.i64.wrap (-(c+1))=-(c+1):=a0G (by omega) (by omega)
  have e:(-(c+1)).tmod n=a2s c n:=by unfold a2s;rw[if_pos h];exact Int.tmod_eq_emod_of_nonneg (by omega)
  have k3:IntKind.i64.wrap (a2s c n)=a2s c n:=a0i (by omega) (by omega)
  generalize a2s c n=v at *
  go_enter Tryz.func29,Tryz.ntmps29
  go_wp2_with fail
  go_ret
  simp_all
 ·have e:c.tmod n=a2s c n:=by unfold a2s;rw[if_neg h];exact Int.tmod_eq_emod_of_nonneg (by omega)
  have k3:IntKind.i64.wrap (a2s c n)=a2s c n:=a0i (by omega) (by omega)
  generalize a2s c n=v at *
  go_enter Tryz.func29,Tryz.ntmps29
  go_wp2_with fail
  go_ret
  simp_all
theorem a6O(n:Int)(w:World)(he:Env w)(h0:-9223372036854775808<=n)(h1:n<=9223372036854775807):
  Calls Tryz.prog 21 #[.int .i64 n] w fun e w'=>e=.returned (.string (Txt.a0x n))/\Below w.heap.size w w':=by
 have IT:=a0b (c2Y n w he h0 h1)
 clear he
 go_enter Tryz.func21,Tryz.ntmps21
 go_wp2_with (first
  |(go_at_call 44;refine IT.out.mono ?_;rintro e w1 ⟨rfl,hb⟩))
 go_ret
 exact⟨rfl,hb⟩
def f5c(n:Int):ByteArray:=if n<10 then (⟨#[48]⟩:ByteArray)++Txt.a0x n else Txt.a0x n
theorem f6t(n:Int)(w:World)(he:Env w)(h0:0<=n)(h1:n<=1000):
  Calls Tryz.prog 32 #[.int .i64 n] w fun e w'=>e=.returned (.string (f5c n))/\Below w.heap.size w w':=by
 have IT:=a0b (a6O n w he (by omega) (by omega))
 have hz:=Txt.a0I n h0 (by omega)
 clear he
 by_cases h:n<10
 ·have e:f5c n=(⟨#[48]⟩:ByteArray)++Txt.a0x n:=by unfold f5c;rw[if_pos h]
  rw[e]
  generalize Txt.a0x n=t at *
  go_enter Tryz.func32,Tryz.ntmps32
  go_wp2_with (first
   |(go_at_call 21;refine IT.out.mono ?_;rintro e w1 ⟨rfl,hb⟩))
  go_ret
  exact⟨rfl,hb⟩
 ·have e:f5c n=Txt.a0x n:=by unfold f5c;rw[if_neg h]
  rw[e]
  generalize Txt.a0x n=t at *
  go_enter Tryz.func32,Tryz.ntmps32
  go_wp2_with (first
   |(go_at_call 21;refine IT.out.mono ?_;rintro e w1 ⟨rfl,hb⟩))
  go_ret
  exact⟨rfl,hb⟩
theorem f1K(l m:List Int)(u v:Value)(B C:Nat)(w:World)(hu:w.ownsRow B 3 1 u l.length (l.map (Value.int .i64)))(hv:w.ownsRow C 3 1 v m.length (m.map (Value.int .i64)))(hl:l.length<=1000000):
  Calls Tryz.prog 34 #[u,v] w fun e w'=>e=.returned (.bool (decide (l=m)))/\Below w.heap.size w w':=by
 obtain⟨a,ca,rfl⟩:=b1C hu
 obtain⟨b,cb,rfl⟩:=b1C hv
 have HU:=a0b hu
 have HV:=a0b hv
 clear hu hv
 by_cases hlen:l.length=m.length
 ·have hb:((l.length:Int) != (m.length:Int))=false:=by simp[hlen]
  go_enter Tryz.func34,Tryz.ntmps34
  go_wp2_with fail
  go_loopw [5] (fun v wr=>∃ k:Nat,k<=l.length/\v=.int .i64 k/\l.take k=m.take k/\Below w.heap.size w wr) (fun v _=>l.length-(intOf v).toNat)
  case atStart=>exact⟨0,Nat.zero_le _,rfl,rfl,Below.refl _ _⟩
  case round =>
   obtain⟨k,hk,rfl,hpre,hbl⟩:=hrel
   by_cases hlt:k<l.length
   ·have hlt':(k:Int)<(l.length:Int):=by omega
    have hmt':(k:Int)<(m.length:Int):=by omega
    have ru:=c6T HU.out hbl
    have rv:=c6T HV.out hbl
    obtain⟨Ha,ca',e1⟩:=Joins.ownsRow_form ru (by omega)
    simp only[Value.slice.injEq,true_and] at e1
    obtain⟨rfl,rfl⟩:=e1
    obtain⟨Hb,cb',e2⟩:=Joins.ownsRow_form rv (by omega)
    simp only[Value.slice.injEq,true_and] at e2
    obtain⟨rfl,rfl⟩:=e2
    have a0:=ru.cellAt k (by omega)
    have b0:=rv.cellAt k (by omega)
    rw[List.getElem?_map,List.getElem?_eq_getElem hlt,Option.map_some] at a0
    rw[List.getElem?_map,List.getElem?_eq_getElem (show k<m.length by omega),Option.map_some] at b0
    have HP:=a0b hpre
    have HB:=a0b hbl
    by_cases hx:l[k]=m[k]
    ·have hxb:(l[k] != m[k])=false:=by simp[hx]
     have HN:Hid (l.take (k+1)=m.take (k+1)):=by
      show l.take (k+1)=m.take (k+1)
      rw[List.take_succ_eq_append_getElem hlt,List.take_succ_eq_append_getElem (show k<m.length by omega),hpre,hx]
     generalize l[k]=x at *
     generalize m[k]=y at *
     clear ru rv hpre hbl hx
     go_upto_region 6 with fail
     go_region
     all_goals
      go_wp2_with fail
      go_roundw
      case rel=>exact⟨k+1,by omega,by go_num,HN.out,HB.out.drew⟩
      case measure=>simp[intOf];omega
    ·have hxb:(l[k] != m[k])=true:=by simp[hx]
     have HE:Hid (decide (l=m)=false):=by
      show decide (l=m)=false
      simp only[decide_eq_false_iff_not]
      intro h
      apply hx
      simp only[h]
     generalize l[k]=x at *
     generalize m[k]=y at *
     clear ru rv hpre hbl hx
     go_upto_region 6 with fail
     go_region
     all_goals
      go_wp2_with fail
      go_ret
      exact⟨by rw[HE.out];rfl,HB.out.drew⟩
   ·have hlt':¬ (k:Int)<(l.length:Int):=by omega
    have HE:Hid (decide (l=m)=true):=by
     show decide (l=m)=true
     simp only[decide_eq_true_eq]
     have hk':k=l.length:=by omega
     rw[hk',List.take_length,hlen,List.take_length] at hpre
     exact hpre
    have HB:=a0b hbl
    clear hbl hpre
    go_wp2_with fail
    go_ret
    exact⟨by rw[HE.out];rfl,HB.out⟩
 ·have hb:((l.length:Int) != (m.length:Int))=true:=by simp;omega
  have e:decide (l=m)=false:=by simp;intro h;exact hlen (by rw[h])
  rw[e]
  go_enter Tryz.func34,Tryz.ntmps34
  go_wp2_with fail
  go_ret
  exact⟨rfl,Below.refl _ _⟩
structure c7h(w:World)(F:Nat)(s:ByteArray)(a:Nat):Prop where
 b:w.heap[F]?=some (.cells #[.string s,.int .i64 (a:Int)] 47 (0,0))
 le:a<=s.size
 sz:s.size<=9223372036854775807
structure FW(w0:World)(F:Nat)(s:ByteArray)(w:World):Prop where
 fd:∃ a,c7h w F s a
 env:Env w
 off:Off [F] w0 w
 ten:10<=F
theorem FW.lt{w0 w:World}{F:Nat}{s:ByteArray}(h:FW w0 F s w):F<w.heap.size:=by
 obtain⟨a,h⟩:=h.fd
 exact (Array.getElem?_eq_some_iff.1 h.b).1
theorem b9Z{F:Nat}{w w':World}(k:Off [F] w w')(hF:10<=F)(hs:10<=w.heap.size):Below 10 w w' :=
 ⟨k.os,k.tape,k.output,k.size,fun b hb=>k.block b (by omega) (by simp;omega)⟩
theorem FW.later{w0 w w':World}{F:Nat}{s:ByteArray}(h:FW w0 F s w)(k:Below w.heap.size w w'):FW w0 F s w':=by
 obtain⟨a,fd⟩:=h.fd
 exact⟨⟨a,(k.block F h.lt).trans fd.b,fd.le,fd.sz⟩,h.env.later k,h.off.trans (Off.of_below k),h.ten⟩
theorem FW.drew{w0 w:World}{F:Nat}{s:ByteArray}(h:FW w0 F s w):FW w0 F s w.drew:=h.later (a0q w)
theorem FW.alloc{w0 w:World}{F:Nat}{s:ByteArray}(h:FW w0 F s w)(o:Obj):FW w0 F s (w.alloc o):=h.later ((Below.refl w.heap.size w).alloc (Nat.le_refl _) o)
theorem FW.set{w0 w:World}{F:Nat}{s:ByteArray}(h:FW w0 F s w){R:Nat}(hR:w0.heap.size<=R)(hF:R≠F)(h10:10<=R)(o:Nat)(v:Value):FW w0 F s (w.setCell ⟨R,o,none⟩ v):=by
 obtain⟨a,fd⟩:=h.fd
 have k:=Off.set0 R w o v
 exact⟨⟨a,(k.block F h.lt (by simp;exact fun e=>hF e.symm)).trans fd.b,fd.le,fd.sz⟩,h.env.ten (b9Z k h10 h.env.size),h.off.setCell (.inr hR) o v,h.ten⟩
theorem a2A{W:World}{b i:Nat}{cs:Array Value}{t:TypeId}{q:Nat × Nat}(h:W.heap[b]?=some (.cells cs t q))(v:Value):(W.setCell ⟨b,i,none⟩ v).heap[b]?=some (.cells (cs.setIfInBounds i v) t q):=by
 obtain⟨hlt,hk⟩:=Array.getElem?_eq_some_iff.1 h
 show (W.heap.modify b _)[b]?=_
 rw[Array.getElem?_eq_getElem (by rw[Array.size_modify];exact hlt),Array.getElem_modify_self,hk]
 rfl
theorem b0q{w:World}{F:Nat}{x y:Value}{t:TypeId}(h:w.heap[F]?=some (.cells #[x,y] t (0,0))):w.cell? ⟨F,0,none⟩=some x/\w.cell? ⟨F,1,none⟩=some y/\∀ o,w.frozen? ⟨F,o,none⟩=false:=by
 refine⟨?_,?_,fun o=>frozen_of_row _ F o _ _ h⟩ <;> (simp only[World.cell?,h];rfl)
theorem b1X{w:World}{F:Nat}{x y z u:Value}{t:TypeId}(h:w.heap[F]?=some (.cells #[x,y,z,u] t (0,0))):w.cell? ⟨F,0,none⟩=some x/\w.cell? ⟨F,1,none⟩=some y/\w.cell? ⟨F,2,none⟩=some z/\w.cell? ⟨F,3,none⟩=some u/\∀ o,w.frozen? ⟨F,o,none⟩=false:=by
 refine⟨?_,?_,?_,?_,fun o=>frozen_of_row _ F o _ _ h⟩ <;> (simp only[World.cell?,h];rfl)
theorem a1h{w0 w:World}{F:Nat}{s:ByteArray}(h:FW w0 F s w)(n:Int)(h1:1<=n)(h2:n<=1000):
  Calls Tryz.prog 25 #[.pointer (some ⟨F,0,none⟩),.int .i64 n] w fun e w'=>∃ v,e=.returned (.int .i64 v)/\0<=v/\v<n/\FW w0 F s w':=by
 obtain⟨a,fd⟩:=h.fd
 obtain⟨c0,c1,fz⟩:=b0q fd.b
 have hle:=fd.le
 have hsz:=fd.sz
 have HF:=a0b h
 have HD:=a0b fd
 have hz:(n==0)=false:=by simp;omega
 clear h fd
 by_cases hlt:a<s.size
 ·have hlt':¬ (s.size:Int)<=(a:Int):=by omega
  have k1:IntKind.i64.wrap ((a:Int)+1)=((a+1:Nat):Int):=by rw[a0G (by omega) (by omega)];omega
  have hb:s[a].toNat<256:=s[a].toNat_lt
  have k2:IntKind.i64.wrap (s[a].toNat:Int)=(s[a].toNat:Int):=a0G (by omega) (by omega)
  have k3:(s[a].toNat:Int).tmod n=(s[a].toNat:Int) % n:=Int.tmod_eq_emod_of_nonneg (by omega)
  have b1:0<=(s[a].toNat:Int) % n:=Int.emod_nonneg _ (by omega)
  have b2:(s[a].toNat:Int) % n<n:=Int.emod_lt_of_pos _ (by omega)
  have k4:IntKind.i64.wrap ((s[a].toNat:Int) % n)=(s[a].toNat:Int) % n:=a0G (by omega) (by omega)
  have HW:Hid (FW w0 F s (w.drew.drew.setCell ⟨F,1,none⟩ (.int .i64 ((a+1:Nat):Int)))):=by
   have k:=Off.set0 F w.drew.drew 1 (.int .i64 ((a+1:Nat):Int))
   have h2:=HF.out.drew.drew
   exact⟨⟨a+1,a2A (W:=w.drew.drew) HD.out.b _,hlt,hsz⟩,h2.env.ten (b9Z k h2.ten h2.env.size),h2.off.setCell (.inl (by simp)) _ _,h2.ten⟩
  go_enter Tryz.func25,Tryz.ntmps25
  go_upto_region 1 with fail
  go_big_region
  go_upto_region 3 with fail
  go_big_region
  go_wp2_with fail
  go_ret
  exact⟨_,rfl,b1,b2,HW.out⟩
 ·have hlt':(s.size:Int)<=(a:Int):=by omega
  go_enter Tryz.func25,Tryz.ntmps25
  go_upto_region 1 with fail
  go_big_region
  go_wp2_with fail
  go_ret
  exact⟨0,rfl,by omega,by omega,HF.out.drew⟩
theorem a3L{w0 w:World}{F:Nat}{s:ByteArray}(h:FW w0 F s w)(n:Int)(h0:-9223372036854775808<=n)(h1:n<=9223372036854775807):
  Calls Tryz.prog 21 #[.int .i64 n] w fun e w'=>e=.returned (.string (Txt.a0x n))/\FW w0 F s w' :=
 (a6O n w h.env h0 h1).mono fun _ _ k=>⟨k.1,h.later k.2⟩
def b1O(late:Bool):ByteArray:=if late then ⟨#[50,48,50,53,45,49,50,45]⟩ else ⟨#[50,48,50,52,45,48,49,45]⟩
def b8V(n:Int):ByteArray:=if (Txt.a0x n).size<2 then (⟨#[48]⟩:ByteArray)++Txt.a0x n else Txt.a0x n
theorem b2V{n:Int}(h0:0<=n)(h1:n<=9999999):(b8V n).size<=7:=by
 have:=Txt.a0I n h0 h1
 unfold b8V
 split
 ·rw[ByteArray.size_append];show 1+_<=7;omega
 ·omega
theorem b3j{w0 w:World}{F:Nat}{s:ByteArray}(h:FW w0 F s w)(n:Int)(late:Bool)(h0:0<=n)(h1:n<=1000):
  Calls Tryz.prog 70 #[.int .i64 n,.bool late] w fun e w'=>e=.returned (.string (b1O late++b8V (1+n)))/\FW w0 F s w':=by
 have NU:=a0b (a3L h (1+n) (by omega) (by omega))
 have hz:=Txt.a0I (1+n) (by omega) (by omega)
 have k1:IntKind.i64.wrap (1+n)=1+n:=a0G (by omega) (by omega)
 clear h
 by_cases hs:(Txt.a0x (1+n)).size<2
 ·have e:b8V (1+n)=(⟨#[48]⟩:ByteArray)++Txt.a0x (1+n):=by unfold b8V;rw[if_pos hs]
  have hs':((Txt.a0x (1+n)).size:Int)<2:=by omega
  rw[e]
  generalize Txt.a0x (1+n)=t at *
  cases late
  all_goals
   unfold b1O
   go_enter Tryz.func70,Tryz.ntmps70
   go_wp2_with (first
    |(go_at_call 21;refine NU.out.mono ?_;rintro e w1 ⟨rfl,hb⟩))
   go_ret
   exact⟨rfl,hb⟩
 ·have e:b8V (1+n)=Txt.a0x (1+n):=by unfold b8V;rw[if_neg hs]
  have hs':¬ ((Txt.a0x (1+n)).size:Int)<2:=by omega
  rw[e]
  generalize Txt.a0x (1+n)=t at *
  cases late
  all_goals
   unfold b1O
   go_enter Tryz.func70,Tryz.ntmps70
   go_wp2_with (first
    |(go_at_call 21;refine NU.out.mono ?_;rintro e w1 ⟨rfl,hb⟩))
   go_ret
   exact⟨rfl,hb⟩
def c5B(nm:ByteArray)(u fr til:Int):ByteArray:=(((((nm++(⟨#[32]⟩:ByteArray))++Txt.a0x u)++(⟨#[32]⟩:ByteArray))++Txt.a0x fr)++(⟨#[32]⟩:ByteArray))++Txt.a0x til
theorem b3U{nm:ByteArray}{u fr til:Int}(hn:nm.size<=10)(hu:0<=u/\u<=9999999)(hf:0<=fr/\fr<=9999999)(ht:0<=til/\til<=9999999):(c5B nm u fr til).size<=40:=by
 have z1:=Txt.a0I u hu.1 hu.2
 have z2:=Txt.a0I fr hf.1 hf.2
 have z3:=Txt.a0I til ht.1 ht.2
 unfold c5B
 simp only[ByteArray.size_append]
 show nm.size+1+_+1+_+1+_<=40
 omega
def a1P(nm:ByteArray)(u fr til:Int):Obj:=.cells #[.string nm,.int .i64 u,.int .i64 fr,.int .i64 til] 49 (0,0)
theorem b5S(w:World)(he:Env w)(nm:ByteArray)(u fr til:Int)(hn:nm.size<=10)(hu:0<=u/\u<=9999999)(hf:0<=fr/\fr<=9999999)(ht:0<=til/\til<=9999999):
  Calls Tryz.prog 27 #[.agg #[.string nm,.int .i64 u,.int .i64 fr,.int .i64 til]] w fun e w'=>e=.returned (.string (c5B nm u fr til))/\Below w.heap.size w w':=by
 have z1:=Txt.a0I u hu.1 hu.2
 have z2:=Txt.a0I fr hf.1 hf.2
 have z3:=Txt.a0I til ht.1 ht.2
 have hX:Below w.heap.size w (w.alloc (a1P nm u fr til)).drew:=((Below.refl _ _).alloc (Nat.le_refl _) _).drew
 have hq:(w.alloc (a1P nm u fr til)).drew.heap[w.heap.size]?=some (a1P nm u fr til):=a0p w _
 have NU:Hid (∀ W n,Below w.heap.size w W->0<=n/\n<=9999999->Calls Tryz.prog 21 #[.int .i64 n] W fun e w'=>e=.returned (.string (Txt.a0x n))/\Below W.heap.size W w'):=fun W n hW hn=>a6O n W (he.later hW) (by omega) (by omega)
 have AC:Hid (∀ W,Below (w.alloc (a1P nm u fr til)).drew.heap.size (w.alloc (a1P nm u fr til)).drew W->W.cell? ⟨w.heap.size,0,none⟩=some (.string nm)/\W.cell? ⟨w.heap.size,1,none⟩=some (.int .i64 u)/\W.cell? ⟨w.heap.size,2,none⟩=some (.int .i64 fr)/\W.cell? ⟨w.heap.size,3,none⟩=some (.int .i64 til)):=fun W hW=>by
  have:=(hW.block w.heap.size (Array.getElem?_eq_some_iff.1 hq).1).trans hq
  unfold a1P at this
  obtain⟨a0,a1,a2,a3,_⟩:=b1X this
  exact⟨a0,a1,a2,a3⟩
 have HX:=a0b hX
 clear hX hq he
 have c0:=AC.out _ (Below.refl _ _)
 obtain⟨c0,c1,c2,c3⟩:=c0
 have sz0:¬ (9223372036854775807<nm.size+1):=by omega
 have sz1:¬ (9223372036854775807<nm.size+1+(Txt.a0x u).size):=by omega
 have sz2:¬ (9223372036854775807<nm.size+1+(Txt.a0x u).size+1):=by omega
 have sz3:¬ (9223372036854775807<nm.size+1+(Txt.a0x u).size+1+(Txt.a0x fr).size):=by omega
 have sz4:¬ (9223372036854775807<nm.size+1+(Txt.a0x u).size+1+(Txt.a0x fr).size+1):=by omega
 have sz5:¬ (9223372036854775807<nm.size+1+(Txt.a0x u).size+1+(Txt.a0x fr).size+1+(Txt.a0x til).size):=by omega
 have HU:=a0b hu
 have HT:=a0b ht
 have HR:=a0b hf
 clear hu ht hf z1 z2 z3 hn
 go_enter Tryz.func27,Tryz.ntmps27
 go_upto_region 1 with fail
 change Code.wp _ _ _ _ (w.alloc (a1P nm u fr til))
 generalize w.alloc (a1P nm u fr til)=X at *
 go_region_held3 (fun w'=>w'.cell? ⟨w.heap.size,0,none⟩=some (.string nm)/\w'.cell? ⟨w.heap.size,1,none⟩=some (.int .i64 u)/\w'.cell? ⟨w.heap.size,2,none⟩=some (.int .i64 fr)/\w'.cell? ⟨w.heap.size,3,none⟩=some (.int .i64 til))
  (first
   |with_reducible exact AC.out _ HB3.out
   |with_reducible exact AC.out _ HB2.out
   |with_reducible exact AC.out _ HB1.out
   |exact⟨c0,c1,c2,c3⟩)
  (first
   |(go_at_call 21;refine (NU.out _ til (HX.out.trans (HB2.out.mono HX.out.size)) HT.out).mono ?_;rintro e w3 ⟨rfl,hb3⟩;have HB3:=a0b (a0j HB2.out hb3 (Nat.le_refl _));clear hb3)
   |(go_at_call 21;refine (NU.out _ fr (HX.out.trans (HB1.out.mono HX.out.size)) HR.out).mono ?_;rintro e w2 ⟨rfl,hb2⟩;have HB2:=a0b (a0j HB1.out hb2 (Nat.le_refl _));clear hb2)
   |(go_at_call 21;refine (NU.out _ u HX.out HU.out).mono ?_;rintro e w1 ⟨rfl,hb1⟩;have HB1:=a0b hb1;clear hb1))
 have HF:Hid (Below w.heap.size w w3):=HX.out.trans (HB3.out.mono HX.out.size)
 clear AC NU HB1 HB2 HB3
 go_wp2_with fail
 go_ret
 exact⟨rfl,HF.out⟩
open Desk (Ent St Ids kept a0C a0Q a1C a2e ofB a0y a2c Mid a1H a0z Inv)
def Reads(t:ByteArray)(v:Value):Prop:=∀ e,a7T t e->e=.returned (.tuple #[v,.int .i64 0,.int .i64 0])
theorem a5G{t:ByteArray}{ws:List ByteArray}{v:Value}{n:Nat}(hw:Txt.a1v t=ws)(hs:t.size<=160)(hl:a2H ws v (n,false))(hn:n=ws.length):Reads t v:=fun e he=>by
 subst hw
 exact a8v he (.e6J hs v (n,false) hl rfl (by simp[a1b,hn]))
theorem c5P{n:Int}(h0:1<=n)(h1:n<=9):unB (Txt.a0x n)=true/\nvF (Txt.a0x n)=n/\Txt.a3V (Txt.a0x n).data.toList=true:=by
 obtain⟨a,b⟩:=Txt.b6O (n:=n) (by omega) (by omega)
 refine⟨?_,b,Txt.b3l (by omega)⟩
 unfold unB a0K
 rw[a,b];simp[h0,h1]
theorem f5w{n:Int}(h0:1<=n)(h1:n<=1048320):miB (Txt.a0x n)=true/\nvF (Txt.a0x n)=n/\Txt.a3V (Txt.a0x n).data.toList=true:=by
 obtain⟨a,b⟩:=Txt.b6O (n:=n) (by omega) (by omega)
 refine⟨?_,b,Txt.b3l (by omega)⟩
 unfold miB a0K
 rw[a,b];simp[h0,h1]
theorem f6A{n:Int}(h0:0<=n)(h1:n<=9999999):idB (Txt.a0x n)=true/\nvF (Txt.a0x n)=n/\Txt.a3V (Txt.a0x n).data.toList=true:=by
 obtain⟨a,b⟩:=Txt.b6O (n:=n) (by omega) (by omega)
 exact⟨a,b,Txt.b3l (by omega)⟩
theorem b1q{n:Int}(h0:0<=n)(h1:n<=1048320):a0n (Txt.a0x n)=true/\a1J (Txt.a0x n)=n/\Txt.a3V (Txt.a0x n).data.toList=true:=by
 obtain⟨a,b⟩:=Txt.b6O (n:=n) (by omega) (by omega)
 have v:a8J (Txt.a0x n)=n:=by unfold a8J;rw[a,b];rfl
 have t:a0n (Txt.a0x n)=true:=by unfold a0n;rw[a,v];simp[h0,h1]
 exact⟨t,by unfold a1J;rw[t,v];rfl,Txt.b3l (by omega)⟩
structure Nm(nm:ByteArray):Prop where
 b:nmB nm=true
 w:Txt.a3V nm.data.toList=true
 s:nm.size=1
theorem c7k:Nm ⟨#[97]⟩:=⟨by decide +kernel,by decide +kernel,by decide +kernel⟩
theorem c7j:Nm ⟨#[98]⟩:=⟨by decide +kernel,by decide +kernel,by decide +kernel⟩
theorem a8A{ws:List ByteArray}{n:Nat}{x:ByteArray}(h:ws[n]?=some x)(hB:nmB x=true):a2F ws (n,false)=x:=by
 obtain⟨y,hy,e⟩:=a2Q (ws:=ws) (st:=(n,false)) (by rw[(takes h hB).1])
 have hn:n<ws.length:=(List.getElem?_eq_some_iff.1 h).1
 have hg:ws.getD n ByteArray.empty=x:=by rw[List.getD_eq_getElem?_getD,h];rfl
 have t:tkB ws n false (fun s=>Txt.a1j s.data.toList)=true:=by
  unfold tkB
  rw[hg]
  have:Txt.a1j x.data.toList=true:=hB
  simp[a1b,hn,this]
 unfold a2F tkS
 rw[t,hg]
 exact if_pos hB
theorem a8t:Txt.a3V a3F.data.toList=true/\Txt.a3V a9P.data.toList=true/\Txt.a3V b5f.data.toList=true/\Txt.a3V b4k.data.toList=true/\Txt.a3V a6m.data.toList=true/\Txt.a3V a4z.data.toList=true/\Txt.a3V a5Q.data.toList=true/\Txt.a3V a9a.data.toList=true/\Txt.a3V b5h.data.toList=true/\Txt.a3V b4n.data.toList=true:=by decide +kernel
theorem a8K{t nm:ByteArray}{u:Int}(hn:Nm nm)(hu:1<=u/\u<=9)(ht:t.data.toList=a3F.data.toList++32 :: (nm.data.toList++32 :: (Txt.a0x u).data.toList)):
  Reads t (.iface 143 (.agg #[.string nm,.int .i64 u])):=by
 obtain⟨u1,u2,u3⟩:=c5P hu.1 hu.2
 have hw:Txt.a1v t=[a3F,nm,Txt.a0x u]:=by
  refine Txt.a5p ?_ ?_
  ·rw[ht];simp only[List.map_cons,List.map_nil,Txt.a6Q,Txt.b3k]
  ·intro x hx
   simp only[List.mem_cons,List.not_mem_nil,or_false] at hx
   rcases hx with rfl|rfl|rfl
   ·exact a8t.1
   ·exact hn.w
   ·exact u3
 have hs:t.size<=160:=by
  have a:=Txt.a0I u (by omega) (by omega)
  rw[<- Txt.a1l] at a ⊢
  rw[ht]
  have:=hn.s
  rw[<- Txt.a1l] at this
  simp only[List.length_append,List.length_cons]
  have:a3F.data.toList.length=5:=rfl
  omega
 have t1:=takes (ws:=[a3F,nm,Txt.a0x u]) (n:=1) (x:=nm) (B:=nmB) rfl hn.b
 have t2:=takes (ws:=[a3F,nm,Txt.a0x u]) (n:=2) (x:=Txt.a0x u) (B:=unB) rfl u1
 have h:=a2H.a0k (ws:=[a3F,nm,Txt.a0x u]) (b1P rfl)
 simp only[a4T,a6y,t1.1,t2.1,t2.2,a8A (ws:=[a3F,nm,Txt.a0x u]) (n:=1) rfl hn.b,u2] at h
 exact a5G hw hs h rfl
theorem b8g{t nm:ByteArray}(hn:Nm nm)(ht:t.data.toList=a5Q.data.toList++32 :: nm.data.toList):
  Reads t (.iface 164 (.agg #[.string nm,.bool false,.int .i64 0,.int .i64 0])):=by
 have hw:Txt.a1v t=[a5Q,nm]:=by
  refine Txt.a5p ?_ ?_
  ·rw[ht];simp only[List.map_cons,List.map_nil,Txt.a6Q,Txt.b3k]
  ·intro x hx
   simp only[List.mem_cons,List.not_mem_nil,or_false] at hx
   rcases hx with rfl|rfl
   ·exact a8t.2.2.2.2.2.2.1
   ·exact hn.w
 have hs:t.size<=160:=by
  rw[<- Txt.a1l]
  rw[ht]
  have:=hn.s
  rw[<- Txt.a1l] at this
  simp only[List.length_append,List.length_cons]
  have:a5Q.data.toList.length=4:=rfl
  omega
 have t1:=takes (ws:=[a5Q,nm]) (n:=1) (x:=nm) (B:=nmB) rfl hn.b
 have h:=a2H.list0 (ws:=[a5Q,nm]) (b1P rfl) (by simp only[a4T,a6y,t1.1];rfl)
 simp only[a4T,a6y,t1.1,a8A (ws:=[a5Q,nm]) (n:=1) rfl hn.b] at h
 exact a5G hw hs h rfl
namespace Desk
def a2J(t:Int):List Ent->Int
 |[]=>0
 |e :: r=>a0r e.a0e t*e.a0c+a2J t r
theorem b4y(t:Int)(l r:List Ent):a2J t (l++r)=a2J t l+a2J t r:=by
 induction l with
 |nil=>simp[a2J]
 |cons e l ih=>simp only[List.cons_append,a2J,ih];omega
theorem b9o{t:Int}{l r:List Ent}(h:l.Perm r):a2J t l=a2J t r:=by
 induction h with
 |nil=>rfl
 |cons x _ ih=>simp only[a2J,ih]
 |swap x y l=>simp only[a2J];omega
 |trans _ _ i j=>exact i.trans j
theorem b3t{a b:Int}{x:Ent}:∀ l:List Ent,(c0F a b x l).Perm (x :: l)
 |[]=>by simp[c0F]
 |y :: r=>by
  simp only[c0F]
  split
  ·exact List.Perm.refl _
  ·exact ((b3t r).cons y).trans (List.Perm.swap x y r)
theorem a3Y{a b:Int}:∀ l:List Ent,(b2J a b l).Perm l
 |[]=>List.Perm.refl _
 |x :: r=>(b3t _).trans ((a3Y r).cons x)
theorem b6e{name:ByteArray}{now:Int}{e:Ent}(h:a1H now e):b7U name 0 1048320 e=ofB name e:=by
 unfold b7U
 have:0<=a2E 0 1048320 e.a0e:=(a7J h.ri (fun s hs=>(h.sp s hs).1)).2 (by
  obtain⟨s,hs⟩:=List.exists_mem_of_ne_nil _ h.s0
  have:=h.sp s hs
  exact⟨s,hs,by simp[a8l];omega⟩)
 simp[this]
theorem a8P{name:ByteArray}{t:Int}:∀ es:List Ent,a2J t (es.filter (ofB name))=a0o name t es
 |[]=>rfl
 |e :: r=>by
  have ih:=a8P (name:=name) (t:=t) r
  rw[List.filter_cons]
  simp only[a0o]
  by_cases c:ofB name e=true
  ·rw[if_pos c,if_pos c];simp only[a2J,ih]
  ·rw[if_neg c,if_neg c,ih];omega
theorem b9p{s:St}(h:Inv s)(name:ByteArray)(t:Int):a2J t (a2x name 0 1048320 s.es)=a0o name t s.es:=by
 unfold a2x
 rw[b9o (a3Y _)]
 have:s.es.filter (b7U name 0 1048320)=s.es.filter (ofB name):=List.filter_congr (fun e he=>b6e (h.en e he))
 rw[this,a8P]
def a1D:List Ent->List Int
 |[]=>[]
 |e :: r=>e.a0e.map (·.1)++a1D r
def a1w(l:List Ent)(a b m x:Int):Int:=if a<x/\x<b/\m<a2J x l then a2J x l else m
def b0g(l:List Ent)(a b:Int):Int:=(a1D l).foldl (a1w l a b) (a2J a l)
theorem b0B{l:List Ent}{a b:Int}:∀ (xs:List Int)(m:Int),
  m<=xs.foldl (a1w l a b) m/\(∀ x∈xs,a<x->x<b->a2J x l<=xs.foldl (a1w l a b) m)/\(xs.foldl (a1w l a b) m=m\/∃ x∈xs,a<x/\x<b/\xs.foldl (a1w l a b) m=a2J x l)
 |[],m=>⟨Int.le_refl _,by simp,.inl rfl⟩
 |x :: xs,m=>by
  obtain⟨h1,h2,h3⟩:=b0B (l:=l) (a:=a) (b:=b) xs (a1w l a b m x)
  simp only[List.foldl_cons]
  generalize xs.foldl (a1w l a b) (a1w l a b m x)=R at h1 h2 h3 ⊢
  have hs:(a1w l a b m x=m/\¬ (a<x/\x<b/\m<a2J x l))\/(a1w l a b m x=a2J x l/\a<x/\x<b/\m<a2J x l):=by
   unfold a1w
   by_cases c:a<x/\x<b/\m<a2J x l
   ·rw[if_pos c];exact .inr ⟨rfl,c⟩
   ·rw[if_neg c];exact .inl ⟨rfl,c⟩
  rcases hs with ⟨e,c⟩|⟨e,c⟩
  ·rw[e] at h1 h3
   refine⟨h1,fun y hy k1 k2=>?_,?_⟩
   ·rcases List.mem_cons.1 hy with rfl|hy
    ·omega
    ·exact h2 y hy k1 k2
   ·rcases h3 with h3|⟨y,hy,k⟩
    ·exact .inl h3
    ·exact .inr ⟨y,by simp[hy],k⟩
  ·rw[e] at h1 h3
   refine⟨by omega,fun y hy k1 k2=>?_,?_⟩
   ·rcases List.mem_cons.1 hy with rfl|hy
    ·omega
    ·exact h2 y hy k1 k2
   ·rcases h3 with h3|⟨y,hy,k⟩
    ·exact .inr ⟨x,by simp,c.1,c.2.1,h3⟩
    ·exact .inr ⟨y,by simp[hy],k⟩
theorem b2F{x y:Int}(hyx:y<=x):∀ {l:List Ent},Pos l->(∀ s∈a1D l,s<=x->s<=y)->a2J x l<=a2J y l
 |[],_,_=>Int.le_refl _
 |e :: r,hp,h=>by
  have ih:=b2F hyx (l:=r) (fun z hz=>hp z (by simp[hz])) (fun s hs=>h s (by simp[a1D,hs]))
  have hm:a0r e.a0e x<=a0r e.a0e y:=a5Y hyx (fun s hs' hx=>h s.1 (by simp[a1D];exact .inl ⟨s.2,hs'⟩) hx)
  have:a0r e.a0e x*e.a0c<=a0r e.a0e y*e.a0c:=Int.mul_le_mul_of_nonneg_right hm (hp e (by simp))
  simp only[a2J]
  omega
theorem c2E{l:List Ent}{a b:Int}(hp:Pos l)(h:a<b):a9W (fun x=>a2J x l) a b (b0g l a b):=by
 obtain⟨h1,h2,h3⟩:=b0B (l:=l) (a:=a) (b:=b) (a1D l) (a2J a l)
 unfold b0g
 generalize (a1D l).foldl (a1w l a b) (a2J a l)=R at h1 h2 h3 ⊢
 refine⟨fun x k1 k2=>?_,?_⟩
 ·obtain⟨i1,i2,i3,i4⟩:=a6N a x k1 (a1D l)
  have m:=b2F i2 hp i4
  generalize a5V a x (a1D l)=y at i1 i2 i3 i4 m
  show a2J x l<=R
  by_cases e:y=a
  ·subst e;omega
  ·rcases i3 with i3|i3
   ·exact absurd i3 e
   ·have:=h2 y i3 (by omega) (by omega);omega
 ·rcases h3 with h3|⟨x,_,k1,k2,k3⟩
  ·exact⟨a,Int.le_refl _,h,h3.symm⟩
  ·exact⟨x,by omega,k2,k3.symm⟩
theorem c2O{s:St}(h:Inv s)(name:ByteArray):Pos (a2x name 0 1048320 s.es):=fun e he=>by
 have:e∈s.es:=(List.mem_filter.1 (a4U.1 he)).1
 exact h.mid.pos e this
theorem a5y{s:St}(h:Inv s)(name:ByteArray){a b:Int}(hab:a<b):b0g (a2x name 0 1048320 s.es) a b=a1Q name s.es a b:=by
 have k1:=c2E (c2O h name) hab
 have k2:=a6H (name:=name) h.mid.pos hab
 refine a9W.eq (f:=fun x=>a0o name x s.es) ?_ k2
 have e:(fun x=>a2J x (a2x name 0 1048320 s.es))=fun x=>a0o name x s.es:=by funext x;exact b9p h name x
 rw[<- e];exact k1
theorem c0N{s:St}(h:Inv s)(name:ByteArray){u a b:Int}(hu:0<=u)(hab:a<b):a1e s.ts s.es name u [(a,b)]=decide (b0g (a2x name 0 1048320 s.es) a b+u<=a0h name s.ts):=by
 rw[a5y h name hab]
 obtain⟨m1,x,m2,m3,m4⟩:=a6H (name:=name) h.mid.pos hab
 rw[Bool.eq_iff_iff,a6S h.mid.pos hu,decide_eq_true_eq]
 constructor
 ·intro k
  have:=k x m2 m3
  have m4:a0o name x s.es=a1Q name s.es a b:=m4
  omega
 ·intro k y k1 k2
  have:=m1 y k1 k2
  have this:a0o name y s.es<=a1Q name s.es a b:=this
  omega
def d1G(ts:List (ByteArray × Int)):Nat->List Ent->Int->List Ent × List Int × List Int
 |0,es,_=>(es,[],[])
 |k+1,es,now =>
  ((d1G ts k (a0R ts (es.filter fun e=>!a0z (now+1) e)).1 (now+1)).1,
   (es.filter (a0z (now+1))).map (·.id)++(d1G ts k (a0R ts (es.filter fun e=>!a0z (now+1) e)).1 (now+1)).2.1,
   (a0R ts (es.filter fun e=>!a0z (now+1) e)).2++(d1G ts k (a0R ts (es.filter fun e=>!a0z (now+1) e)).1 (now+1)).2.2)
theorem e2X{p:Ent->Bool}{es:List Ent}(h:∀ e∈es,p e=false):es.filter p=[]/\es.filter (fun e=>!p e)=es:=by
 refine⟨List.filter_eq_nil_iff.2 (fun e he=>by simp[h e he]),List.filter_eq_self.2 (fun e he=>by simp[h e he])⟩
theorem d6P(ts:List (ByteArray × Int))(given:Int):∀ (k j:Nat)(es:List Ent)(now:Int),Inv ⟨ts,es,given,now⟩->now+k<=1048320->(∀ e∈es,e.kind≠1->now+k<e.a0Z)->d1G ts (k+j) es now=d1G ts j es (now+k)
 |0,j,es,now,_,_,_=>by simp
 |k+1,j,es,now,h,hb,hn=>by
  have hno:∀ e∈es,a0z (now+1) e=false:=by
   intro e he
   unfold a0z
   by_cases c:e.kind=1
   ·simp[c]
   ·have:=hn e he c
    have:¬ e.a0Z=now+1:=by omega
    simp[this]
  obtain⟨f1,f2⟩:=e2X hno
  have h':Inv ⟨ts,es,given,now+1⟩:=by
   have hm:=h.mid.filter (now':=now+1) (fun _=>true) (by omega) (by omega) (fun e he _ hk=>by have:=hn e he hk;omega)
   rw[List.filter_eq_self.2 (fun e he=>rfl)] at hm
   exact hm.inv h.no
  have g:=a9s h'
  have g:a0R ts es=(es,[]):=g
  rw[show k+1+j=(k+j)+1 from by omega]
  simp only[d1G]
  rw[f1,f2,g]
  simp only[List.map_nil,List.nil_append]
  rw[d6P ts given k j es (now+1) h' (by omega) (fun e he hk=>by have:=hn e he hk;omega)]
  rw[show now+1+(k:Int)=now+((k+1:Nat):Int) from by omega]
theorem e5L(ts:List (ByteArray × Int))(given:Int){es:List Ent}{now t:Int}(h:Inv ⟨ts,es,given,now⟩)(hlt:now<t)(ht:t<=1048320)(hn:∀ e∈es,e.kind≠1->t<=e.a0Z)(j:Nat):
  d1G ts ((t-now).toNat+j) es now=((d1G ts j (a0R ts (es.filter fun e=>!a0z t e)).1 t).1,(es.filter (a0z t)).map (·.id)++(d1G ts j (a0R ts (es.filter fun e=>!a0z t e)).1 t).2.1,(a0R ts (es.filter fun e=>!a0z t e)).2++(d1G ts j (a0R ts (es.filter fun e=>!a0z t e)).1 t).2.2):=by
 obtain⟨n,hn'⟩:∃ n:Nat,(t-now).toNat=n+1:=⟨(t-now).toNat-1,by omega⟩
 rw[hn',show n+1+j=n+(1+j) from by omega,d6P ts given n (1+j) es now h (by omega) (fun e he hk=>by have:=hn e he hk;omega)]
 rw[show 1+j=j+1 from by omega]
 simp only[d1G]
 rw[show now+(n:Int)+1=t from by omega]
theorem d8e(ts:List (ByteArray × Int))(given tq:Int)(ht:tq<=1048320):∀ (k:Nat)(es:List Ent)(now:Int),es.length<k\/now=tq->now<=tq->Inv ⟨ts,es,given,now⟩->a1K ts k es now tq=d1G ts (tq-now).toNat es now
 |0,es,now,hk,hle,h=>by
  have:now=tq:=by omega
  subst this
  simp[a1K,d1G]
 |k+1,es,now,hk,hle,h=>by
  simp only[a1K]
  by_cases c:now<tq
  ·rw[if_pos c]
   obtain⟨n1,n2,n3⟩:=a5C tq es
   have nn:now<a3D tq es:=by
    rcases n3 with e|⟨z,hz,zk,e⟩
    ·omega
    ·rcases (h.en z hz).kd with kd|⟨_,k2,_⟩
     ·exact absurd kd.1 zk
     ·have k2:now<z.a0Z:=k2
      omega
   have hm:=h.mid.filter (now':=a3D tq es) (fun e=>!a0z (a3D tq es) e) (by omega) (by omega) (fun e he hp hk1=>by
    have:=n2 e he hk1
    have hp:(!a0z (a3D tq es) e)=true:=hp
    simp[a0z] at hp
    rcases hp with e1|e1
    ·exact absurd e1 hk1
    ·omega)
   have hi:=a9t hm
   have ih:=d8e ts given tq ht k (a0R ts (es.filter fun e=>!a0z (a3D tq es) e)).1 (a3D tq es) (by
    by_cases e:a3D tq es=tq
    ·exact .inr e
    ·left
     rcases n3 with e' |⟨z,hz,zk,e'⟩
     ·exact absurd e' e
     ·rw[a7H]
      have:(es.filter fun e=>!a0z (a3D tq es) e).length<es.length:=by
       rw[<- List.countP_eq_length_filter]
       have hnot:¬ List.countP (fun e=>!a0z (a3D tq es) e) es=es.length:=by
        rw[List.countP_eq_length]
        intro hall
        have:=hall z hz
        simp[a0z,e'] at this
        exact zk this
       have:=List.countP_le_length (p:=fun e=>!a0z (a3D tq es) e) (l:=es)
       omega
      omega) n1 hi
   rw[ih]
   have e:=e5L ts given h nn (by omega) n2 (tq-a3D tq es).toNat
   rw[show (a3D tq es-now).toNat+(tq-a3D tq es).toNat=(tq-now).toNat from by omega] at e
   rw[e]
  ·rw[if_neg c]
   have:now=tq:=by omega
   subst this
   simp[d1G]
end Desk
open Desk (Ent a0r hasB a2J a1D b0g a1w)
structure SV(w:World)(v:Value)(L:List (Int × Int)):Prop where
 form:∃ a cap,v=.slice a L.length cap
 cell:∀ (k:Nat) (hk:k<L.length),∃ g cap,v=.slice (some ⟨g,0,none⟩) L.length cap/\w.cell? ⟨g,k*2,none⟩=some (.int .i64 L[k].1)/\w.cell? ⟨g,k*2+1,none⟩=some (.int .i64 L[k].2)
theorem SV.later{w w':World}{v:Value}{L:List (Int × Int)}(h:SV w v L)(k:Below w.heap.size w w'):SV w' v L :=
 ⟨h.form,fun i hi=>by
  obtain⟨g,cap,e,a,b⟩:=h.cell i hi
  exact⟨g,cap,e,a0a k a,a0a k b⟩⟩
theorem SV.own{w:World}{B:Nat}{v:Value}{L:List (Int × Int)}(h:w.ownsRow B 60 2 v L.length (L.flatMap spV)):SV w v L:=by
 refine⟨a0B h,fun k hk=>?_⟩
 obtain⟨g,cap,e⟩:=Joins.ownsRow_form h (by omega)
 subst e
 obtain⟨f1,f2⟩:=b3B k hk
 have hl:=b0S L
 have a0:=h.cellAt (k*2) (by omega)
 have a1:=h.cellAt (k*2+1) (by omega)
 rw[f1] at a0
 rw[f2] at a1
 exact⟨g,cap,rfl,a0,a1⟩
structure EV(w:World)(v:Value)(l:List (Ent × Value)):Prop where
 form:∃ a cap,v=.slice a l.length cap
 cell:∀ (k:Nat) (hk:k<l.length),∃ g cap,v=.slice (some ⟨g,0,none⟩) l.length cap/\w.cell? ⟨g,k*6,none⟩=some (.int .i64 l[k].1.id)/\w.cell? ⟨g,k*6+1,none⟩=some (.int .i64 l[k].1.kind)/\w.cell? ⟨g,k*6+2,none⟩=some (.string l[k].1.a0k)/\w.cell? ⟨g,k*6+3,none⟩=some (.int .i64 l[k].1.a0c)/\w.cell? ⟨g,k*6+4,none⟩=some l[k].2/\w.cell? ⟨g,k*6+5,none⟩=some (.int .i64 l[k].1.a0Z)
 sp:∀ p∈l,SV w p.2 p.1.a0e
theorem EV.later{w w':World}{v:Value}{l:List (Ent × Value)}(h:EV w v l)(k:Below w.heap.size w w'):EV w' v l :=
 ⟨h.form,fun i hi=>by
  obtain⟨g,cap,e,a0,a1,a2,a3,a4,a5⟩:=h.cell i hi
  exact⟨g,cap,e,a0a k a0,a0a k a1,a0a k a2,a0a k a3,a0a k a4,a0a k a5⟩,fun p hp=>(h.sp p hp).later k⟩
theorem EV.own{w:World}{B:Nat}{v:Value}{l:List (Ent × Value)}(h:w.ownsRow B 58 6 v l.length (l.flatMap a1f))(sp:∀ p∈l,SV w p.2 p.1.a0e):EV w v l:=by
 refine⟨a0B h,fun k hk=>?_,sp⟩
 obtain⟨g,cap,e⟩:=Joins.ownsRow_form h (by omega)
 subst e
 have at_:∀ j,j<6->w.cell? ⟨g,k*6+j,none⟩=(a1f l[k])[j]?:=fun j hj=>by
  have a0:=h.cellAt (k*6+j) (by omega)
  rw[a3M hk hj] at a0
  exact a0
 exact⟨g,cap,rfl,at_ 0 (by omega),at_ 1 (by omega),at_ 2 (by omega),at_ 3 (by omega),at_ 4 (by omega),at_ 5 (by omega)⟩
theorem a3j.ev{w:World}{B:Nat}{col:Nat->Option Col}{v:Value}{l:List (Ent × Value)}(h:a3j w B col v l):EV w v l:=EV.own h.own (fun p hp=>SV.own (h.sp p hp).1.own)
def a4J(x:Ent)(v:Value):Obj:=.cells #[.int .i64 x.id,.int .i64 x.kind,.string x.a0k,.int .i64 x.a0c,v,.int .i64 x.a0Z] 58 (0,0)
theorem b7I(L:List (Int × Int))(k:Nat)(h:k<L.length)(t:Int):a0r (L.take (k+1)) t=a0r (L.take k) t+(if L[k].1<=t/\t<L[k].2 then 1 else 0):=by
 unfold a0r
 rw[List.take_succ_eq_append_getElem h,List.filter_append,List.length_append]
 unfold hasB
 by_cases c:L[k].1<=t/\t<L[k].2
 ·rw[if_pos c];simp[c]
 ·rw[if_neg c]
  have:(decide (L[k].1<=t) && decide (t<L[k].2))=false:=by simpa using c
  simp[this]
theorem b1p(L:List (Int × Int))(t:Int):0<=a0r L t/\a0r L t<=L.length:=by
 unfold a0r
 have:=List.length_filter_le (hasB t) L
 omega
theorem c5c(w:World)(x:Ent)(v:Value)(hv:SV w v x.a0e)(t:Int)(hl:x.a0e.length<=1000):
  Calls Tryz.prog 65 #[.agg #[.int .i64 x.id,.int .i64 x.kind,.string x.a0k,.int .i64 x.a0c,v,.int .i64 x.a0Z],.int .i64 t] w fun e w'=>e=.returned (.int .i64 (a0r x.a0e t))/\Below w.heap.size w w':=by
 obtain⟨a,cap,rfl⟩:=hv.form
 have hX:Below w.heap.size w (w.alloc (a4J x (.slice a x.a0e.length cap))):=(Below.refl _ _).alloc (Nat.le_refl _) _
 have hc:(w.alloc (a4J x (.slice a x.a0e.length cap))).cell? ⟨w.heap.size,4,none⟩=some (.slice a x.a0e.length cap):=by
  have h:=a0p w (a4J x (.slice a x.a0e.length cap))
  unfold a4J at h
  simp only[a4J,World.cell?,h];rfl
 have SP:=a0b (hv.later hX)
 have HX:=a0b hX
 clear hv hX
 go_enter Tryz.func65,Tryz.ntmps65
 go_upto_region 3 with fail
 change Code.wp _ _ _ _ (w.alloc (a4J x (.slice a x.a0e.length cap)))
 have hs:w.heap.size<(w.alloc (a4J x (.slice a x.a0e.length cap))).heap.size:=by simp
 generalize w.alloc (a4J x (.slice a x.a0e.length cap))=X at *
 go_loopw [5,6] (fun vn vi wr=>∃ k:Nat,k<=x.a0e.length/\vi=.int .i64 k/\vn=.int .i64 (a0r (x.a0e.take k) t)/\Below X.heap.size X wr) (fun _ vi _=>x.a0e.length-(intOf vi).toNat)
 case atStart=>exact⟨0,Nat.zero_le _,rfl,rfl,Below.refl _ _⟩
 case round =>
  obtain⟨k,hk,rfl,rfl,hbl⟩:=hrel
  have c4:=a0a hbl hc
  have HB:=a0b hbl
  clear hbl
  by_cases hlt:k<x.a0e.length
  ·have hlt':(k:Int)<(x.a0e.length:Int):=by omega
   obtain⟨g,cap',e,s0,s1⟩:=(SP.out.later HB.out).cell k hlt
   simp only[Value.slice.injEq,true_and] at e
   obtain⟨rfl,rfl⟩:=e
   have tb:=b1p (x.a0e.take k) t
   have hsn:=b7I x.a0e k hlt t
   rw[List.length_take] at tb
   have k1:IntKind.i64.wrap (a0r (x.a0e.take k) t+1)=a0r (x.a0e.take k) t+1:=a0G (by omega) (by omega)
   by_cases c1:x.a0e[k].1<=t
   ·by_cases c2:t<x.a0e[k].2
    ·rw[if_pos ⟨c1,c2⟩] at hsn
     have HN:=a0b hsn
     clear hsn tb
     generalize x.a0e[k].1=p1 at *
     generalize x.a0e[k].2=p2 at *
     go_wp2_with fail
     go_roundw
     case rel=>exact⟨k+1,by omega,by go_num,by rw[HN.out],HB.out⟩
     case measure=>simp[intOf];omega
    ·rw[if_neg (fun c=>c2 c.2)] at hsn
     have HN:=a0b hsn
     clear hsn tb
     generalize x.a0e[k].1=p1 at *
     generalize x.a0e[k].2=p2 at *
     go_wp2_with fail
     go_roundw
     case rel=>exact⟨k+1,by omega,by go_num,by rw[HN.out];simp,HB.out⟩
     case measure=>simp[intOf];omega
   ·rw[if_neg (fun c=>c1 c.1)] at hsn
    have HN:=a0b hsn
    clear hsn tb
    generalize x.a0e[k].1=p1 at *
    generalize x.a0e[k].2=p2 at *
    go_wp2_with fail
    go_roundw
    case rel=>exact⟨k+1,by omega,by go_num,by rw[HN.out];simp,HB.out⟩
    case measure=>simp[intOf];omega
  ·have hlt':¬ (k:Int)<(x.a0e.length:Int):=by omega
   have HE:Hid (x.a0e.take k=x.a0e):=List.take_of_length_le (by omega)
   rw[HE.out]
   go_wp2_with fail
   go_ret
   exact⟨rfl,HX.out.trans (HB.out.mono HX.out.size)⟩
def Few(l:List (Ent × Value)):Prop:=l.length<=1000/\∀ p∈l,0<=p.1.a0c/\p.1.a0c<=1000/\p.1.a0e.length<=1000
def a1m(l:List (Ent × Value)):List Ent:=l.map (·.1)
theorem b9n(l:List (Ent × Value))(k:Nat)(h:k<l.length)(t:Int):a2J t (a1m (l.take (k+1)))=a2J t (a1m (l.take k))+a0r l[k].1.a0e t*l[k].1.a0c:=by
 unfold a1m
 rw[List.take_succ_eq_append_getElem h,List.map_append,Desk.b4y]
 simp[a2J]
theorem c3Y{a b A B:Int}(a0:0<=a)(a1:a<=A)(b0:0<=b)(b1:b<=B):0<=a*b/\a*b<=A*B:=⟨Int.mul_nonneg a0 b0,Int.mul_le_mul a1 b1 b0 (Int.le_trans a0 a1)⟩
theorem c4z{l:List (Ent × Value)}(h:∀ p∈l,0<=p.1.a0c/\p.1.a0c<=1000/\p.1.a0e.length<=1000)(t:Int):0<=a2J t (a1m l)/\a2J t (a1m l)<=1000000*l.length:=by
 induction l with
 |nil=>simp[a1m,a2J]
 |cons p r ih =>
  obtain⟨i1,i2⟩:=ih (fun q hq=>h q (List.mem_cons_of_mem _ hq))
  obtain⟨u0,u1,sl⟩:=h p (List.mem_cons_self ..)
  have tb:=b1p p.1.a0e t
  obtain⟨m1,m2⟩:=c3Y (A:=1000) (B:=1000) tb.1 (by omega) u0 u1
  show 0<=a0r p.1.a0e t*p.1.a0c+a2J t (a1m r)/\a0r p.1.a0e t*p.1.a0c+a2J t (a1m r)<=1000000*((r.length+1:Nat):Int)
  omega
theorem c2g{l:List (Ent × Value)}(h:Few l)(k:Nat)(t:Int):0<=a2J t (a1m (l.take k))/\a2J t (a1m (l.take k))<=1000000000:=by
 have:=c4z (l:=l.take k) (fun p hp=>h.2 p (List.mem_of_mem_take hp)) t
 have h1:=h.1
 have h2:(l.take k).length<=l.length:=by rw[List.length_take];omega
 omega
theorem b8l(w:World)(v:Value)(l:List (Ent × Value))(hv:EV w v l)(hf:Few l)(t:Int):
  Calls Tryz.prog 45 #[v,.int .i64 t] w fun e w'=>e=.returned (.int .i64 (a2J t (a1m l)))/\Below w.heap.size w w':=by
 obtain⟨a,cap,rfl⟩:=hv.form
 have HV:=a0b hv
 have HF:=a0b hf
 have hlen:=hf.1
 clear hv hf
 go_enter Tryz.func45,Tryz.ntmps45
 go_upto_region 3 with fail
 go_loopw [5,6] (fun vn vi wr=>∃ k:Nat,k<=l.length/\vi=.int .i64 k/\vn=.int .i64 (a2J t (a1m (l.take k)))/\Below w.heap.size w wr) (fun _ vi _=>l.length-(intOf vi).toNat)
 case atStart=>exact⟨0,Nat.zero_le _,rfl,rfl,Below.refl _ _⟩
 case round =>
  obtain⟨k,hk,rfl,rfl,hbl⟩:=hrel
  have HB:=a0b hbl
  clear hbl
  by_cases hlt:k<l.length
  ·have hlt':(k:Int)<(l.length:Int):=by omega
   obtain⟨g,cap',e,s0,s1,s2,s3,s4,s5⟩:=(HV.out.later HB.out).cell k hlt
   simp only[Value.slice.injEq,true_and] at e
   obtain⟨rfl,rfl⟩:=e
   have HP:=a0b (HV.out.sp l[k] (List.getElem_mem hlt))
   have hp:=HF.out.2 l[k] (List.getElem_mem hlt)
   have tb:=b1p l[k].1.a0e t
   obtain⟨m1,m2⟩:=c3Y (A:=1000) (B:=1000) tb.1 (by omega) hp.1 hp.2.1
   have kb:=c2g HF.out k t
   have HN:=a0b (b9n l k hlt t)
   have k1:IntKind.i64.wrap (a0r l[k].1.a0e t*l[k].1.a0c)=a0r l[k].1.a0e t*l[k].1.a0c:=a0G (by omega) (by omega)
   have k2:IntKind.i64.wrap (a2J t (a1m (l.take k))+a0r l[k].1.a0e t*l[k].1.a0c)=a2J t (a1m (l.take k))+a0r l[k].1.a0e t*l[k].1.a0c:=a0G (by omega) (by omega)
   have AT:=a0b (fun W (hW:Below w.heap.size w W)=>c5c W l[k].1 l[k].2 (HP.out.later hW) t hp.2.2)
   have s3':=fun W (hW:Below wr.heap.size wr W)=>a0a hW s3
   have S3:=a0b s3'
   clear tb m1 m2 kb hp s3'
   generalize l[k].1=x at *
   generalize l[k].2=xv at *
   go_upto_region 6 with (first
    |(go_at_call 65;refine (AT.out _ HB.out).mono ?_;rintro e w1 ⟨rfl,hb1⟩;have s3b:=S3.out _ hb1;have HB1:=a0b (a0j HB.out hb1 (Nat.le_refl _));clear hb1 s0 s1 s2 s3 s4 s5))
   go_wp2_with fail
   go_roundw
   case rel=>exact⟨k+1,by omega,by go_num,by rw[HN.out],HB1.out⟩
   case measure=>simp[intOf];omega
  ·have hlt':¬ (k:Int)<(l.length:Int):=by omega
   have HE:Hid (l.take k=l):=List.take_of_length_le (by omega)
   rw[HE.out]
   go_wp2_with fail
   go_ret
   exact⟨rfl,HB.out⟩
theorem b9N(l:List Ent)(a b:Int)(xs:List Int)(m x:Int):(xs++[x]).foldl (a1w l a b) m=a1w l a b (xs.foldl (a1w l a b) m) x:=by
 rw[List.foldl_append];rfl
def a6a(l:List (Ent × Value))(i k:Nat):List Int:=a1D (a1m (l.take i))++((l.getD i (⟨0,0,⟨#[]⟩,0,[],0⟩,.nilIface)).1.a0e.take k).map (·.1)
theorem b0d(l r:List Ent):a1D (l++r)=a1D l++a1D r:=by
 induction l with
 |nil=>rfl
 |cons e l ih=>simp only[List.cons_append,a1D,ih,List.append_assoc]
theorem c0I(l:List (Ent × Value))(i:Nat)(h:i<l.length)(d:Ent × Value):l.getD i d=l[i]:=by rw[List.getD_eq_getElem?_getD,List.getElem?_eq_getElem h];rfl
theorem b7V(l:List (Ent × Value))(i k:Nat)(h:i<l.length)(hk:k<l[i].1.a0e.length):a6a l i (k+1)=a6a l i k++[l[i].1.a0e[k].1]:=by
 unfold a6a
 rw[c0I l i h,List.take_succ_eq_append_getElem hk,List.map_append,List.append_assoc]
 rfl
theorem b9B(l:List (Ent × Value))(i k:Nat)(h:i<l.length)(hk:l[i].1.a0e.length<=k):a6a l i k=a1D (a1m (l.take (i+1))):=by
 unfold a6a a1m
 rw[c0I l i h,List.take_of_length_le hk,List.take_succ_eq_append_getElem h,List.map_append,b0d]
 simp[a1D]
theorem c4M(l:List (Ent × Value))(i:Nat):a6a l i 0=a1D (a1m (l.take i)):=by simp[a6a]
theorem b3i(w:World)(v:Value)(l:List (Ent × Value))(hv:EV w v l)(hf:Few l)(fr til:Int):
  Calls Tryz.prog 22 #[v,.int .i64 fr,.int .i64 til] w fun e w'=>e=.returned (.int .i64 (b0g (a1m l) fr til))/\Below w.heap.size w w':=by
 obtain⟨a,cap,rfl⟩:=hv.form
 have HV:=a0b hv
 have HF:=a0b hf
 have hlen:=hf.1
 have TK:=a0b (fun W t (hW:Below w.heap.size w W)=>b8l W _ l (hv.later hW) hf t)
 clear hv hf
 go_enter Tryz.func22,Tryz.ntmps22
 go_upto_region 3 with (first
  |(go_at_call 45;refine (TK.out _ fr (Below.refl _ _)).mono ?_;rintro e w1 ⟨rfl,hb1⟩))
 have HB1:=a0b hb1
 clear hb1
 go_loopw [7,8,9,10,11] (fun vm vi _ _ _ wr=>∃ i:Nat,i<=l.length/\vi=.int .i64 i/\vm=.int .i64 ((a1D (a1m (l.take i))).foldl (a1w (a1m l) fr til) (a2J fr (a1m l)))/\Below w.heap.size w wr) (fun _ vi _ _ _ _=>l.length-(intOf vi).toNat)
 case atStart=>exact⟨0,Nat.zero_le _,rfl,rfl,HB1.out⟩
 case round =>
  obtain⟨i,hi,rfl,rfl,hbl⟩:=hrel
  have HB:=a0b hbl
  clear hbl
  by_cases hlt:i<l.length
  ·have hlt':(i:Int)<(l.length:Int):=by omega
   go_upto_region 6 with fail
   rw[<- c4M]
   go_loopw [7,9,10,11] (fun vm vk _ _ wr'=>∃ k:Nat,k<=l[i].1.a0e.length/\vk=.int .i64 k/\vm=.int .i64 ((a6a l i k).foldl (a1w (a1m l) fr til) (a2J fr (a1m l)))/\Below w.heap.size w wr') (fun _ vk _ _ _=>l[i].1.a0e.length-(intOf vk).toNat)
   case atStart=>exact⟨0,Nat.zero_le _,rfl,rfl,HB.out⟩
   case round =>
    obtain⟨k,hk,rfl,rfl,hbl⟩:=hrel
    have HK:=a0b hbl
    clear hbl
    obtain⟨g,cap',e,s0,s1,s2,s3,s4,s5⟩:=(HV.out.later HK.out).cell i hlt
    simp only[Value.slice.injEq,true_and] at e
    obtain⟨rfl,rfl⟩:=e
    have HP:=a0b ((HV.out.sp l[i] (List.getElem_mem hlt)).later HK.out)
    obtain⟨sa,sc,esp⟩:=HP.out.form
    rw[esp] at s4
    have hsl:=(HF.out.2 l[i] (List.getElem_mem hlt)).2.2
    by_cases hkt:k<l[i].1.a0e.length
    ·have hkt':(k:Int)<(l[i].1.a0e.length:Int):=by omega
     obtain⟨g2,cap2,e2,p0,p1⟩:=HP.out.cell k hkt
     rw[esp] at e2
     simp only[Value.slice.injEq,true_and] at e2
     obtain⟨rfl,rfl⟩:=e2
     have HST:Hid ((a6a l i (k+1)).foldl (a1w (a1m l) fr til) (a2J fr (a1m l))=a1w (a1m l) fr til ((a6a l i k).foldl (a1w (a1m l) fr til) (a2J fr (a1m l))) l[i].1.a0e[k].1):=by
      show _=_
      rw[b7V l i k hlt hkt,b9N]
     have TK1:=a0b (TK.out _ l[i].1.a0e[k].1 HK.out)
     generalize (a6a l i k).foldl (a1w (a1m l) fr til) (a2J fr (a1m l))=m at *
     have HPS:Hid (a1w (a1m l) fr til m l[i].1.a0e[k].1=if fr<l[i].1.a0e[k].1/\l[i].1.a0e[k].1<til/\m<a2J l[i].1.a0e[k].1 (a1m l) then a2J l[i].1.a0e[k].1 (a1m l) else m):=rfl
     generalize a2J l[i].1.a0e[k].1 (a1m l)=tk at *
     clear s0 s1 s2 s3 s5 p1
     generalize l[i].1.a0e[k].1=x at *
     by_cases h1:fr<x
     ·by_cases h2:x<til
      ·by_cases h3:m<tk
       ·have HE:Hid ((a6a l i (k+1)).foldl (a1w (a1m l) fr til) (a2J fr (a1m l))=tk):=by show _=tk;rw[HST.out,HPS.out,if_pos ⟨h1,h2,h3⟩]
        go_wp2_with (first
         |(go_at_call 45;refine TK1.out.mono ?_;rintro e w4 ⟨rfl,hb4⟩;have HB4:=a0b (a0j HK.out hb4 (Nat.le_refl _));clear hb4 TK1))
        go_roundw
        case rel=>exact⟨k+1,by omega,by go_num,by rw[HE.out],HB4.out⟩
        case measure=>simp[intOf];omega
       ·have HE:Hid ((a6a l i (k+1)).foldl (a1w (a1m l) fr til) (a2J fr (a1m l))=m):=by show _=m;rw[HST.out,HPS.out,if_neg (fun x=>h3 x.2.2)]
        go_wp2_with (first
         |(go_at_call 45;refine TK1.out.mono ?_;rintro e w4 ⟨rfl,hb4⟩;have HB4:=a0b (a0j HK.out hb4 (Nat.le_refl _));clear hb4 TK1))
        go_roundw
        case rel=>exact⟨k+1,by omega,by go_num,by rw[HE.out],HB4.out⟩
        case measure=>simp[intOf];omega
      ·have HE:Hid ((a6a l i (k+1)).foldl (a1w (a1m l) fr til) (a2J fr (a1m l))=m):=by show _=m;rw[HST.out,HPS.out,if_neg (fun x=>h2 x.2.1)]
       go_wp2_with fail
       go_roundw
       case rel=>exact⟨k+1,by omega,by go_num,by rw[HE.out],HK.out⟩
       case measure=>simp[intOf];omega
     ·have HE:Hid ((a6a l i (k+1)).foldl (a1w (a1m l) fr til) (a2J fr (a1m l))=m):=by show _=m;rw[HST.out,HPS.out,if_neg (fun x=>h1 x.1)]
      go_wp2_with fail
      go_roundw
      case rel=>exact⟨k+1,by omega,by go_num,by rw[HE.out],HK.out⟩
      case measure=>simp[intOf];omega
    ·have hkt':¬ (k:Int)<(l[i].1.a0e.length:Int):=by omega
     have HE:=a0b (b9B l i k hlt (by omega))
     rw[HE.out]
     clear s0 s1 s2 s3 s5
     go_wp2_with fail
     go_roundw
     case rel=>exact⟨i+1,by omega,by go_num,rfl,HK.out⟩
     case measure=>simp[intOf];omega
  ·have hlt':¬ (i:Int)<(l.length:Int):=by omega
   have HE:Hid (l.take i=l):=List.take_of_length_le (by omega)
   rw[HE.out]
   go_wp2_with fail
   go_ret
   exact⟨rfl,HB.out⟩
namespace Desk
theorem d2D{ts:List (ByteArray × Int)}{es:List Ent}(h:∀ e∈es,e.kind≠3):a0R ts es=(es,[]):=by
 unfold a0R
 rw[b0Q ts es [] (fun e he hk=>absurd hk (h e he))]
 simp
def d1v(es:List Ent):Nat->Int->List Int
 |0,_=>[]
 |k+1,now=>(es.filter (a0z (now+1))).map (·.id)++d1v es k (now+1)
def e0B(now:Int)(k:Nat)(e:Ent):Bool:=(e.kind != 1) && decide (now<e.a0Z/\e.a0Z<=now+k)
theorem d3B{es es':List Ent}:∀ (k:Nat)(now:Int),(∀ i:Nat,i<k->(es.filter (a0z (now+1+i))).map (·.id)=(es'.filter (a0z (now+1+i))).map (·.id))->d1v es k now=d1v es' k now
 |0,now,_=>rfl
 |k+1,now,h=>by
  simp only[d1v]
  have h0:=h 0 (by omega)
  simp only[Int.natCast_zero,Int.add_zero] at h0
  have h1:d1v es k (now+1)=d1v es' k (now+1):=d3B k (now+1) (fun i hi=>by
   have:=h (i+1) (by omega)
   rwa [show now+1+((i+1:Nat):Int)=now+1+1+(i:Int) from by omega] at this)
  rw[h0,h1]
theorem d9o(ts:List (ByteArray × Int)):∀ (k:Nat)(es:List Ent)(now:Int),(∀ e∈es,e.kind≠3)->d1G ts k es now=(es.filter (fun e=>!e0B now k e),d1v es k now,[])
 |0,es,now,_=>by
  simp only[d1G,d1v]
  rw[List.filter_eq_self.2 (fun e he=>by
   have:¬ (now<e.a0Z/\e.a0Z<=now+((0:Nat):Int)):=by omega
   simp only[e0B,this,decide_false,Bool.and_false,Bool.not_false])]
 |k+1,es,now,h=>by
  have h':∀ e∈es.filter (fun e=>!a0z (now+1) e),e.kind≠3:=fun e he=>h e (List.mem_filter.1 he).1
  simp only[d1G]
  rw[d2D h']
  simp only
  rw[d9o ts k _ (now+1) h']
  simp only[d1v,List.append_nil]
  refine Prod.ext ?_ (Prod.ext ?_ rfl)
  ·show (es.filter fun e=>!a0z (now+1) e).filter (fun e=>!e0B (now+1) k e)=es.filter (fun e=>!e0B now (k+1) e)
   rw[List.filter_filter]
   apply List.filter_congr
   intro e _
   by_cases c:e.kind=1
   ·simp[e0B,a0z,c]
   ·have c':(e.kind != 1)=true:=by simp[c]
    simp only[e0B,a0z,c',Bool.true_and]
    rw[<- decide_not,<- decide_not,<- decide_not,<- Bool.decide_and]
    apply decide_eq_decide.2
    omega
  ·show _++d1v (es.filter fun e=>!a0z (now+1) e) k (now+1)=_++d1v es k (now+1)
   congr 1
   refine d3B k (now+1) (fun i _=>?_)
   rw[List.filter_filter]
   congr 1
   apply List.filter_congr
   intro e _
   simp only[a0z]
   by_cases c:e.a0Z=now+1+1+i
   ·simp[c]
    intro _
    exact .inr (by omega)
   ·simp[c]
end Desk
end Go.Proofs.YtjfkfiffakbagaaGreatDoor
