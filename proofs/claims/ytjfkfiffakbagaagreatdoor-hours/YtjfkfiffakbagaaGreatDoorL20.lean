/-
  Parts of the proof, one behind the other.
-/
import Derived.Test.YtjfkfiffakbagaaGreatDoorL19
import Derived.Deep.AppendLies
set_option maxRecDepth 100000
set_option maxHeartbeats 8000000
namespace Go.Proofs.YtjfkfiffakbagaaGreatDoor
open Go.RowKit
open Desk (Ent St Ids kept a0C a0Q a1C a2e ofB a0y a2c Mid a1H a0z Inv a0h a2x a1q Rep b0g a1Q)
structure KB(W:World)(col:Nat->Option Col)(b:Nat)(o:Obj):Prop where
 h:W.heap[b]?=some o
 c:col b=none
theorem KB.later{W W':World}{col:Nat->Option Col}{b:Nat}{o:Obj}(h:KB W col b o)(k:Below W.heap.size W W'):KB W' col b o:=⟨(k.block b (Array.getElem?_eq_some_iff.1 h.h).1).trans h.h,h.c⟩
theorem KB.step{W W':World}{col col':Nat->Option Col}{b:Nat}{o:Obj}(h:KB W col b o)(st:Step anyS W.heap.size col col' W W'):KB W' col' b o:=by
 obtain⟨x,y⟩:=st.still h.h h.c
 exact⟨x,y⟩
def CX(X W:World)(p dk:Nat)(s:St)(ks:List (Nat × Obj))(es:List (Value × List (Ent × Value))):Prop :=
 ∃ (r:Raw) (col:Nat->Option Col),DG X W p dk s r col/\(∀ q∈ks,KB W col q.1 q.2)/\∀ q∈es,a3j W 0 col q.1 q.2
theorem CX.of{X W:World}{p dk:Nat}{s:St}{r:Raw}{col:Nat->Option Col}(h:DG X W p dk s r col):CX X W p dk s [] []:=⟨r,col,h,by simp,by simp⟩
theorem CX.env{X W:World}{p dk:Nat}{s:St}{ks:List (Nat × Obj)}{es:List (Value × List (Ent × Value))}(h:CX X W p dk s ks es):Env W:=by
 obtain⟨r,col,d,_⟩:=h
 exact d.bd.env
theorem CX.inv{X W:World}{p dk:Nat}{s:St}{ks:List (Nat × Obj)}{es:List (Value × List (Ent × Value))}(h:CX X W p dk s ks es):Inv s:=by
 obtain⟨r,col,d,_⟩:=h
 exact d.inv
theorem CX.bl{X W:World}{p dk:Nat}{s:St}{ks:List (Nat × Obj)}{es:List (Value × List (Ent × Value))}(h:CX X W p dk s ks es):Below X.heap.size X W:=by
 obtain⟨r,col,d,_⟩:=h
 exact d.bl
theorem CX.kb{X W:World}{p dk:Nat}{s:St}{ks:List (Nat × Obj)}{es:List (Value × List (Ent × Value))}(h:CX X W p dk s ks es){b:Nat}{o:Obj}(hq:(b,o)∈ks):W.heap[b]?=some o:=by
 obtain⟨r,col,_,k,_⟩:=h
 exact (k _ hq).h
theorem CX.ev{X W:World}{p dk:Nat}{s:St}{ks:List (Nat × Obj)}{es:List (Value × List (Ent × Value))}(h:CX X W p dk s ks es){v:Value}{l:List (Ent × Value)}(hq:(v,l)∈es):EV W v l:=by
 obtain⟨r,col,_,_,e⟩:=h
 exact (e _ hq).ev
theorem a3j.low{w:World}{B:Nat}{col:Nat->Option Col}{v:Value}{l:List (Ent × Value)}(h:a3j w B col v l):a3j w 0 col v l :=
 ⟨a9c h.own (Nat.zero_le _),h.no,fun p hp=>⟨⟨a9c (h.sp p hp).1.own (Nat.zero_le _),(h.sp p hp).1.no⟩,(h.sp p hp).2⟩⟩
theorem CX.pl{X W:World}{p dk:Nat}{s:St}{ks:List (Nat × Obj)}{es:List (Value × List (Ent × Value))}(h:CX X W p dk s ks es):p<W.heap.size:=by
 obtain⟨r,col,d,_⟩:=h
 exact (Array.getElem?_eq_some_iff.1 d.bd.pc).1
def a1A(i:Nat):ByteArray:=if i=0 then ⟨#[97]⟩ else ⟨#[98]⟩
theorem a7y(i:Nat):a1A i=⟨#[97]⟩\/a1A i=⟨#[98]⟩:=by unfold a1A;split <;> simp
theorem b2x{a b:Int}(ha:1<=a)(hb:1<=b)(i:Nat):a0h (a1A i) (a3Z a b).ts≠0:=by
 rcases a7y i with e|e <;> rw[e]
 ·have:=b9b a b;unfold nmA at this;rw[this];omega
 ·have:=b9a a b;unfold nmC at this;rw[this];omega
theorem a1y{W:World}{b:Nat}{nm:ByteArray}{u fr til:Int}(h:W.heap[b]?=some (a1P nm u fr til)):W.cell? ⟨b,0,none⟩=some (.string nm)/\W.cell? ⟨b,1,none⟩=some (.int .i64 u)/\W.cell? ⟨b,2,none⟩=some (.int .i64 fr)/\W.cell? ⟨b,3,none⟩=some (.int .i64 til)/\∀ o,W.frozen? ⟨b,o,none⟩=false:=b1X h
theorem a6T{s:St}(h:Inv s){nm:ByteArray}{l:List (Ent × Value)}(hl:l.map (·.1)=a2x nm 0 1048320 s.es):Few l:=by
 have h1:=Desk.c2P h nm
 rw[<- hl,List.length_map] at h1
 refine⟨by omega,fun p hp=>?_⟩
 have hm:p.1∈a2x nm 0 1048320 s.es:=by rw[<- hl];exact List.mem_map.2 ⟨p,hp,rfl⟩
 have e:=h.en p.1 (Desk.b6I h nm hm).1
 have:=e.u1
 have:=e.u9
 have:=e.sl
 exact⟨by omega,by omega,by omega⟩
theorem b0A{s:St}(h:Inv s)(nm:ByteArray){a b:Int}(hab:a<b):a1Q nm s.es a b<=a0h nm s.ts:=by
 obtain⟨_,x,_,_,e⟩:=Desk.a6H (name:=nm) h.mid.pos hab
 have e':Desk.a0o nm x s.es=a1Q nm s.es a b:=e
 have:=h.wi nm x
 omega
theorem b4N{s:St}(h:Inv s)(nm:ByteArray){a b:Int}(hab:a<b):0<=a1Q nm s.es a b:=by
 obtain⟨_,x,_,_,e⟩:=Desk.a6H (name:=nm) h.mid.pos hab
 have e':Desk.a0o nm x s.es=a1Q nm s.es a b:=e
 have:=Desk.a6v (name:=nm) (x:=x) h.mid.pos
 omega
open Desk (Ent St Inv a0h a2x a1q Rep)
def CN(X W:World)(p dk:Nat)(s:St)(ks:List (Nat × Obj))(es:List (Value × List (Ent × Value)))(ns:List (Value × List Int)):Prop :=
 ∃ (r:Raw) (col:Nat->Option Col),DG X W p dk s r col/\(∀ q∈ks,KB W col q.1 q.2)/\(∀ q∈es,a3j W 0 col q.1 q.2)/\∀ q∈ns,a2I W 0 col q.1 q.2
theorem CN.of{X W:World}{p dk:Nat}{s:St}{ks:List (Nat × Obj)}{es:List (Value × List (Ent × Value))}(h:CX X W p dk s ks es):CN X W p dk s ks es []:=by
 obtain⟨r,col,d,k,e⟩:=h
 exact⟨r,col,d,k,e,by simp⟩
theorem CN.cx{X W:World}{p dk:Nat}{s:St}{ks:List (Nat × Obj)}{es:List (Value × List (Ent × Value))}{ns:List (Value × List Int)}(h:CN X W p dk s ks es ns):CX X W p dk s ks es:=by
 obtain⟨r,col,d,k,e,_⟩:=h
 exact⟨r,col,d,k,e⟩
theorem CN.later{X W W':World}{p dk:Nat}{s:St}{ks:List (Nat × Obj)}{es:List (Value × List (Ent × Value))}{ns:List (Value × List Int)}(h:CN X W p dk s ks es ns)(k:Below W.heap.size W W'):CN X W' p dk s ks es ns:=by
 obtain⟨r,col,d,b,e,n⟩:=h
 exact⟨r,col,d.later k,fun q hq=>(b q hq).later k,fun q hq=>(e q hq).step (S:=anyS) (B:=W.heap.size) (Step.below k) (Nat.le_refl _),fun q hq=>(n q hq).later k⟩
theorem CN.drew{X W:World}{p dk:Nat}{s:St}{ks:List (Nat × Obj)}{es:List (Value × List (Ent × Value))}{ns:List (Value × List Int)}(h:CN X W p dk s ks es ns):CN X W.drew p dk s ks es ns:=h.later (a0q W)
theorem CN.alloc{X W:World}{p dk:Nat}{s:St}{ks:List (Nat × Obj)}{es:List (Value × List (Ent × Value))}{ns:List (Value × List Int)}(h:CN X W p dk s ks es ns)(o:Obj):CN X (W.alloc o) p dk s ((W.heap.size,o) :: ks) es ns:=by
 obtain⟨r,col,d,b,e,n⟩:=h
 have k:Below W.heap.size W (W.alloc o):=(Below.refl _ _).alloc (Nat.le_refl _) _
 refine⟨r,col,d.later k,fun q hq=>?_,fun q hq=>(e q hq).step (S:=anyS) (B:=W.heap.size) (Step.below k) (Nat.le_refl _),fun q hq=>(n q hq).later k⟩
 rcases List.mem_cons.1 hq with rfl|hq
 ·exact⟨a0p W o,d.none (Nat.le_refl _)⟩
 ·exact (b q hq).later k
theorem CN.less{X W:World}{p dk:Nat}{s:St}{ks ks':List (Nat × Obj)}{es es':List (Value × List (Ent × Value))}{ns ns':List (Value × List Int)}(h:CN X W p dk s ks es ns)(hk:∀ q∈ks',q∈ks)(he:∀ q∈es',q∈es)(hn:∀ q∈ns',q∈ns):CN X W p dk s ks' es' ns':=by
 obtain⟨r,col,d,b,e,n⟩:=h
 exact⟨r,col,d,fun q hq=>b q (hk q hq),fun q hq=>e q (he q hq),fun q hq=>n q (hn q hq)⟩
theorem CN.nrow{X W:World}{p dk:Nat}{s:St}{ks:List (Nat × Obj)}{es:List (Value × List (Ent × Value))}{ns:List (Value × List Int)}(h:CN X W p dk s ks es ns){v:Value}{l:List Int}(hq:(v,l)∈ns):W.ownsRow 0 3 1 v l.length (l.map (Value.int .i64)):=by
 obtain⟨r,col,_,_,_,n⟩:=h
 exact (n _ hq).own
def NDo(X W:World)(p dk:Nat)(ks:List (Nat × Obj))(es:List (Value × List (Ent × Value)))(ns:List (Value × List Int))(q:St × Rep)(e:Ending)(W':World):Prop :=
 ∃ (l:List (Ent × Value)) (a1 a2 a3 a4:Option Addr) (n2 c1 c2 c3 c4:Nat),e=.returned (.agg #[.int .i64 q.2.err,.int .i64 q.2.at_,.int .i64 q.2.n,.slice a1 l.length c1,.slice a2 n2 c2,.slice a3 q.2.granted.length c3,.slice a4 q.2.ended.length c4]) /\
  l.map (·.1)=q.2.entries/\CN X W' p dk q.1 ks ((.slice a1 l.length c1,l) :: es) ((.slice a3 q.2.granted.length c3,q.2.granted) :: (.slice a4 q.2.ended.length c4,q.2.ended) :: ns)/\W.heap.size<=W'.heap.size
theorem f1P{X W:World}{p dk:Nat}{ks:List (Nat × Obj)}{es:List (Value × List (Ent × Value))}{ns:List (Value × List Int)}{col:Nat->Option Col}(b:∀ q∈ks,KB W col q.1 q.2)(e:∀ q∈es,a3j W 0 col q.1 q.2)(n:∀ q∈ns,a2I W 0 col q.1 q.2){q:St × Rep}{en:Ending}{W':World}(h:b4e X W p dk col q en W'):NDo X W p dk ks es ns q en W':=by
 obtain⟨l,a1,a2,a3,a4,n2,c1,c2,c3,c4,r',col',rfl,P⟩:=h
 refine⟨l,a1,a2,a3,a4,n2,c1,c2,c3,c4,rfl,P.c7n,⟨r',col',P.dg,fun q hq=>(b q hq).step P.st,fun q hq=>?_,fun q hq=>?_⟩,P.st.size⟩
 ·rcases List.mem_cons.1 hq with rfl|hq
  ·exact P.row.low
  ·exact (e q hq).step P.st (Nat.le_refl _)
 ·rcases List.mem_cons.1 hq with rfl|hq
  ·exact P.gr.base (Nat.zero_le _)
  ·rcases List.mem_cons.1 hq with rfl|hq
   ·exact P.ed.base (Nat.zero_le _)
   ·exact (n q hq).step P.st (Nat.le_refl _)
theorem CN.text{X W:World}{p dk:Nat}{s:St}{ks:List (Nat × Obj)}{es:List (Value × List (Ent × Value))}{ns:List (Value × List Int)}(h:CN X W p dk s ks es ns)(t:ByteArray):
  Calls Tryz.prog 20 #[.pointer (some ⟨p,0,none⟩),.string t] W fun e W'=>NDo X W p dk ks es ns (stepT s t) e W':=by
 obtain⟨r,col,d,b,e,n⟩:=h
 exact (c5w d t).mono fun _ _ k=>f1P b e n k
theorem CN.line{X W:World}{p dk:Nat}{s:St}{ks:List (Nat × Obj)}{es:List (Value × List (Ent × Value))}{ns:List (Value × List Int)}(h:CN X W p dk s ks es ns){t:ByteArray}{v:Value}{l:Desk.a7U}(hr:Reads t v)(hv:LV v l)(hl:Desk.a1O l){q:St × Rep}(hq:a1q s l=q):
  Calls Tryz.prog 20 #[.pointer (some ⟨p,0,none⟩),.string t] W fun e W'=>NDo X W p dk ks es ns q e W':=by
 obtain⟨r,col,d,b,e,n⟩:=h
 exact (b2g d hr hv hl hq).mono fun _ _ k=>f1P b e n k
theorem CN.entries{X W:World}{p dk:Nat}{s:St}{ks:List (Nat × Obj)}{es:List (Value × List (Ent × Value))}{ns:List (Value × List Int)}(h:CN X W p dk s ks es ns)(nm:ByteArray)(hn:Nm nm)(hu:a0h nm s.ts≠0):
  Calls Tryz.prog 19 #[.pointer (some ⟨p,0,none⟩),.string nm] W fun e W'=>∃ (l:List (Ent × Value)) (a:Option Addr) (c:Nat),e=.returned (.tuple #[.slice a l.length c,.bool true])/\l.map (·.1)=a2x nm 0 1048320 s.es/\CN X W' p dk s ks ((.slice a l.length c,l) :: es) ns:=by
 obtain⟨r,col,d,b,e,n⟩:=h
 refine (b5i d nm hn hu).mono ?_
 rintro en W' ⟨l,a,c,r',col',rfl,he,row,dg,st⟩
 refine⟨l,a,c,rfl,he,r',col',dg,fun q hq=>(b q hq).step st,fun q hq=>?_,fun q hq=>(n q hq).step st (Nat.le_refl _)⟩
 rcases List.mem_cons.1 hq with rfl|hq
 ·exact row.low
 ·exact (e q hq).step st (Nat.le_refl _)
namespace Txt
theorem d8H{h:List UInt8}:∀ (r:List UInt8)(x:List (List UInt8) × List UInt8),x.1[0]?=some h->(c1V (r.foldl b1m x))[0]?=some h
 |[],x,hx=>by
  simp only[List.foldl_nil]
  unfold c1V
  split
  ·exact hx
  ·rw[List.getElem?_append_left (List.getElem?_eq_some_iff.1 hx).1];exact hx
 |c :: r,x,hx=>by
  rw[List.foldl_cons]
  refine d8H r _ ?_
  unfold b1m
  split
  ·show (if x.2=[] then x.1 else x.1++[x.2])[0]?=some h
   split
   ·exact hx
   ·rw[List.getElem?_append_left (List.getElem?_eq_some_iff.1 hx).1];exact hx
  ·exact hx
theorem e5q{t w0:ByteArray}{r:List UInt8}(hw:a3V w0.data.toList=true)(ht:t.data.toList=w0.data.toList++32 :: r):(a1v t)[0]?=some w0:=by
 obtain⟨h1,h2⟩:=a8C.1 hw
 have h:=b7B t
 have e:(b2u t.data.toList)[0]?=some w0.data.toList:=by
  unfold b2u c4p
  rw[ht,List.foldl_append,b3A h2,List.foldl_cons,b7S]
  refine d8H r _ ?_
  show (c1V ([],[]++w0.data.toList))[0]?=_
  simp[c1V,h1]
 rw[<- h,List.getElem?_map] at e
 cases hq:(a1v t)[0]? with
 |none=>rw[hq] at e;cases e
 |some y =>
  rw[hq] at e
  simp only[Option.map_some,Option.some.injEq] at e
  rw[c1t e]
end Txt
theorem e5T{t:ByteArray}(h:c1I t):∃ w0:ByteArray,(Txt.a1v t)[0]?=some w0/\w0≠a3F/\(w0=b4k->t.data.toList[0]?=some 119):=by
 obtain⟨p,r,hp,rfl⟩:=h
 unfold a3S at hp
 have key:∀ w0:ByteArray,Txt.a3V w0.data.toList=true->p.data.toList=w0.data.toList++[32]->(Txt.a1v (p++r))[0]?=some w0:=fun w0 hw e=>Txt.e5q (r:=r.data.toList) hw (by rw[Txt.a1X,e];simp)
 simp only[List.mem_cons,List.not_mem_nil,or_false] at hp
 rcases hp with rfl|rfl|rfl|rfl|rfl|rfl|rfl
 ·exact⟨a9P,key a9P (by decide +kernel) rfl,by decide,fun e=>absurd e (by decide)⟩
 ·exact⟨b5f,key b5f (by decide +kernel) rfl,by decide,fun e=>absurd e (by decide)⟩
 ·exact⟨b4k,key b4k (by decide +kernel) rfl,by decide,fun _=>by rw[Txt.a1X];rfl⟩
 ·exact⟨a6m,key a6m (by decide +kernel) rfl,by decide,fun e=>absurd e (by decide)⟩
 ·exact⟨a4z,key a4z (by decide +kernel) rfl,by decide,fun e=>absurd e (by decide)⟩
 ·exact⟨a7l,key a7l (by decide +kernel) rfl,by decide,fun e=>absurd e (by decide)⟩
 ·exact⟨b4n,key b4n (by decide +kernel) rfl,by decide,fun e=>absurd e (by decide)⟩
theorem f0G{t:ByteArray}(h:c1I t){e:Ending}(he:a7T t e){l:Desk.a7U}(ho:c4m t (.inr l)):(∀ n u,l≠.a0k n u)/\(Desk.c9g l=true->t.data.toList[0]?=some 119):=by
 obtain⟨w0,h0,h1,h2⟩:=e5T h
 obtain⟨line,hr,hv,_⟩:=ho
 have e1:=hr e he
 subst e1
 generalize hE:Ending.returned (.tuple #[line,.int .i64 0,.int .i64 0])=e at he
 cases he with
 |long=>simp at hE
 |bad _ v st hl hb=>simp at hE
 |e6J _ v st hl _ _ =>
  have ev:line=v:=by simpa using hE
  subst ev
  refine⟨fun n u e=>?_,fun hw=>?_⟩
  ·subst e
   cases hv
   cases hl with
   |a0k g=>exact h1 (f4i h0 g)
  ·cases hv <;> simp[Desk.c9g] at hw
   cases hl with
   |wait g=>exact h2 (f4i h0 g)
open Desk (Ent St Inv a1q Rep a0h)
theorem e4Q(s:St)(l:Desk.a7U)(h:∀ n u,l≠.a0k n u):(Desk.a0g s l).1.ts=s.ts:=by
 cases l <;> simp only[Desk.a0g,Desk.a2t]
 case a0k name u=>exact absurd rfl (h name u)
 case enter=>split <;> rfl
 case series=>split <;> rfl
 case confirm =>
  split
  ·rfl
  ·split <;> rfl
 case cancel=>split <;> rfl
 case list=>split <;> first|rfl|(split <;> rfl)
 case peak=>split <;> first|rfl|(split <;> rfl)
 case find=>split <;> first|rfl|(split <;> rfl)
 case expand=>split <;> rfl
 case tick=>split <;> rfl
theorem e9X(s:St)(l:Desk.a7U)(h:∀ n u,l≠.a0k n u):(a1q s l).1.ts=s.ts:=by
 unfold a1q
 split
 ·exact e4Q s l h
 ·exact e4Q s l h
structure f3A(s:St)(t:ByteArray):Prop where
 ts:(stepT s t).1.ts=s.ts
 bad:(stepT s t).2.err≠0->(stepT s t).1=s/\(stepT s t).2.granted=[]
 e6J:(stepT s t).2.err=0->Desk.a1Y (stepT s t).1.es+((stepT s t).2.granted.length:Int)<=Desk.a1Y s.es+(if t.data.toList[0]?=some 119 then 1 else 0)/\∀ id∈(stepT s t).2.granted,∃ e∈(stepT s t).1.es,e.id=id/\e.kind=1
theorem f4O{s:St}(hi:Inv s){t:ByteArray}(h:c1I t){e:Ending}(he:a7T t e):f3A s t:=by
 have hr:=c2y t
 have hs:stepT s t=match b9K t with
  |.inl (er,at_)=>(s,⟨er,at_,0,[],[],[],[]⟩)
  |.inr l=>a1q s l:=rfl
 cases hq:b9K t with
 |inl q =>
  obtain⟨er,at_⟩:=q
  rw[hq] at hr hs
  refine⟨by rw[hs],fun _=>by rw[hs];exact⟨rfl,rfl⟩,fun h0=>?_⟩
  rw[hs] at h0
  exact absurd h0 hr.1
 |inr l =>
  rw[hq] at hr hs
  have hs':stepT s t=a1q s l:=hs
  obtain⟨l1,l2⟩:=f0G h he hr
  obtain⟨line,_,_,hl⟩:=hr
  refine⟨by rw[hs'];exact e9X s l l1,fun h0=>?_,fun h0=>?_⟩
  ·rw[hs'] at h0 ⊢
   obtain⟨a,b⟩:=Desk.b7R h0
   exact⟨a,by rw[b];rfl⟩
  ·rw[hs'] at h0 ⊢
   obtain⟨a,b⟩:=Desk.e7k hi hl h0
   refine⟨?_,b⟩
   by_cases c:Desk.c9g l=true
   ·rw[if_pos c] at a
    rw[if_pos (l2 c)]
    exact a
   ·rw[if_neg c] at a
    split <;> omega
open Desk (Ent St Inv a1q Rep)
theorem d9f:Reads (⟨#[119,97,105,116,105,110,103]⟩:ByteArray) (.iface 167 (.agg #[])):=by
 have hw:Txt.a1v (⟨#[119,97,105,116,105,110,103]⟩:ByteArray)=[a5q]:=by
  refine Txt.a5p ?_ ?_
  ·simp only[List.map_cons,List.map_nil,Txt.b3k];rfl
  ·intro x hx
   rw[List.mem_singleton.1 hx]
   decide +kernel
 exact a5G (n:=1) hw (by decide) (a2H.waiting (b1P (x:=a5q) rfl)) rfl
theorem d5K{s:St}(h:Inv s):a1q s .waiting=(s,⟨0,0,0,s.es.filter (fun e=>e.kind==3),[],[],[]⟩):=by
 have e:Desk.a0g s .waiting=(s,⟨0,0,0,s.es.filter (fun e=>e.kind==3),[],[],[]⟩):=rfl
 rw[Desk.a8T h (by rw[e]),e]
theorem e4h:Reads (⟨#[99,108,111,99,107]⟩:ByteArray) (.iface 177 (.agg #[])):=by
 have hw:Txt.a1v (⟨#[99,108,111,99,107]⟩:ByteArray)=[b1c]:=by
  refine Txt.a5p ?_ ?_
  ·simp only[List.map_cons,List.map_nil,Txt.b3k];rfl
  ·intro x hx
   rw[List.mem_singleton.1 hx]
   decide +kernel
 exact a5G (n:=1) hw (by decide) (a2H.clock (b1P (x:=b1c) rfl)) rfl
theorem e7G{s:St}(h:Inv s):a1q s .clock=(s,Rep.num s.now):=by
 have e:Desk.a0g s .clock=(s,Rep.num s.now):=rfl
 rw[Desk.a8T h (by rw[e]),e]
open Desk (Ent)
def d3M:List Ent->Int->Int
 |[],_=>0
 |e :: r,id=>if e.id=id then e.kind else d3M r id
theorem d3y:∀ {es:List Ent}{id:Int},(∀ e∈es,e.id≠id)->d3M es id=0
 |[],_,_=>rfl
 |e :: r,id,h=>by
  unfold d3M
  rw[if_neg (h e (List.mem_cons_self ..))]
  exact d3y fun x hx=>h x (List.mem_cons_of_mem _ hx)
theorem e4z:∀ {es:List Ent}{id:Int}(k:Nat)(hk:k<es.length),(∀ (i:Nat)(hi:i<es.length),i<k->es[i].id≠id)->es[k].id=id->d3M es id=es[k].kind
 |[],_,k,hk,_,_=>absurd hk (by simp)
 |e :: r,id,0,_,_,h=>by
  unfold d3M
  rw[if_pos (show e.id=id from h)]
  rfl
 |e :: r,id,k+1,hk,hn,h=>by
  unfold d3M
  rw[if_neg (show ¬ e.id=id from hn 0 (by simp) (by omega))]
  exact e4z k (by simpa using hk) (fun i hi hik=>hn (i+1) (by simpa using hi) (by omega)) h
theorem e1b(w:World)(v:Value)(l:List (Ent × Value))(hv:EV w v l)(hl:l.length<=1000)(id:Int):
  Calls Tryz.prog 36 #[v,.int .i64 id] w fun e w'=>e=.returned (.int .i64 (d3M (l.map (·.1)) id))/\Below w.heap.size w w':=by
 obtain⟨a,cap,rfl⟩:=hv.form
 have HV:=a0b hv
 clear hv
 go_enter Tryz.func36,Tryz.ntmps36
 go_wp2_with fail
 go_loopw [5] (fun vi wr=>∃ k:Nat,k<=l.length/\vi=.int .i64 k/\(∀ (i:Nat) (hi:i<l.length),i<k->l[i].1.id≠id)/\Below w.heap.size w wr) (fun vi _=>l.length-(intOf vi).toNat)
 case atStart=>exact⟨0,Nat.zero_le _,rfl,fun i hi h0=>absurd h0 (by omega),Below.refl _ _⟩
 case round =>
  obtain⟨k,hk,rfl,hno,hbl⟩:=hrel
  have HNO:=a0b hno
  have HB:=a0b hbl
  clear hno hbl
  by_cases hlt:k<l.length
  ·have hlt':(k:Int)<(l.length:Int):=by omega
   obtain⟨g,cap',e,x0,x1,_⟩:=(HV.out.later HB.out).cell k hlt
   simp only[Value.slice.injEq,true_and] at e
   obtain⟨rfl,rfl⟩:=e
   by_cases hid:l[k].1.id=id
   ·have HF:Hid (d3M (l.map (·.1)) id=l[k].1.kind):=by
     have:=e4z (es:=l.map (·.1)) (id:=id) k (by simpa using hlt) (fun i hi hik=>by rw[List.getElem_map];exact HNO.out i (by simpa using hi) hik) (by rw[List.getElem_map];exact hid)
     rw[List.getElem_map] at this
     exact this
    have hidb:(l[k].1.id==id)=true:=by simpa using hid
    clear hid HNO
    generalize l[k].1.id=idk at x0 hidb
    generalize l[k].1.kind=kk at x1 HF
    go_wp2_with fail
    go_ret
    exact⟨by rw[HF.out];rfl,HB.out⟩
   ·have hidb:(l[k].1.id==id)=false:=by simpa using hid
    have HN:Hid (∀ (i:Nat) (hi:i<l.length),i<k+1->l[i].1.id≠id):=fun i hi hik=>by
     by_cases ek:i=k
     ·subst ek;exact hid
     ·exact HNO.out i hi (by omega)
    clear hid HNO x1
    generalize l[k].1.id=idk at x0 hidb
    go_wp2_with fail
    go_roundw
    case rel=>exact⟨k+1,by omega,by go_num,HN.out,HB.out⟩
    case measure=>simp[intOf];omega
  ·have hlt':¬ (k:Int)<(l.length:Int):=by omega
   have HF:Hid (d3M (l.map (·.1)) id=0):=d3y fun e he=>by
    obtain⟨q,hq,rfl⟩:=List.mem_map.1 he
    obtain⟨i,hi,rfl⟩:=List.getElem_of_mem hq
    exact HNO.out i hi (by omega)
   clear HNO
   go_wp2_with fail
   go_ret
   exact⟨by rw[HF.out];rfl,HB.out⟩
open Desk (Ent St Ids ofB a0y a1H Inv a0h a2x a1e)
theorem e3H{s:St}(h:Inv s){A B:Int}(ht:s.ts=(a3Z A B).ts){e:Ent}(he:e∈s.es):e.a0k=(⟨#[97]⟩:ByteArray)\/e.a0k=(⟨#[98]⟩:ByteArray):=by
 have h1:=h.th e he
 have h2:=(h.en e he).u1
 rw[ht] at h1
 by_cases ca:a0y nmA e.a0k=true
 ·exact .inl (a4l.1 ca).symm
 ·by_cases cb:a0y nmC e.a0k=true
  ·exact .inr (a4l.1 cb).symm
  ·exfalso
   have:a0h e.a0k (a3Z A B).ts=0:=by simp[a3Z,a0h,ca,cb]
   omega
structure f2e(s:St)(e:Ent):Prop where
 kd:e.kind=3
 th:e.a0k=(⟨#[97]⟩:ByteArray)\/e.a0k=(⟨#[98]⟩:ByteArray)
 u0:1<=e.a0c
 u9:e.a0c<=9
 sp:∃ fr til:Int,e.a0e=[(fr,til)]/\fr<til/\a1e s.ts s.es e.a0k e.a0c [(fr,til)]=false
theorem f2l{s:St}(h:Inv s){A B:Int}(ht:s.ts=(a3Z A B).ts){e:Ent}(he:e∈s.es.filter (fun e=>e.kind==3)):f2e s e:=by
 obtain⟨hm,hk⟩:=List.mem_filter.1 he
 have hk3:e.kind=3:=by simpa using hk
 have ho:=h.en e hm
 have hl:e.a0e.length=1:=by
  rcases ho.kd with ⟨a,_⟩|⟨_,_,_,d⟩
  ·omega
  ·exact d
 obtain⟨⟨fr,til⟩,hs⟩:=List.length_eq_one_iff.1 hl
 have hp:=ho.sp (fr,til) (by rw[hs];exact List.mem_singleton.2 rfl)
 exact⟨hk3,e3H h ht hm,ho.u1,ho.u9,fr,til,hs,hp.2.1,by rw[<- hs];exact h.no e hm hk3⟩
theorem f2k{s:St}(h:Inv s):(s.es.filter (fun e=>e.kind==3)).Pairwise (fun a b=>a.id<b.id):=by
 have:=Desk.a5J (fun e=>e.kind==3) h.ids
 unfold Ids at this
 rwa [List.pairwise_map] at this
theorem e2U:∀ {es:List Ent},Ids es->∀ {x y:Ent},x∈es->y∈es->x.id=y.id->x=y
 |[],_,_,_,hx,_,_=>absurd hx (by simp)
 |z :: r,h,x,y,hx,hy,e=>by
  unfold Ids at h
  rw[List.map_cons,List.pairwise_cons] at h
  rcases List.mem_cons.1 hx with ex|kx <;> rcases List.mem_cons.1 hy with ey|ky
  ·rw[ex,ey]
  ·have:=h.1 y.id (List.mem_map.2 ⟨y,ky,rfl⟩);rw[ex] at e;omega
  ·have:=h.1 x.id (List.mem_map.2 ⟨x,kx,rfl⟩);rw[ey] at e;omega
  ·exact e2U h.2 kx ky e
theorem e0Z:∀ {es:List Ent}{e:Ent},e∈es->(∀ x∈es,x.id=e.id->x=e)->d3M es e.id=e.kind
 |[],_,h,_=>absurd h (by simp)
 |z :: r,e,h,hu=>by
  unfold d3M
  by_cases c:z.id=e.id
  ·rw[if_pos c,hu z (List.mem_cons_self ..) c]
  ·rw[if_neg c]
   rcases List.mem_cons.1 h with rfl|h
   ·exact absurd rfl c
   ·exact e0Z h fun x hx=>hu x (List.mem_cons_of_mem _ hx)
theorem d9D{s:St}(h:Inv s){nm:ByteArray}{e:Ent}:e∈a2x nm 0 1048320 s.es↔e∈s.es/\ofB nm e=true:=by
 unfold a2x
 rw[Desk.a4U,List.mem_filter]
 refine and_congr_right fun he=>?_
 rw[Desk.b6e (h.en e he)]
theorem f0M{s:St}(h:Inv s){A B:Int}(ht:s.ts=(a3Z A B).ts){e:Ent}(he:e∈s.es)(hk:e.kind=1):d3M (a2x (⟨#[97]⟩:ByteArray) 0 1048320 s.es) e.id+d3M (a2x (⟨#[98]⟩:ByteArray) 0 1048320 s.es) e.id=1:=by
 have hof:∀ nm:ByteArray,e.a0k=nm->ofB nm e=true:=fun nm hn=>by unfold ofB;rw[a4l.2 hn,hk];rfl
 have hno:∀ nm:ByteArray,e.a0k≠nm->∀ x∈a2x nm 0 1048320 s.es,x.id≠e.id:=fun nm hn x hx hid=>by
  obtain⟨a,b⟩:=(d9D h).1 hx
  have:=e2U h.ids a he hid
  subst this
  unfold ofB at b
  rw[Bool.and_eq_true] at b
  exact hn (a4l.1 b.1)
 have hin:∀ nm:ByteArray,e.a0k=nm->d3M (a2x nm 0 1048320 s.es) e.id=1:=fun nm hn=>by
  rw[e0Z ((d9D h).2 ⟨he,hof nm hn⟩) fun x hx hid=>e2U h.ids ((d9D h).1 hx).1 he hid,hk]
 rcases e3H h ht he with hn|hn
 ·rw[hin _ hn,d3y (hno ⟨#[98]⟩ (by rw[hn];decide))];rfl
 ·rw[hin _ hn,d3y (hno ⟨#[97]⟩ (by rw[hn];decide))];rfl
theorem f2V{s:St}{t:ByteArray}(h:f3A s t):
  ((stepT s t).2.err=0->(0:Int)<=((s.es.filter (fun e=>e.kind==3)).length:Int)-(((stepT s t).1.es.filter (fun e=>e.kind==3)).length:Int)-((stepT s t).2.granted.length:Int)+(if t.data.toList[0]?=some 119 then 1 else 0)) /\
  ((stepT s t).2.err≠0->((s.es.filter (fun e=>e.kind==3)).length:Int)-(((stepT s t).1.es.filter (fun e=>e.kind==3)).length:Int)-((stepT s t).2.granted.length:Int)=0):=by
 refine⟨fun h0=>?_,fun h0=>?_⟩
 ·have:=(h.e6J h0).1
  unfold Desk.a1Y at this
  omega
 ·obtain⟨a,b⟩:=h.bad h0
  rw[a,b]
  simp
open Desk (Ent St Ids ofB a0y a1H Inv a0h a2x a1e a1q a0g a2t Rep a0z e0B d1v a0o a0r a0C a0Q)
def c9z(j:Nat)(k:Int):Ent:=⟨(j:Int)+1,if k=0 then 1 else 2,nmC,1,[(10*(j:Int),10*(j:Int)+5)],k⟩
def c9m:Nat->List Int->List Ent
 |_,[]=>[]
 |j,k :: r=>c9z j k :: c9m (j+1) r
def d8w(now:Int)(e:Ent):Bool:=(e.kind==1) || decide (now<e.a0Z)
def c8w(T:List Int)(now:Int):St:=⟨(a3Z 1 9).ts,(c9m 0 T).filter (d8w now),(T.length:Int),now⟩
theorem d7S:∀ (T:List Int)(j:Nat),(c9m j T).length=T.length
 |[],_=>rfl
 |_ :: r,j=>by simp[c9m,d7S r (j+1)]
theorem d4a(k:Int):∀ (T:List Int)(j:Nat),c9m j (T++[k])=c9m j T++[c9z (j+T.length) k]
 |[],j=>by simp[c9m]
 |x :: r,j=>by
  simp only[List.cons_append,c9m,d4a k r (j+1),List.length_cons]
  rw[show j+1+r.length=j+(r.length+1) from by omega]
theorem c9W{e:Ent}:∀ {T:List Int}{j:Nat},e∈c9m j T↔∃ (i:Nat)(h:i<T.length),e=c9z (j+i) T[i]
 |[],j=>by simp[c9m]
 |x :: r,j=>by
  simp only[c9m,List.mem_cons,c9W (T:=r) (j:=j+1)]
  constructor
  ·rintro (rfl|⟨i,h,rfl⟩)
   ·exact⟨0,by simp,rfl⟩
   ·exact⟨i+1,by simpa using h,by simp only[List.getElem_cons_succ];rw[show j+1+i=j+(i+1) from by omega]⟩
  ·rintro ⟨i,h,rfl⟩
   cases i with
   |zero=>exact .inl rfl
   |succ i=>exact .inr ⟨i,by simpa using h,by simp only[List.getElem_cons_succ];rw[show j+1+i=j+(i+1) from by omega]⟩
theorem d1f{j:Nat}{k now:Int}(_:0<=k)(_:0<=now):d8w now (c9z j k)=decide (k=0\/now<k):=by
 unfold d8w c9z
 by_cases c:k=0
 ·subst c;simp
 ·simp[c]
theorem d7T{T:List Int}(hT:∀ k∈T,0<=k):(c9m 0 T).filter (d8w 0)=c9m 0 T :=
 List.filter_eq_self.2 fun e he=>by
  obtain⟨i,h,rfl⟩:=c9W.1 he
  have h0:=hT _ (List.getElem_mem h)
  rw[d1f h0 (by omega),decide_eq_true_eq]
  omega
theorem d2h{T:List Int}{now:Int}{e:Ent}(he:e∈(c8w T now).es):e.kind≠3:=by
 obtain⟨i,h,rfl⟩:=c9W.1 (List.mem_filter.1 he).1
 unfold c9z
 simp only
 split <;> omega
theorem e1k{name:ByteArray}{x:Int}:∀ {es:List Ent},(∀ e∈es,e.a0c=1/\e.a0e.length=1)->a0o name x es<=(es.length:Int)
 |[],_=>by simp[a0o]
 |e :: r,h=>by
  have h1:=h e (List.mem_cons_self ..)
  have h2:=e1k (name:=name) (x:=x) (es:=r) fun y hy=>h y (List.mem_cons_of_mem _ hy)
  have h3:=(Desk.a4Q e.a0e x).2
  simp only[a0o,List.length_cons]
  split
  ·rw[h1.1];rw[h1.2] at h3;omega
  ·omega
theorem e4o:a0h nmC (a3Z 1 9).ts=9:=b9a 1 9
theorem e9G{T:List Int}(hi:Inv (c8w T 0))(hT:∀ k∈T,0<=k)(hl:T.length<=8){k:Int}(k1:1<=k)(k2:k<=1000):
  a1q (c8w T 0) (.enter 2 nmC 1 (10*(T.length:Int)) (10*(T.length:Int)+5) k)=(c8w (T++[k]) 0,Rep.num ((T.length:Int)+1)):=by
 have es0:(c8w T 0).es=c9m 0 T:=d7T hT
 have hf:a1e (c8w T 0).ts (c8w T 0).es nmC 1 [(10*(T.length:Int),10*(T.length:Int)+5)]=true:=by
  rw[Desk.a6S hi.mid.pos (by omega)]
  intro x _ _
  have h1:a0o nmC x (c8w T 0).es<=((c8w T 0).es.length:Int):=e1k fun e he=>by
   obtain⟨i,h,rfl⟩:=c9W.1 (List.mem_filter.1 he).1
   exact⟨rfl,rfl⟩
  rw[es0,d7S] at h1
  have h2:a0h nmC (c8w T 0).ts=9:=e4o
  rw[h2,es0]
  omega
 have ha:Desk.a0S (c8w T 0).ts nmC 1=0:=by
  unfold Desk.a0S
  have h2:a0h nmC (c8w T 0).ts=9:=e4o
  rw[h2];rfl
 have he:Desk.a1M (c8w T 0) 2 nmC 1 (10*(T.length:Int)) (10*(T.length:Int)+5) k=0:=by
  unfold Desk.a1M
  have n0:(c8w T 0).now=0:=rfl
  have g0:(c8w T 0).given=(T.length:Int):=rfl
  rw[if_neg (by rw[ha];simp),if_neg (by rw[n0];omega),if_neg (by rw[g0];omega),if_neg (by omega),if_pos hf]
 have hd:a0g (c8w T 0) (.enter 2 nmC 1 (10*(T.length:Int)) (10*(T.length:Int)+5) k)=(c8w (T++[k]) 0,Rep.num ((T.length:Int)+1)):=by
  simp only[a0g]
  rw[he,if_neg (by simp)]
  have hT':∀ x∈T++[k],0<=x:=fun x hx=>by
   rcases List.mem_append.1 hx with hx|hx
   ·exact hT x hx
   ·rw[List.mem_singleton.1 hx];omega
  have e1:(c8w (T++[k]) 0).es=c9m 0 T++[c9z (0+T.length) k]:=(d7T hT').trans (d4a k T 0)
  have e2:a2t (c8w T 0) (Desk.a8p (c8w T 0) 2 nmC 1 (10*(T.length:Int)) (10*(T.length:Int)+5) k)=(⟨(a3Z 1 9).ts,(c8w T 0).es++[c9z (0+T.length) k],(T.length:Int)+1,0⟩,Rep.num ((T.length:Int)+1)):=by
   have:(c9z (0+T.length) k)=⟨(T.length:Int)+1,2,nmC,1,[(10*(T.length:Int),10*(T.length:Int)+5)],k⟩:=by
    unfold c9z;rw[if_neg (by omega),Nat.zero_add]
   rw[this]
   have:(0:Int)+k=k:=Int.zero_add k
   simp[a2t,Desk.a8p,c8w,this]
  rw[e2,es0,<- e1]
  have e3:(c8w (T++[k]) 0).given=(T.length:Int)+1:=by simp[c8w]
  rw[<- e3]
  rfl
 unfold a1q
 rw[hd,if_neg (by simp[Rep.num]),Desk.d2D fun e he=>d2h he]
 simp[Rep.num]
theorem e2j{T:List Int}{k:Int}:Desk.a5S ((T.length:Int)+1) (c9m 0 T++[c9z (0+T.length) k])=some (c9z (0+T.length) k):=by
 unfold Desk.a5S
 rw[List.find?_append,List.find?_eq_none.2 fun e he=>by
  obtain⟨i,h,rfl⟩:=c9W.1 he
  simp only[decide_eq_true_eq]
  unfold c9z
  simp only
  omega]
 simp[c9z]
theorem e3o{T:List Int}(hT:∀ k∈T,0<=k){k:Int}(hk:0<=k):(c8w (T++[k]) 0).es=c9m 0 T++[c9z (0+T.length) k]:=by
 have hT':∀ x∈T++[k],0<=x:=fun x hx=>by
  rcases List.mem_append.1 hx with hx|hx
  ·exact hT x hx
  ·rw[List.mem_singleton.1 hx];omega
 exact (d7T hT').trans (d4a k T 0)
theorem e2x{T:List Int}(hT:∀ k∈T,0<=k){k:Int}(k1:1<=k):a1q (c8w (T++[k]) 0) (.confirm ((T.length:Int)+1))=(c8w (T++[0]) 0,Rep.num 0):=by
 have e1:=e3o hT (k:=k) (by omega)
 have e0:=e3o hT (k:=0) (by omega)
 have kd:(c9z (0+T.length) k).kind=2:=by unfold c9z;simp only;rw[if_neg (by omega)]
 have hb:a0C ((T.length:Int)+1) (c8w (T++[k]) 0).es=(c8w (T++[0]) 0).es:=by
  rw[e1,e0]
  unfold a0C
  rw[List.map_append]
  congr 1
  ·conv=>rhs;rw[<- List.map_id (c9m 0 T)]
   refine List.map_congr_left fun e he=>?_
   obtain⟨i,h,rfl⟩:=c9W.1 he
   rw[if_neg (by unfold c9z;simp only;omega)]
   rfl
  ·simp only[List.map_cons,List.map_nil]
   rw[if_pos (by unfold c9z;simp)]
   simp[a0Q,c9z]
 have hd:a0g (c8w (T++[k]) 0) (.confirm ((T.length:Int)+1))=(c8w (T++[0]) 0,Rep.num 0):=by
  simp only[a0g]
  have hf:Desk.a5S ((T.length:Int)+1) (c8w (T++[k]) 0).es=some (c9z (0+T.length) k):=by rw[e1];exact e2j
  rw[hf]
  simp only
  rw[if_neg (by rw[kd];simp),hb]
  simp[c8w]
 unfold a1q
 rw[hd,if_neg (by simp[Rep.num]),Desk.d2D fun e he=>d2h he]
 simp[Rep.num]
theorem e7P{T:List Int}(hT:∀ k∈T,0<=k):a1q (c8w (T++[0]) 0) (.confirm ((T.length:Int)+1))=(c8w (T++[0]) 0,Rep.error 10):=by
 have e0:=e3o hT (k:=0) (by omega)
 have hd:a0g (c8w (T++[0]) 0) (.confirm ((T.length:Int)+1))=(c8w (T++[0]) 0,Rep.error 10):=by
  simp only[a0g]
  have hf:Desk.a5S ((T.length:Int)+1) (c8w (T++[0]) 0).es=some (c9z (0+T.length) 0):=by rw[e0];exact e2j
  rw[hf]
  simp only
  rw[if_pos (by unfold c9z;simp)]
 unfold a1q
 rw[hd,if_pos (by simp[Rep.error])]
def d3c(T:List Int)(t:Int):List Int:=((c9m 0 T).filter (a0z t)).map (·.id)
def c9t(T:List Int):Nat->Int->List Int
 |0,_=>[]
 |k+1,now=>d3c T (now+1)++c9t T k (now+1)
theorem e7W(T:List Int):∀ (k:Nat)(now:Int),d1v (c9m 0 T) k now=c9t T k now
 |0,_=>rfl
 |k+1,now=>by simp only[d1v,c9t,e7W T k (now+1)];rfl
theorem e1e(T:List Int):∀ (k:Nat)(now:Int),c9t T (k+1) now=c9t T k now++d3c T (now+((k:Int)+1))
 |0,now=>by simp[c9t]
 |k+1,now=>by
  have h:=e1e T k (now+1)
  show d3c T (now+1)++c9t T (k+1) (now+1)=(d3c T (now+1)++c9t T k (now+1))++_
  rw[h,List.append_assoc]
  have:now+1+((k:Int)+1)=now+(((k+1:Nat):Int)+1):=by omega
  rw[this]
def c9S(T:List Int)(t:Int)(n:Nat):List Int:=d3c (T.take n) t
theorem e7V{T:List Int}{t:Int}(ht:1<=t){n:Nat}(h:n<T.length):c9S T t (n+1)=if T[n]=t then c9S T t n++[(n:Int)+1] else c9S T t n:=by
 unfold c9S d3c
 rw[List.take_succ_eq_append_getElem h,d4a,List.filter_append,List.map_append]
 have e:0+(T.take n).length=n:=by rw[List.length_take];omega
 rw[e]
 have hb:a0z t (c9z n T[n])=decide (T[n]=t):=by
  unfold a0z c9z
  by_cases c:T[n]=0
  ·rw[c];simp;omega
  ·simp[c]
 by_cases c:T[n]=t
 ·have h1:a0z t (c9z n T[n])=true:=by rw[hb];simpa using c
  rw[if_pos c,List.filter_cons,if_pos h1]
  rfl
 ·have h1:¬ a0z t (c9z n T[n])=true:=by rw[hb];simpa using c
  rw[if_neg c,List.filter_cons,if_neg h1]
  simp
theorem d8V(T:List Int)(t:Int):(d3c T t).length<=T.length:=by
 unfold d3c
 rw[List.length_map]
 have:=List.length_filter_le (a0z t) (c9m 0 T)
 rw[d7S] at this
 exact this
theorem d7d(T:List Int):∀ (k:Nat)(now:Int),(c9t T k now).length<=k*T.length
 |0,_=>by simp[c9t]
 |k+1,now=>by
  have h1:=d8V T (now+1)
  have h2:=d7d T k (now+1)
  simp only[c9t,List.length_append]
  rw[Nat.succ_mul]
  omega
theorem e8h{T:List Int}{now k:Int}(h:Inv (c8w T now))(hT:∀ x∈T,0<=x)(n0:0<=now)(k1:1<=k)(hk:now+k<=1048320):
  a1q (c8w T now) (.tick k)=(c8w T (now+k),⟨0,0,now+k,[],[],[],c9t T k.toNat now⟩):=by
 have e:=Desk.d8e (c8w T now).ts (c8w T now).given ((c8w T now).now+k) (by show now+k<=1048320;exact hk) ((c8w T now).es.length+1) (c8w T now).es (c8w T now).now (.inl (by omega)) (by show now<=now+k;omega) h
 have en:((c8w T now).now+k-(c8w T now).now).toNat=k.toNat:=by omega
 rw[en,Desk.d9o _ _ _ _ fun e he=>d2h he] at e
 have e1:(c8w T now).es.filter (fun e=>!e0B (c8w T now).now k.toNat e)=(c8w T (now+k)).es:=by
  show ((c9m 0 T).filter (d8w now)).filter _=(c9m 0 T).filter (d8w (now+k))
  rw[List.filter_filter]
  refine List.filter_congr fun e he=>?_
  obtain⟨i,hi,rfl⟩:=c9W.1 he
  have h0:=hT _ (List.getElem_mem hi)
  have hn:(c8w T now).now=now:=rfl
  rw[d1f h0 n0,d1f h0 (by omega),hn]
  unfold e0B c9z
  by_cases c:T[i]=0
  ·simp[c]
  ·simp only[c,if_false,false_or]
   have e2:((2:Int) != 1)=true:=rfl
   rw[e2,Bool.true_and,<- decide_not,<- Bool.decide_and]
   apply decide_eq_decide.2
   omega
 have e2:d1v (c8w T now).es k.toNat (c8w T now).now=c9t T k.toNat now:=by
  rw[<- e7W]
  refine Desk.d3B k.toNat now fun i _=>?_
  congr 1
  show ((c9m 0 T).filter (d8w now)).filter _=_
  rw[List.filter_filter]
  refine List.filter_congr fun e he=>?_
  obtain⟨j,hj,rfl⟩:=c9W.1 he
  have h0:=hT _ (List.getElem_mem hj)
  rw[d1f h0 n0]
  unfold a0z c9z
  by_cases c:T[j]=0
  ·simp[c]
  ·by_cases d:T[j]=now+1+(i:Int)
   ·simp[d]
    omega
   ·simp[d]
 have hd:a0g (c8w T now) (.tick k)=(c8w T (now+k),⟨0,0,now+k,[],[],[],c9t T k.toNat now⟩):=by
  simp only[a0g]
  rw[if_neg (by show ¬ 1048320<now+k;omega),e,e1,e2]
  simp[c8w,Rep.num]
 unfold a1q
 rw[hd,if_neg (by simp),Desk.d2D fun e he=>d2h he]
 simp
theorem e9E{T:List Int}{now:Int}(h:Inv (c8w T now))(hT:∀ x∈T,0<=x)(n0:0<=now){j:Nat}(hj:j<T.length):
  d3M (a2x nmC 0 1048320 (c8w T now).es) ((j:Int)+1)=if T[j]=0 then 1 else if now<T[j] then 2 else 0:=by
 have h0:=hT _ (List.getElem_mem hj)
 have hm:c9z j T[j]∈c9m 0 T:=c9W.2 ⟨j,hj,by rw[Nat.zero_add]⟩
 by_cases c:T[j]=0\/now<T[j]
 ·have hin:c9z j T[j]∈(c8w T now).es:=List.mem_filter.2 ⟨hm,by rw[d1f h0 n0];simpa using c⟩
  have hof:ofB nmC (c9z j T[j])=true:=by
   unfold ofB
   have:a0y (c9z j T[j]).a0k nmC=true:=a4l.2 rfl
   rw[this]
   have:=d2h hin
   simpa using this
  have:=e0Z ((d9D h).2 ⟨hin,hof⟩) fun x hx hid=>e2U h.ids ((d9D h).1 hx).1 hin hid
  have e1:(c9z j T[j]).id=(j:Int)+1:=rfl
  rw[e1] at this
  rw[this]
  show (if T[j]=0 then (1:Int) else 2)=_
  by_cases d:T[j]=0
  ·rw[if_pos d,if_pos d]
  ·rw[if_neg d,if_neg d,if_pos (by omega)]
 ·rw[if_neg (by omega),if_neg (by omega)]
  refine d3y fun x hx hid=>?_
  obtain⟨a,_⟩:=(d9D h).1 hx
  obtain⟨m1,m2⟩:=List.mem_filter.1 a
  obtain⟨i,hi,rfl⟩:=c9W.1 m1
  have e1:(c9z (0+i) T[i]).id=(i:Int)+1:=by unfold c9z;simp
  rw[e1] at hid
  have:i=j:=by omega
  subst this
  rw[d1f h0 n0] at m2
  exact c (by simpa using m2)
open Desk (Ent St Inv a0h a2x)
theorem d7w{P:Program}(w:World)(t ty:TypeId)(base:Nat)(e:TypeId)(i:TypeInfo)(z:Value)(size bytes:Nat)(ht:P.underlying t=some (.slice e))(hi:P.info? e=some i)(hz:i.zero=some z)
  (hsize:i.size=size) (hby:i.bytes=bytes) (hzs:z.cells.size=size) (hsz:0<size)
  (v:Value) (n:Nat) (xs:List Value) (hown:w.ownsRow base e size v n xs)
  (ad:Addr) (c:Nat) (news:List Value) (hl:news.length=1*size) (hnews:∀ j u,news[j]?=some u->w.cell? (ad.add j)=some u) (h1:∀ u∈news,u.oneCell'=true)
  (h63:n+1<=maxLen) (hbytes:(n+1)*bytes<=140737488355328) (hbase:base<=w.heap.size):
  ∃ g cap w',(Builtin.append_ #[t,t] ty #[v,.slice (some ad) 1 c]).run P w=.ok (.slice (some ⟨g,0,none⟩) (n+1) cap) w' /\
   w'.ownsRow base e size (.slice (some ⟨g,0,none⟩) (n+1) cap) (n+1) (xs++news)/\w.grownBy w' v.ownBlock/\(v.ownBlock=some g\/(g=w.heap.size/\w.grownBy w' none)):=by
 obtain⟨g,cap,w',hr,h2,h3,_,_⟩:=run_append_lies (P:=P) w t ty base e i z size bytes ht hi hz hsize hby hzs hsz v n xs hown ad 1 c news hl hnews h1 (by omega) h63 hbytes hbase _ rfl
 refine⟨g,cap,w',hr,h2,h3,?_⟩
 subst hsize
 subst hby
 have hsmall:n+1<=9223372036854775807:=by simp only[maxLen] at h63;omega
 rcases hown.2 with ⟨rfl,rfl⟩|⟨g0,cap0,cur,rfl,hbg,hg,hnc,hcm,hcs,htake⟩
 ·have hr2:=run_append_nil (P:=P) w t ty e i z ht hi hz ad 1 c news hl hnews (by omega) (by omega) (by have hb:=hbytes;simp only[Nat.zero_add] at hb;omega)
  rw[hr2] at hr
  injection hr with e1 e2
  subst e2
  injection e1 with e3 e4 e5
  injection e3 with e6
  injection e6 with e7
  exact .inr ⟨e7.symm,⟨rfl,rfl,rfl,by simp,fun k hk _=>((Below.refl w.drew.heap.size w.drew).alloc (Nat.le_refl _) _).block k hk⟩⟩
 ·by_cases hroom:n+1<=cap0
  ·have hfit:n*i.size+news.length<=cur.size:=by rw[hl,hcs,<- Nat.add_mul];exact Nat.mul_le_mul_right _ hroom
   have hr2:=run_append_room (P:=P) w t ty e i ht hi g0 n cap0 cur hg ad 1 c news hl hnews h1 hroom hfit
   rw[hr2] at hr
   injection hr with e1 e2
   injection e1 with e3 e4 e5
   injection e3 with e6
   injection e6 with e7
   exact .inl (by rw[<- e7];rfl)
  ·have holds:∀ j u,xs[j]?=some u->w.cell? ((⟨g0,0,none⟩:Addr).add j)=some u:=hown.cells (g:=g0) rfl
   have hr2:=run_append_grow (P:=P) w t ty e i z ht hi hz ⟨g0,0,none⟩ n cap0 xs hown.1 holds ad 1 c news hl hnews (by omega) (by omega) (growslice_fits (by omega) hbytes)
   rw[hr2] at hr
   injection hr with e1 e2
   subst e2
   injection e1 with e3 e4 e5
   injection e3 with e6
   injection e6 with e7
   exact .inr ⟨e7.symm,⟨rfl,rfl,rfl,by simp,fun k hk _=>((Below.refl w.drew.heap.size w.drew).alloc (Nat.le_refl _) _).block k hk⟩⟩
theorem d4R{P:Program}(w:World){ops:Array Oper}{rest:List Oper}{o:Oper}{a:Act}{Q:Exit->Act->World->Prop}(hgd:o.guard=none)(s x:Operand)(t:TypeId)
  (ho:o.op=.call { callee:=.builtin .append,args:=#[s,x],argTypes:=#[t,t] })
  (base:Nat) (e:TypeId) (i:TypeInfo) (z:Value) (size bytes:Nat) (ht:P.underlying t=some (.slice e)) (hi:P.info? e=some i) (hz:i.zero=some z)
  (hsize:i.size=size) (hby:i.bytes=bytes) (hzs:z.cells.size=size) (hsz:0<size)
  (v:Value) (n:Nat) (xs:List Value) (hs:a.eval s=v) (hown:w.ownsRow base e size v n xs)
  (ad:Addr) (c:Nat) (news:List Value) (hx:a.eval x=.slice (some ad) 1 c) (hl:news.length=1*size) (hnews:∀ j u,news[j]?=some u->w.cell? (ad.add j)=some u) (h1:∀ u∈news,u.oneCell'=true)
  (h63:n+1<=maxLen) (hbytes:(n+1)*bytes<=140737488355328) (hbase:base<=w.heap.size)
  (h:∀ g cap w',w'.ownsRow base e size (.slice (some ⟨g,0,none⟩) (n+1) cap) (n+1) (xs++news)->w.grownBy w' v.ownBlock->(v.ownBlock=some g\/(g=w.heap.size/\w.grownBy w' none))->wpList P ops Q rest (a.put o.dst (.slice (some ⟨g,0,none⟩) (n+1) cap)) w'):
  wpList P ops Q (o :: rest) a w:=by
 refine wpList_plain hgd fun K hK=>?_
 obtain⟨g,cap,w',hr,h2,h3,h4⟩:=d7w (P:=P) w t o.type base e i z size bytes ht hi hz hsize hby hzs hsz v n xs hown ad c news hl hnews h1 h63 hbytes hbase
 unfold Oper.wp execOp
 simp only[ho,resolve,invoke,builtin,Sem.run_bind,Sem.run_pure,Result.andThen_ok,List.map_toArray,List.map_cons,List.map_nil,hs,hx,hr]
 exact hK _ _ (h g cap w' h2 h3 h4)
theorem CN.grown{X W W2 W3:World}{p dk:Nat}{s:St}{ks:List (Nat × Obj)}{v:Value}{l:List Int}(h:CN X W p dk s ks [] [(v,l)])(h10:10<=X.heap.size){N:Nat}(hX:X.heap.size<=N)(hp:p<N)(hks:∀ q∈ks,q.1<N)(hv:∀ b,v.ownBlock=some b->N<=b)
  (k:Below W.heap.size W W2) (k3:Off v.ownBlock.toList W2 W3) {g2 cap:Nat}{x:Int}(hown:W3.ownsRow 0 3 1 (.slice (some ⟨g2,0,none⟩) (l.length+1) cap) (l.length+1) (l.map (Value.int .i64)++[.int .i64 x])) (hat:v.ownBlock=some g2\/(W2.heap.size<=g2/\Below W2.heap.size W2 W3)):
  CN X W3 p dk s ks [] [(.slice (some ⟨g2,0,none⟩) (l.length+1) cap,l++[x])]:=by
 obtain⟨r,col,d,kb,_,n⟩:=h
 have row:a2I W 0 col v l:=n (v,l) (List.mem_cons_self ..)
 have d2:=d.later k
 have hown':W3.ownsRow 0 3 1 (.slice (some ⟨g2,0,none⟩) (l.length+1) cap) (l++[x]).length ((l++[x]).map (Value.int .i64)):=by
  rw[List.length_append,List.map_append];exact hown
 rcases hat with e1|⟨e1,e2⟩
 ·have hb:N<=g2:=hv g2 e1
  have hc:=row.no g2 e1
  rw[e1] at k3
  have k3':Off [g2] W2 W3:=k3
  have kbl:∀ M,M<=X.heap.size->Below M W2 W3:=fun M hM=>⟨k3'.os,k3'.tape,k3'.output,k3'.size,fun x hx=>k3'.block x (Nat.lt_of_lt_of_le hx (Nat.le_trans hM d2.bl.size)) (by simp;omega)⟩
  refine⟨r,col,?_,fun q hq=>?_,by simp,fun q hq=>?_⟩
  ·exact⟨⟨(k3'.block p (Array.getElem?_eq_some_iff.1 d2.bd.pc).1 (by simp;omega)).trans d2.bd.pc,d2.bd.pn,⟨d2.bd.ds.dk.off k3' (fun x hx=>by have:x=g2:=List.mem_singleton.1 hx;subst this;exact hc),d2.bd.ds.of,d2.bd.ds.wl,d2.bd.ds.hl,d2.bd.ds.inv⟩,d2.bd.env.ten (kbl 10 h10),d2.bd.gl⟩,d2.bl.trans (kbl _ (Nat.le_refl _)),d2.lo⟩
  ·have k0:=(kb q hq).later k
   have hq1:=hks q hq
   exact⟨(k3'.block q.1 (Array.getElem?_eq_some_iff.1 k0.h).1 (by simp;omega)).trans k0.h,k0.c⟩
  ·rw[List.mem_singleton.1 hq]
   exact⟨hown',fun b hb=>by
    have:g2=b:=by simpa[Value.ownBlock] using hb
    subst this;exact hc⟩
 ·refine⟨r,col,d2.later e2,fun q hq=>((kb q hq).later k).later e2,by simp,fun q hq=>?_⟩
  rw[List.mem_singleton.1 hq]
  exact⟨hown',fun b hb=>by
   have:g2=b:=by simpa[Value.ownBlock] using hb
   subst this
   exact d.none (Nat.le_trans k.size e1)⟩
theorem CN.next{X W:World}{p dk:Nat}{s:St}{ns:List (Value × List Int)}{F a:Nat}{t:ByteArray}(h:CN X W p dk s [(F,a8o t a)] [] ns)(h10:10<=X.heap.size)(hX:X.heap.size<=F)(hp:p≠F)(hn:∀ q∈ns,∀ c,q.1.ownBlock=some c->c≠F)(ha:a<=t.size)(hs:t.size<=9223372036854775807)(n:Int)(h1:1<=n)(h2:n<=1000):
  Calls Tryz.prog 25 #[.pointer (some ⟨F,0,none⟩),.int .i64 n] W fun e W'=>∃ (v:Int) (a':Nat),e=.returned (.int .i64 v)/\0<=v/\v<n/\a'<=t.size/\CN X W' p dk s [(F,a8o t a')] [] ns:=by
 have hf:FW W F t W:=⟨⟨a,h.cx.kb (List.mem_cons_self ..),ha,hs⟩,h.cx.env,Off.refl _ _,Nat.le_trans h10 hX⟩
 refine (a1h hf n h1 h2).mono ?_
 rintro e W' ⟨v,rfl,v0,v1,kf⟩
 obtain⟨a',fd⟩:=kf.fd
 refine⟨v,a',rfl,v0,v1,fd.le,?_⟩
 have k:Off [F] W W':=kf.off
 obtain⟨r,col,d,kk,_,nn⟩:=h
 have hc:=(kk (F,a8o t a) (List.mem_cons_self ..)).c
 refine⟨r,col,?_,fun q hq=>?_,by simp,fun q hq=>⟨a1i (nn q hq).own k (fun b hb=>by simp;exact hn q hq b hb),(nn q hq).no⟩⟩
 ·have kb:∀ N,N<=X.heap.size->Below N W W':=fun N hN=>⟨k.os,k.tape,k.output,k.size,fun x hx=>k.block x (Nat.lt_of_lt_of_le hx (Nat.le_trans hN d.bl.size)) (by simp;omega)⟩
  exact⟨⟨(k.block p (Array.getElem?_eq_some_iff.1 d.bd.pc).1 (by simp;exact hp)).trans d.bd.pc,d.bd.pn,⟨d.bd.ds.dk.off k (fun x hx=>by have:x=F:=List.mem_singleton.1 hx;subst this;exact hc),d.bd.ds.of,d.bd.ds.wl,d.bd.ds.hl,d.bd.ds.inv⟩,d.bd.env.ten (kb 10 h10),d.bd.gl⟩,d.bl.trans (kb _ (Nat.le_refl _)),d.lo⟩
 ·rw[List.mem_singleton.1 hq]
  exact⟨fd.b,hc⟩
theorem CN.addRow{X W W':World}{p dk:Nat}{s:St}{ks:List (Nat × Obj)}{es:List (Value × List (Ent × Value))}{ns:List (Value × List Int)}(h:CN X W p dk s ks es ns)(k:Below W.heap.size W W'){v:Value}{l:List Int}(ho:W'.ownsRow W.heap.size 3 1 v l.length (l.map (Value.int .i64))):CN X W' p dk s ks es ((v,l) :: ns):=by
 obtain⟨r,col,d,b,e,n⟩:=h
 refine⟨r,col,d.later k,fun q hq=>(b q hq).later k,fun q hq=>(e q hq).step (S:=anyS) (B:=W.heap.size) (Step.below k) (Nat.le_refl _),fun q hq=>?_⟩
 rcases List.mem_cons.1 hq with rfl|hq
 ·exact⟨a9c ho (Nat.zero_le _),fun c hc=>d.none (ho.lt c hc).1⟩
 ·exact (n q hq).later k
theorem CN.cellN{X W:World}{p dk:Nat}{s:St}{ks:List (Nat × Obj)}{es:List (Value × List (Ent × Value))}{ns:List (Value × List Int)}(h:CN X W p dk s ks es ns){v:Value}{l:List Int}(hq:(v,l)∈ns)(k:Nat)(hk:k<l.length):∃ g cap,v=.slice (some ⟨g,0,none⟩) l.length cap/\W.cell? ⟨g,k,none⟩=some (.int .i64 l[k]):=by
 have ho:=h.nrow hq
 obtain⟨g,cap,e⟩:=Joins.ownsRow_form ho (by omega)
 subst e
 have a0:=ho.cellAt k (by omega)
 rw[List.getElem?_map,List.getElem?_eq_getElem hk] at a0
 exact⟨g,cap,rfl,a0⟩
structure IV(w:World)(v:Value)(l:List Int):Prop where
 form:∃ a cap,v=.slice a l.length cap
 cell:∀ (i:Nat) (hi:i<l.length),∃ b off cap,v=.slice (some ⟨b,off,none⟩) l.length cap/\w.cell? ⟨b,off+i,none⟩=some (.int .i64 l[i])
 bd:∀ x∈l,-9223372036854775808<=x/\x<=9223372036854775807
 len:l.length<=9223372036854775807
theorem e7r{t nm:ByteArray}{u fr til k:Int}(hn:Nm nm)(hu:1<=u/\u<=9)(hf:0<=fr/\fr<=1048320)(hl:0<=til/\til<=1048320)(hk:1<=k/\k<=1048320)(ht:t.data.toList=b5f.data.toList++32 :: (nm.data.toList++32 :: ((Txt.a0x u).data.toList++32 :: ((Txt.a0x fr).data.toList++32 :: ((Txt.a0x til).data.toList++32 :: (Txt.a0x k).data.toList))))):
  Reads t (.iface 150 (.agg #[.string nm,.int .i64 u,.int .i64 fr,.int .i64 til,.int .i64 k])):=by
 obtain⟨u1,u2,u3⟩:=c5P hu.1 hu.2
 obtain⟨f1,f2,f3⟩:=b1q hf.1 hf.2
 obtain⟨l1,l2,l3⟩:=b1q hl.1 hl.2
 obtain⟨k1,k2,k3⟩:=f5w hk.1 hk.2
 have hw:Txt.a1v t=[b5f,nm,Txt.a0x u,Txt.a0x fr,Txt.a0x til,Txt.a0x k]:=by
  refine Txt.a5p ?_ ?_
  ·rw[ht];simp only[List.map_cons,List.map_nil,Txt.a6Q,Txt.b3k]
  ·intro x hx
   simp only[List.mem_cons,List.not_mem_nil,or_false] at hx
   rcases hx with rfl|rfl|rfl|rfl|rfl|rfl
   ·exact a8t.2.2.1
   ·exact hn.w
   ·exact u3
   ·exact f3
   ·exact l3
   ·exact k3
 have hs:t.size<=160:=by
  have c:=Txt.a0I u (by omega) (by omega)
  have a:=Txt.a0I fr (by omega) (by omega)
  have b:=Txt.a0I til (by omega) (by omega)
  have d:=Txt.a0I k (by omega) (by omega)
  rw[<- Txt.a1l] at a b c d ⊢
  rw[ht]
  have:=hn.s
  rw[<- Txt.a1l] at this
  simp only[List.length_append,List.length_cons]
  have:b5f.data.toList.length=4:=rfl
  omega
 generalize hW:[b5f,nm,Txt.a0x u,Txt.a0x fr,Txt.a0x til,Txt.a0x k]=W at hw
 have t1:=takes (ws:=W) (n:=1) (x:=nm) (B:=nmB) (by rw[<- hW];rfl) hn.b
 have t2:=takes (ws:=W) (n:=2) (x:=Txt.a0x u) (B:=unB) (by rw[<- hW];rfl) u1
 have t3:=takes (ws:=W) (n:=3) (x:=Txt.a0x fr) (B:=a0n) (by rw[<- hW];rfl) f1
 have t4:=takes (ws:=W) (n:=4) (x:=Txt.a0x til) (B:=a0n) (by rw[<- hW];rfl) l1
 have t5:=takes (ws:=W) (n:=5) (x:=Txt.a0x k) (B:=miB) (by rw[<- hW];rfl) k1
 have h:=a2H.hold (ws:=W) (b1P (by rw[<- hW];rfl))
 simp only[a4T,a6y,t1.1,t2.1,t2.2,t3.1,t3.2,t4.1,t4.2,t5.1,t5.2,a8A (ws:=W) (n:=1) (by rw[<- hW];rfl) hn.b,u2,f2,l2,k2] at h
 exact a5G hw hs h (by rw[<- hW];rfl)
theorem e0N{t:ByteArray}{n:Int}(hn:0<=n/\n<=9999999)(ht:t.data.toList=a4z.data.toList++32 :: (Txt.a0x n).data.toList):
  Reads t (.iface 161 (.agg #[.int .i64 n])):=by
 obtain⟨n1,n2,n3⟩:=f6A hn.1 hn.2
 have hw:Txt.a1v t=[a4z,Txt.a0x n]:=by
  refine Txt.a5p ?_ ?_
  ·rw[ht];simp only[List.map_cons,List.map_nil,Txt.a6Q,Txt.b3k]
  ·intro x hx
   simp only[List.mem_cons,List.not_mem_nil,or_false] at hx
   rcases hx with rfl|rfl
   ·exact a8t.2.2.2.2.2.1
   ·exact n3
 have hs:t.size<=160:=by
  have a:=Txt.a0I n (by omega) (by omega)
  rw[<- Txt.a1l] at a ⊢
  rw[ht]
  simp only[List.length_append,List.length_cons]
  have:a4z.data.toList.length=7:=rfl
  omega
 generalize hW:[a4z,Txt.a0x n]=W at hw
 have t1:=takes (ws:=W) (n:=1) (x:=Txt.a0x n) (B:=idB) (by rw[<- hW];rfl) n1
 have h:=a2H.confirm (ws:=W) (b1P (by rw[<- hW];rfl))
 simp only[a4T,a6y,t1.1,t1.2,n2] at h
 exact a5G hw hs h (by rw[<- hW];rfl)
theorem e6A{t:ByteArray}{n:Int}(hn:1<=n/\n<=1048320)(ht:t.data.toList=b4n.data.toList++32 :: (Txt.a0x n).data.toList):
  Reads t (.iface 176 (.agg #[.int .i64 n])):=by
 obtain⟨n1,n2,n3⟩:=f5w hn.1 hn.2
 have hw:Txt.a1v t=[b4n,Txt.a0x n]:=by
  refine Txt.a5p ?_ ?_
  ·rw[ht];simp only[List.map_cons,List.map_nil,Txt.a6Q,Txt.b3k]
  ·intro x hx
   simp only[List.mem_cons,List.not_mem_nil,or_false] at hx
   rcases hx with rfl|rfl
   ·exact a8t.2.2.2.2.2.2.2.2.2
   ·exact n3
 have hs:t.size<=160:=by
  have a:=Txt.a0I n (by omega) (by omega)
  rw[<- Txt.a1l] at a ⊢
  rw[ht]
  simp only[List.length_append,List.length_cons]
  have:b4n.data.toList.length=4:=rfl
  omega
 generalize hW:[b4n,Txt.a0x n]=W at hw
 have t1:=takes (ws:=W) (n:=1) (x:=Txt.a0x n) (B:=miB) (by rw[<- hW];rfl) n1
 have h:=a2H.tick (ws:=W) (b1P (by rw[<- hW];rfl))
 simp only[a4T,a6y,t1.1,t1.2,n2] at h
 exact a5G hw hs h (by rw[<- hW];rfl)
end Go.Proofs.YtjfkfiffakbagaaGreatDoor
