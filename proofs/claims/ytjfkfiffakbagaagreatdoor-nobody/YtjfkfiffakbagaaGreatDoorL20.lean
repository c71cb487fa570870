/-
  Parts of the proof, one behind the other.
-/
import Derived.Test.YtjfkfiffakbagaaGreatDoorL19
import Derived.Test.YtjfkfiffakbagaaGreatDoorRows
import Derived.Test.YtjfkfiffakbagaaGreatDoorCards
import Derived.Test.YtjfkfiffakbagaaGreatDoorTie
import Derived.BigQuiet
import Derived.WalkKit
import Derived.ProofKit
import Derived.Deep.DeepWitnessRowRef
import Derived.LaidLaws
import Derived.OpenShut
import Derived.Deep.Slices
import Derived.Deep.DeepHandedRow
import Derived.Lib.LaidTab
import Derived.Lib.LaidU8
import Derived.Shelf.Vars
set_option maxRecDepth 100000
set_option maxHeartbeats 8000000
namespace Go.Proofs.YtjfkfiffakbagaaGreatDoor
open Go.RowKit
open Desk (Ent St Inv a0h a2x a1q Rep)
def CN(X W:World)(p dk:Nat)(s:St)(ks:List (Nat × Obj))(es:List (Value × List (Ent × Value)))(ns:List (Value × List Int)):Prop :=
 ∃ (r:Raw) (col:Nat->Option Col),DG X W p dk s r col/\(∀ q∈ks,KB W col q.1 q.2)/\(∀ q∈es,a3j W 0 col q.1 q.2)/\∀ q∈ns,a2I W 0 col q.1 q.2
theorem CN.of{X W:World}{p dk:Nat}{s:St}{ks:List (Nat × Obj)}{es:List (Value × List (Ent × Value))}(h:CX X W p dk s ks es):CN X W p dk s ks es []:=by
 obtain⟨r,col,d,k,e⟩:=h
 exact⟨r,col,d,k,e,by simp⟩
theorem CN.cx{X W:World}{p dk:Nat}{s:St}{ks:List (Nat × Obj)}{es:List (Value × List (Ent × Value))}{ns:List (Value × List Int)}(h:CN X W p dk s ks es ns):CX X W p dk s ks es:=by
 obtain⟨r,col,d,k,e,_⟩:=h
 exact⟨r,col,d,k,e⟩
theorem CN.later{X W W':World}{p dk:Nat}{s:St}{ks:List (Nat × Obj)}{es:List (Value × List (Ent × Value))}{ns:List (Value × List Int)}(h:CN X W p dk s ks es ns)(k:Below W.heap.size W W'):CN X W' p dk s ks es ns:=by
 obtain⟨r,col,d,b,e,n⟩:=h
 exact⟨r,col,d.later k,fun q hq=>(b q hq).later k,fun q hq=>(e q hq).step (S:=anyS) (B:=W.heap.size) (Step.below k) (Nat.le_refl _),fun q hq=>(n q hq).later k⟩
theorem CN.drew{X W:World}{p dk:Nat}{s:St}{ks:List (Nat × Obj)}{es:List (Value × List (Ent × Value))}{ns:List (Value × List Int)}(h:CN X W p dk s ks es ns):CN X W.drew p dk s ks es ns:=h.later (a0q W)
theorem CN.alloc{X W:World}{p dk:Nat}{s:St}{ks:List (Nat × Obj)}{es:List (Value × List (Ent × Value))}{ns:List (Value × List Int)}(h:CN X W p dk s ks es ns)(o:Obj):CN X (W.alloc o) p dk s ((W.heap.size,o) :: ks) es ns:=by
 obtain⟨r,col,d,b,e,n⟩:=h
 have k:Below W.heap.size W (W.alloc o):=(Below.refl _ _).alloc (Nat.le_refl _) _
 refine⟨r,col,d.later k,fun q hq=>?_,fun q hq=>(e q hq).step (S:=anyS) (B:=W.heap.size) (Step.below k) (Nat.le_refl _),fun q hq=>(n q hq).later k⟩
 rcases List.mem_cons.1 hq with rfl|hq
 ·exact⟨a0p W o,d.none (Nat.le_refl _)⟩
 ·exact (b q hq).later k
theorem CN.less{X W:World}{p dk:Nat}{s:St}{ks ks':List (Nat × Obj)}{es es':List (Value × List (Ent × Value))}{ns ns':List (Value × List Int)}(h:CN X W p dk s ks es ns)(hk:∀ q∈ks',q∈ks)(he:∀ q∈es',q∈es)(hn:∀ q∈ns',q∈ns):CN X W p dk s ks' es' ns':=by
 obtain⟨r,col,d,b,e,n⟩:=h
 exact⟨r,col,d,fun q hq=>b q (hk q hq),fun q hq=>e q (he q hq),fun q hq=>n q (hn q hq)⟩
theorem CN.nrow{X W:World}{p dk:Nat}{s:St}{ks:List (Nat × Obj)}{es:List (Value × List (Ent × Value))}{ns:List (Value × List Int)}(h:CN X W p dk s ks es ns){v:Value}{l:List Int}(hq:(v,l)∈ns):W.ownsRow 0 3 1 v l.length (l.map (Value.int .i64)):=by
 obtain⟨r,col,_,_,_,n⟩:=h
 exact (n _ hq).own
def NDo(X W:World)(p dk:Nat)(ks:List (Nat × Obj))(es:List (Value × List (Ent × Value)))(ns:List (Value × List Int))(q:St × Rep)(e:Ending)(W':World):Prop :=
 ∃ (l:List (Ent × Value)) (a1 a2 a3 a4:Option Addr) (n2 c1 c2 c3 c4:Nat),e=.returned (.agg #[.int .i64 q.2.err,.int .i64 q.2.at_,.int .i64 q.2.n,.slice a1 l.length c1,.slice a2 n2 c2,.slice a3 q.2.granted.length c3,.slice a4 q.2.ended.length c4]) /\
  l.map (·.1)=q.2.entries/\CN X W' p dk q.1 ks ((.slice a1 l.length c1,l) :: es) ((.slice a3 q.2.granted.length c3,q.2.granted) :: (.slice a4 q.2.ended.length c4,q.2.ended) :: ns)/\W.heap.size<=W'.heap.size
theorem f1P{X W:World}{p dk:Nat}{ks:List (Nat × Obj)}{es:List (Value × List (Ent × Value))}{ns:List (Value × List Int)}{col:Nat->Option Col}(b:∀ q∈ks,KB W col q.1 q.2)(e:∀ q∈es,a3j W 0 col q.1 q.2)(n:∀ q∈ns,a2I W 0 col q.1 q.2){q:St × Rep}{en:Ending}{W':World}(h:b4e X W p dk col q en W'):NDo X W p dk ks es ns q en W':=by
 obtain⟨l,a1,a2,a3,a4,n2,c1,c2,c3,c4,r',col',rfl,P⟩:=h
 refine⟨l,a1,a2,a3,a4,n2,c1,c2,c3,c4,rfl,P.c7n,⟨r',col',P.dg,fun q hq=>(b q hq).step P.st,fun q hq=>?_,fun q hq=>?_⟩,P.st.size⟩
 ·rcases List.mem_cons.1 hq with rfl|hq
  ·exact P.row.low
  ·exact (e q hq).step P.st (Nat.le_refl _)
 ·rcases List.mem_cons.1 hq with rfl|hq
  ·exact P.gr.base (Nat.zero_le _)
  ·rcases List.mem_cons.1 hq with rfl|hq
   ·exact P.ed.base (Nat.zero_le _)
   ·exact (n q hq).step P.st (Nat.le_refl _)
theorem CN.text{X W:World}{p dk:Nat}{s:St}{ks:List (Nat × Obj)}{es:List (Value × List (Ent × Value))}{ns:List (Value × List Int)}(h:CN X W p dk s ks es ns)(t:ByteArray):
  Calls Tryz.prog 20 #[.pointer (some ⟨p,0,none⟩),.string t] W fun e W'=>NDo X W p dk ks es ns (stepT s t) e W':=by
 obtain⟨r,col,d,b,e,n⟩:=h
 exact (c5w d t).mono fun _ _ k=>f1P b e n k
theorem CN.line{X W:World}{p dk:Nat}{s:St}{ks:List (Nat × Obj)}{es:List (Value × List (Ent × Value))}{ns:List (Value × List Int)}(h:CN X W p dk s ks es ns){t:ByteArray}{v:Value}{l:Desk.a7U}(hr:Reads t v)(hv:LV v l)(hl:Desk.a1O l){q:St × Rep}(hq:a1q s l=q):
  Calls Tryz.prog 20 #[.pointer (some ⟨p,0,none⟩),.string t] W fun e W'=>NDo X W p dk ks es ns q e W':=by
 obtain⟨r,col,d,b,e,n⟩:=h
 exact (b2g d hr hv hl hq).mono fun _ _ k=>f1P b e n k
theorem CN.entries{X W:World}{p dk:Nat}{s:St}{ks:List (Nat × Obj)}{es:List (Value × List (Ent × Value))}{ns:List (Value × List Int)}(h:CN X W p dk s ks es ns)(nm:ByteArray)(hn:Nm nm)(hu:a0h nm s.ts≠0):
  Calls Tryz.prog 19 #[.pointer (some ⟨p,0,none⟩),.string nm] W fun e W'=>∃ (l:List (Ent × Value)) (a:Option Addr) (c:Nat),e=.returned (.tuple #[.slice a l.length c,.bool true])/\l.map (·.1)=a2x nm 0 1048320 s.es/\CN X W' p dk s ks ((.slice a l.length c,l) :: es) ns:=by
 obtain⟨r,col,d,b,e,n⟩:=h
 refine (b5i d nm hn hu).mono ?_
 rintro en W' ⟨l,a,c,r',col',rfl,he,row,dg,st⟩
 refine⟨l,a,c,rfl,he,r',col',dg,fun q hq=>(b q hq).step st,fun q hq=>?_,fun q hq=>(n q hq).step st (Nat.le_refl _)⟩
 rcases List.mem_cons.1 hq with rfl|hq
 ·exact row.low
 ·exact (e q hq).step st (Nat.le_refl _)
open Desk (Ent St Ids kept a0C a0Q a1C a2e ofB a0y a2c Mid a1H a0z Inv a0h a2x a1q Rep b0g a1Q)
theorem d7i{X W:World}{p dk:Nat}{s:St}{ks:List (Nat × Obj)}{es:List (Value × List (Ent × Value))}{ns:List (Value × List Int)}(h:CN X W p dk s ks es ns)(A B:Int)(nm:ByteArray)(hn:nm=⟨#[97]⟩\/nm=⟨#[98]⟩)(hm:Nm nm)(hu0:a0h nm s.ts≠0)(hu:a0h nm (a3Z A B).ts=a0h nm s.ts)(u fr til:Int)(u0:0<=u)(u1:u<=9)(hlt:fr<til):
  Calls Tryz.prog 26 #[.pointer (some ⟨p,0,none⟩),.agg #[.int .i64 A,.int .i64 B],.agg #[.string nm,.int .i64 u,.int .i64 fr,.int .i64 til]] W fun e W'=>e=.returned (.tuple #[.bool (Desk.a1e s.ts s.es nm u [(fr,til)]),.bool true])/\CN X W' p dk s ks es ns:=by
 have HC:=a0b ((h.alloc (a1T A B)).alloc (a1P nm u fr til))
 have hp0:=b4N h.cx.inv nm hlt
 have hp1:=b0A h.cx.inv nm hlt
 have hp9:=(Desk.a4g h.cx.inv.tu nm).2
 have FT:Hid (Desk.a1e s.ts s.es nm u [(fr,til)]=decide (a1Q nm s.es fr til+u<=a0h nm s.ts)):=by
  show _=_
  rw[Desk.c0N h.cx.inv nm u0 hlt,Desk.a5y h.cx.inv nm hlt]
 have HI:=a0b h.cx.inv
 have HL:=a0b hlt
 have k1:IntKind.i64.wrap (a1Q nm s.es fr til+u)=a1Q nm s.es fr til+u:=a0G (by omega) (by omega)
 rw[FT.out]
 clear h hp0 hp1 hp9 FT hlt
 go_enter Tryz.func26,Tryz.ntmps26
 go_upto_region 1 with fail
 change Code.wp _ _ _ _ ((W.alloc (a1T A B)).alloc (a1P nm u fr til))
 have e1:(W.alloc (a1T A B)).heap.size=W.heap.size+1:=by simp
 rw[e1] at HC
 clear e1
 generalize (W.alloc (a1T A B)).alloc (a1P nm u fr til)=Z at HC ⊢
 generalize W.heap.size=Rb at HC ⊢
 obtain⟨c0,c1,c2,c3,_⟩:=a1y (HC.out.cx.kb (List.mem_cons_self ..))
 go_upto_region 4 with (first
  |(go_at_call 19;refine (CN.entries HC.out nm hm hu0).mono ?_;rintro e w4 ⟨l,la,lc,rfl,hents,hc4⟩;have HE:=a0b hents;replace HC:=a0b hc4;clear hc4 hents c0 c1 c2 c3))
 have PK:=a0b (fun W' (k:Below w4.drew.heap.size w4.drew W')=>b3i W' (.slice la l.length lc) l ((HC.out.drew.later k).cx.ev (List.mem_cons_self ..)) (a6T HI.out HE.out) fr til)
 have EP:Hid (b0g (a1m l) fr til=a1Q nm s.es fr til):=by
  show _=_
  unfold a1m
  rw[HE.out]
  exact Desk.a5y HI.out nm HL.out
 rw[EP.out] at PK
 have UN:=a0b (fun W'=>a7B A B nm hn W')
 rw[hu] at UN
 generalize hpn:a1Q nm s.es fr til=pn at PK k1
 generalize hun:a0h nm s.ts=un at UN
 have HPN:=a0b hpn
 have HUN:=a0b hun
 clear hpn hun EP hu hu0
 have HD:=a0b HC.out.drew
 have SS:Hid (∀ W',Below w4.drew.heap.size w4.drew W'->W'.cell? ⟨Rb+1,0,none⟩=some (.string nm)/\W'.cell? ⟨Rb+1,1,none⟩=some (.int .i64 u)/\W'.cell? ⟨Rb+1,2,none⟩=some (.int .i64 fr)/\W'.cell? ⟨Rb+1,3,none⟩=some (.int .i64 til)/\W'.cell? ⟨Rb,0,none⟩=some (.int .i64 A)/\W'.cell? ⟨Rb,1,none⟩=some (.int .i64 B)):=fun W' k=>by
  obtain⟨c0,c1,c2,c3,_⟩:=a1y ((HD.out.later k).cx.kb (List.mem_cons_self ..))
  have hr:=(HD.out.later k).cx.kb (b:=Rb) (o:=a1T A B) (List.mem_cons_of_mem _ (List.mem_cons_self ..))
  unfold a1T at hr
  obtain⟨x,y,_⟩:=b0q hr
  exact⟨c0,c1,c2,c3,x,y⟩
 have S0:=SS.out _ (Below.refl _ _)
 obtain⟨s0,s1,s2,s3,s4,s5⟩:=S0
 go_region_held3 (fun w'=>w'.cell? ⟨Rb+1,0,none⟩=some (.string nm)/\w'.cell? ⟨Rb+1,1,none⟩=some (.int .i64 u)/\w'.cell? ⟨Rb+1,2,none⟩=some (.int .i64 fr)/\w'.cell? ⟨Rb+1,3,none⟩=some (.int .i64 til)/\w'.cell? ⟨Rb,0,none⟩=some (.int .i64 A)/\w'.cell? ⟨Rb,1,none⟩=some (.int .i64 B))
  (first
   |with_reducible exact SS.out _ HB6.out
   |with_reducible exact SS.out _ HB5.out
   |exact⟨s0,s1,s2,s3,s4,s5⟩)
  (first
   |(go_at_call 22;refine (PK.out _ (Below.refl _ _)).mono ?_;rintro e w5 ⟨rfl,hb5⟩;have HB5:=a0b hb5;clear hb5)
   |(go_at_call 23;refine (UN.out _).mono ?_;rintro e w6 ⟨rfl,hb6⟩;have HB6:=a0b (a0j HB5.out hb6 (Nat.le_refl _));clear hb6))
 have HF:Hid (CN X w6 p dk s ks es ns):=(HD.out.later HB6.out).less (fun q hq=>List.mem_cons_of_mem _ (List.mem_cons_of_mem _ hq)) (fun q hq=>List.mem_cons_of_mem _ hq) (fun q hq=>hq)
 clear HB5 HB6 SS HD HC PK UN
 go_wp2_with fail
 go_ret2
 exact⟨by rw[HPN.out,HUN.out];rfl,HF.out⟩
namespace Txt
theorem d8H{h:List UInt8}:∀ (r:List UInt8)(x:List (List UInt8) × List UInt8),x.1[0]?=some h->(c1V (r.foldl b1m x))[0]?=some h
 |[],x,hx=>by
  simp only[List.foldl_nil]
  unfold c1V
  split
  ·exact hx
  ·rw[List.getElem?_append_left (List.getElem?_eq_some_iff.1 hx).1];exact hx
 |c :: r,x,hx=>by
  rw[List.foldl_cons]
  refine d8H r _ ?_
  unfold b1m
  split
  ·show (if x.2=[] then x.1 else x.1++[x.2])[0]?=some h
   split
   ·exact hx
   ·rw[List.getElem?_append_left (List.getElem?_eq_some_iff.1 hx).1];exact hx
  ·exact hx
theorem e5q{t w0:ByteArray}{r:List UInt8}(hw:a3V w0.data.toList=true)(ht:t.data.toList=w0.data.toList++32 :: r):(a1v t)[0]?=some w0:=by
 obtain⟨h1,h2⟩:=a8C.1 hw
 have h:=b7B t
 have e:(b2u t.data.toList)[0]?=some w0.data.toList:=by
  unfold b2u c4p
  rw[ht,List.foldl_append,b3A h2,List.foldl_cons,b7S]
  refine d8H r _ ?_
  show (c1V ([],[]++w0.data.toList))[0]?=_
  simp[c1V,h1]
 rw[<- h,List.getElem?_map] at e
 cases hq:(a1v t)[0]? with
 |none=>rw[hq] at e;cases e
 |some y =>
  rw[hq] at e
  simp only[Option.map_some,Option.some.injEq] at e
  rw[c1t e]
end Txt
theorem e5T{t:ByteArray}(h:c1I t):∃ w0:ByteArray,(Txt.a1v t)[0]?=some w0/\w0≠a3F/\(w0=b4k->t.data.toList[0]?=some 119):=by
 obtain⟨p,r,hp,rfl⟩:=h
 unfold a3S at hp
 have key:∀ w0:ByteArray,Txt.a3V w0.data.toList=true->p.data.toList=w0.data.toList++[32]->(Txt.a1v (p++r))[0]?=some w0:=fun w0 hw e=>Txt.e5q (r:=r.data.toList) hw (by rw[Txt.a1X,e];simp)
 simp only[List.mem_cons,List.not_mem_nil,or_false] at hp
 rcases hp with rfl|rfl|rfl|rfl|rfl|rfl|rfl
 ·exact⟨a9P,key a9P (by decide +kernel) rfl,by decide,fun e=>absurd e (by decide)⟩
 ·exact⟨b5f,key b5f (by decide +kernel) rfl,by decide,fun e=>absurd e (by decide)⟩
 ·exact⟨b4k,key b4k (by decide +kernel) rfl,by decide,fun _=>by rw[Txt.a1X];rfl⟩
 ·exact⟨a6m,key a6m (by decide +kernel) rfl,by decide,fun e=>absurd e (by decide)⟩
 ·exact⟨a4z,key a4z (by decide +kernel) rfl,by decide,fun e=>absurd e (by decide)⟩
 ·exact⟨a7l,key a7l (by decide +kernel) rfl,by decide,fun e=>absurd e (by decide)⟩
 ·exact⟨b4n,key b4n (by decide +kernel) rfl,by decide,fun e=>absurd e (by decide)⟩
theorem f0G{t:ByteArray}(h:c1I t){e:Ending}(he:a7T t e){l:Desk.a7U}(ho:c4m t (.inr l)):(∀ n u,l≠.a0k n u)/\(Desk.c9g l=true->t.data.toList[0]?=some 119):=by
 obtain⟨w0,h0,h1,h2⟩:=e5T h
 obtain⟨line,hr,hv,_⟩:=ho
 have e1:=hr e he
 subst e1
 generalize hE:Ending.returned (.tuple #[line,.int .i64 0,.int .i64 0])=e at he
 cases he with
 |long=>simp at hE
 |bad _ v st hl hb=>simp at hE
 |e6J _ v st hl _ _ =>
  have ev:line=v:=by simpa using hE
  subst ev
  refine⟨fun n u e=>?_,fun hw=>?_⟩
  ·subst e
   cases hv
   cases hl with
   |a0k g=>exact h1 (f4i h0 g)
  ·cases hv <;> simp[Desk.c9g] at hw
   cases hl with
   |wait g=>exact h2 (f4i h0 g)
open Desk (Ent St Inv a1q Rep a0h)
theorem e4Q(s:St)(l:Desk.a7U)(h:∀ n u,l≠.a0k n u):(Desk.a0g s l).1.ts=s.ts:=by
 cases l <;> simp only[Desk.a0g,Desk.a2t]
 case a0k name u=>exact absurd rfl (h name u)
 case enter=>split <;> rfl
 case series=>split <;> rfl
 case confirm =>
  split
  ·rfl
  ·split <;> rfl
 case cancel=>split <;> rfl
 case list=>split <;> first|rfl|(split <;> rfl)
 case peak=>split <;> first|rfl|(split <;> rfl)
 case find=>split <;> first|rfl|(split <;> rfl)
 case expand=>split <;> rfl
 case tick=>split <;> rfl
theorem e9X(s:St)(l:Desk.a7U)(h:∀ n u,l≠.a0k n u):(a1q s l).1.ts=s.ts:=by
 unfold a1q
 split
 ·exact e4Q s l h
 ·exact e4Q s l h
structure f3A(s:St)(t:ByteArray):Prop where
 ts:(stepT s t).1.ts=s.ts
 bad:(stepT s t).2.err≠0->(stepT s t).1=s/\(stepT s t).2.granted=[]
 e6J:(stepT s t).2.err=0->Desk.a1Y (stepT s t).1.es+((stepT s t).2.granted.length:Int)<=Desk.a1Y s.es+(if t.data.toList[0]?=some 119 then 1 else 0)/\∀ id∈(stepT s t).2.granted,∃ e∈(stepT s t).1.es,e.id=id/\e.kind=1
theorem f4O{s:St}(hi:Inv s){t:ByteArray}(h:c1I t){e:Ending}(he:a7T t e):f3A s t:=by
 have hr:=c2y t
 have hs:stepT s t=match b9K t with
  |.inl (er,at_)=>(s,⟨er,at_,0,[],[],[],[]⟩)
  |.inr l=>a1q s l:=rfl
 cases hq:b9K t with
 |inl q =>
  obtain⟨er,at_⟩:=q
  rw[hq] at hr hs
  refine⟨by rw[hs],fun _=>by rw[hs];exact⟨rfl,rfl⟩,fun h0=>?_⟩
  rw[hs] at h0
  exact absurd h0 hr.1
 |inr l =>
  rw[hq] at hr hs
  have hs':stepT s t=a1q s l:=hs
  obtain⟨l1,l2⟩:=f0G h he hr
  obtain⟨line,_,_,hl⟩:=hr
  refine⟨by rw[hs'];exact e9X s l l1,fun h0=>?_,fun h0=>?_⟩
  ·rw[hs'] at h0 ⊢
   obtain⟨a,b⟩:=Desk.b7R h0
   exact⟨a,by rw[b];rfl⟩
  ·rw[hs'] at h0 ⊢
   obtain⟨a,b⟩:=Desk.e7k hi hl h0
   refine⟨?_,b⟩
   by_cases c:Desk.c9g l=true
   ·rw[if_pos c] at a
    rw[if_pos (l2 c)]
    exact a
   ·rw[if_neg c] at a
    split <;> omega
open Desk (Ent St Inv a1q Rep)
theorem d9f:Reads (⟨#[119,97,105,116,105,110,103]⟩:ByteArray) (.iface 167 (.agg #[])):=by
 have hw:Txt.a1v (⟨#[119,97,105,116,105,110,103]⟩:ByteArray)=[a5q]:=by
  refine Txt.a5p ?_ ?_
  ·simp only[List.map_cons,List.map_nil,Txt.b3k];rfl
  ·intro x hx
   rw[List.mem_singleton.1 hx]
   decide +kernel
 exact a5G (n:=1) hw (by decide) (a2H.waiting (b1P (x:=a5q) rfl)) rfl
theorem d5K{s:St}(h:Inv s):a1q s .waiting=(s,⟨0,0,0,s.es.filter (fun e=>e.kind==3),[],[],[]⟩):=by
 have e:Desk.a0g s .waiting=(s,⟨0,0,0,s.es.filter (fun e=>e.kind==3),[],[],[]⟩):=rfl
 rw[Desk.a8T h (by rw[e]),e]
open Desk (Ent)
def d3M:List Ent->Int->Int
 |[],_=>0
 |e :: r,id=>if e.id=id then e.kind else d3M r id
theorem d3y:∀ {es:List Ent}{id:Int},(∀ e∈es,e.id≠id)->d3M es id=0
 |[],_,_=>rfl
 |e :: r,id,h=>by
  unfold d3M
  rw[if_neg (h e (List.mem_cons_self ..))]
  exact d3y fun x hx=>h x (List.mem_cons_of_mem _ hx)
theorem e4z:∀ {es:List Ent}{id:Int}(k:Nat)(hk:k<es.length),(∀ (i:Nat)(hi:i<es.length),i<k->es[i].id≠id)->es[k].id=id->d3M es id=es[k].kind
 |[],_,k,hk,_,_=>absurd hk (by simp)
 |e :: r,id,0,_,_,h=>by
  unfold d3M
  rw[if_pos (show e.id=id from h)]
  rfl
 |e :: r,id,k+1,hk,hn,h=>by
  unfold d3M
  rw[if_neg (show ¬ e.id=id from hn 0 (by simp) (by omega))]
  exact e4z k (by simpa using hk) (fun i hi hik=>hn (i+1) (by simpa using hi) (by omega)) h
theorem e1b(w:World)(v:Value)(l:List (Ent × Value))(hv:EV w v l)(hl:l.length<=1000)(id:Int):
  Calls Tryz.prog 36 #[v,.int .i64 id] w fun e w'=>e=.returned (.int .i64 (d3M (l.map (·.1)) id))/\Below w.heap.size w w':=by
 obtain⟨a,cap,rfl⟩:=hv.form
 have HV:=a0b hv
 clear hv
 go_enter Tryz.func36,Tryz.ntmps36
 go_wp2_with fail
 go_loopw [5] (fun vi wr=>∃ k:Nat,k<=l.length/\vi=.int .i64 k/\(∀ (i:Nat) (hi:i<l.length),i<k->l[i].1.id≠id)/\Below w.heap.size w wr) (fun vi _=>l.length-(intOf vi).toNat)
 case atStart=>exact⟨0,Nat.zero_le _,rfl,fun i hi h0=>absurd h0 (by omega),Below.refl _ _⟩
 case round =>
  obtain⟨k,hk,rfl,hno,hbl⟩:=hrel
  have HNO:=a0b hno
  have HB:=a0b hbl
  clear hno hbl
  by_cases hlt:k<l.length
  ·have hlt':(k:Int)<(l.length:Int):=by omega
   obtain⟨g,cap',e,x0,x1,_⟩:=(HV.out.later HB.out).cell k hlt
   simp only[Value.slice.injEq,true_and] at e
   obtain⟨rfl,rfl⟩:=e
   by_cases hid:l[k].1.id=id
   ·have HF:Hid (d3M (l.map (·.1)) id=l[k].1.kind):=by
     have:=e4z (es:=l.map (·.1)) (id:=id) k (by simpa using hlt) (fun i hi hik=>by rw[List.getElem_map];exact HNO.out i (by simpa using hi) hik) (by rw[List.getElem_map];exact hid)
     rw[List.getElem_map] at this
     exact this
    have hidb:(l[k].1.id==id)=true:=by simpa using hid
    clear hid HNO
    generalize l[k].1.id=idk at x0 hidb
    generalize l[k].1.kind=kk at x1 HF
    go_wp2_with fail
    go_ret
    exact⟨by rw[HF.out];rfl,HB.out⟩
   ·have hidb:(l[k].1.id==id)=false:=by simpa using hid
    have HN:Hid (∀ (i:Nat) (hi:i<l.length),i<k+1->l[i].1.id≠id):=fun i hi hik=>by
     by_cases ek:i=k
     ·subst ek;exact hid
     ·exact HNO.out i hi (by omega)
    clear hid HNO x1
    generalize l[k].1.id=idk at x0 hidb
    go_wp2_with fail
    go_roundw
    case rel=>exact⟨k+1,by omega,by go_num,HN.out,HB.out⟩
    case measure=>simp[intOf];omega
  ·have hlt':¬ (k:Int)<(l.length:Int):=by omega
   have HF:Hid (d3M (l.map (·.1)) id=0):=d3y fun e he=>by
    obtain⟨q,hq,rfl⟩:=List.mem_map.1 he
    obtain⟨i,hi,rfl⟩:=List.getElem_of_mem hq
    exact HNO.out i hi (by omega)
   clear HNO
   go_wp2_with fail
   go_ret
   exact⟨by rw[HF.out];rfl,HB.out⟩
open Desk (Ent St Ids ofB a0y a1H Inv a0h a2x a1e)
theorem e3H{s:St}(h:Inv s){A B:Int}(ht:s.ts=(a3Z A B).ts){e:Ent}(he:e∈s.es):e.a0k=(⟨#[97]⟩:ByteArray)\/e.a0k=(⟨#[98]⟩:ByteArray):=by
 have h1:=h.th e he
 have h2:=(h.en e he).u1
 rw[ht] at h1
 by_cases ca:a0y nmA e.a0k=true
 ·exact .inl (a4l.1 ca).symm
 ·by_cases cb:a0y nmC e.a0k=true
  ·exact .inr (a4l.1 cb).symm
  ·exfalso
   have:a0h e.a0k (a3Z A B).ts=0:=by simp[a3Z,a0h,ca,cb]
   omega
structure f2e(s:St)(e:Ent):Prop where
 kd:e.kind=3
 th:e.a0k=(⟨#[97]⟩:ByteArray)\/e.a0k=(⟨#[98]⟩:ByteArray)
 u0:1<=e.a0c
 u9:e.a0c<=9
 sp:∃ fr til:Int,e.a0e=[(fr,til)]/\fr<til/\a1e s.ts s.es e.a0k e.a0c [(fr,til)]=false
theorem f2l{s:St}(h:Inv s){A B:Int}(ht:s.ts=(a3Z A B).ts){e:Ent}(he:e∈s.es.filter (fun e=>e.kind==3)):f2e s e:=by
 obtain⟨hm,hk⟩:=List.mem_filter.1 he
 have hk3:e.kind=3:=by simpa using hk
 have ho:=h.en e hm
 have hl:e.a0e.length=1:=by
  rcases ho.kd with ⟨a,_⟩|⟨_,_,_,d⟩
  ·omega
  ·exact d
 obtain⟨⟨fr,til⟩,hs⟩:=List.length_eq_one_iff.1 hl
 have hp:=ho.sp (fr,til) (by rw[hs];exact List.mem_singleton.2 rfl)
 exact⟨hk3,e3H h ht hm,ho.u1,ho.u9,fr,til,hs,hp.2.1,by rw[<- hs];exact h.no e hm hk3⟩
theorem f2k{s:St}(h:Inv s):(s.es.filter (fun e=>e.kind==3)).Pairwise (fun a b=>a.id<b.id):=by
 have:=Desk.a5J (fun e=>e.kind==3) h.ids
 unfold Ids at this
 rwa [List.pairwise_map] at this
theorem e2U:∀ {es:List Ent},Ids es->∀ {x y:Ent},x∈es->y∈es->x.id=y.id->x=y
 |[],_,_,_,hx,_,_=>absurd hx (by simp)
 |z :: r,h,x,y,hx,hy,e=>by
  unfold Ids at h
  rw[List.map_cons,List.pairwise_cons] at h
  rcases List.mem_cons.1 hx with ex|kx <;> rcases List.mem_cons.1 hy with ey|ky
  ·rw[ex,ey]
  ·have:=h.1 y.id (List.mem_map.2 ⟨y,ky,rfl⟩);rw[ex] at e;omega
  ·have:=h.1 x.id (List.mem_map.2 ⟨x,kx,rfl⟩);rw[ey] at e;omega
  ·exact e2U h.2 kx ky e
theorem e0Z:∀ {es:List Ent}{e:Ent},e∈es->(∀ x∈es,x.id=e.id->x=e)->d3M es e.id=e.kind
 |[],_,h,_=>absurd h (by simp)
 |z :: r,e,h,hu=>by
  unfold d3M
  by_cases c:z.id=e.id
  ·rw[if_pos c,hu z (List.mem_cons_self ..) c]
  ·rw[if_neg c]
   rcases List.mem_cons.1 h with rfl|h
   ·exact absurd rfl c
   ·exact e0Z h fun x hx=>hu x (List.mem_cons_of_mem _ hx)
theorem d9D{s:St}(h:Inv s){nm:ByteArray}{e:Ent}:e∈a2x nm 0 1048320 s.es↔e∈s.es/\ofB nm e=true:=by
 unfold a2x
 rw[Desk.a4U,List.mem_filter]
 refine and_congr_right fun he=>?_
 rw[Desk.b6e (h.en e he)]
theorem f0M{s:St}(h:Inv s){A B:Int}(ht:s.ts=(a3Z A B).ts){e:Ent}(he:e∈s.es)(hk:e.kind=1):d3M (a2x (⟨#[97]⟩:ByteArray) 0 1048320 s.es) e.id+d3M (a2x (⟨#[98]⟩:ByteArray) 0 1048320 s.es) e.id=1:=by
 have hof:∀ nm:ByteArray,e.a0k=nm->ofB nm e=true:=fun nm hn=>by unfold ofB;rw[a4l.2 hn,hk];rfl
 have hno:∀ nm:ByteArray,e.a0k≠nm->∀ x∈a2x nm 0 1048320 s.es,x.id≠e.id:=fun nm hn x hx hid=>by
  obtain⟨a,b⟩:=(d9D h).1 hx
  have:=e2U h.ids a he hid
  subst this
  unfold ofB at b
  rw[Bool.and_eq_true] at b
  exact hn (a4l.1 b.1)
 have hin:∀ nm:ByteArray,e.a0k=nm->d3M (a2x nm 0 1048320 s.es) e.id=1:=fun nm hn=>by
  rw[e0Z ((d9D h).2 ⟨he,hof nm hn⟩) fun x hx hid=>e2U h.ids ((d9D h).1 hx).1 he hid,hk]
 rcases e3H h ht he with hn|hn
 ·rw[hin _ hn,d3y (hno ⟨#[98]⟩ (by rw[hn];decide))];rfl
 ·rw[hin _ hn,d3y (hno ⟨#[97]⟩ (by rw[hn];decide))];rfl
theorem f2V{s:St}{t:ByteArray}(h:f3A s t):
  ((stepT s t).2.err=0->(0:Int)<=((s.es.filter (fun e=>e.kind==3)).length:Int)-(((stepT s t).1.es.filter (fun e=>e.kind==3)).length:Int)-((stepT s t).2.granted.length:Int)+(if t.data.toList[0]?=some 119 then 1 else 0)) /\
  ((stepT s t).2.err≠0->((s.es.filter (fun e=>e.kind==3)).length:Int)-(((stepT s t).1.es.filter (fun e=>e.kind==3)).length:Int)-((stepT s t).2.granted.length:Int)=0):=by
 refine⟨fun h0=>?_,fun h0=>?_⟩
 ·have:=(h.e6J h0).1
  unfold Desk.a1Y at this
  omega
 ·obtain⟨a,b⟩:=h.bad h0
  rw[a,b]
  simp
theorem a9Q{B:Nat}{w w':World}(h:Below B w w')(n:Nat):Below B w (w'.drewN n):=⟨h.os,h.tape,h.output,h.size,h.block⟩
open Desk (Ent St Ids kept a0C a0Q a1C a2e ofB a0y a2c Mid a1H a0z Inv a0h a2x a1q Rep b0g a1Q a9A a1e)
theorem e7N{W:World}{b:Nat}{x:Ent}{v:Value}(h:W.heap[b]?=some (a4J x v)):W.cell? ⟨b,0,none⟩=some (.int .i64 x.id)/\W.cell? ⟨b,1,none⟩=some (.int .i64 x.kind)/\W.cell? ⟨b,2,none⟩=some (.string x.a0k)/\W.cell? ⟨b,3,none⟩=some (.int .i64 x.a0c)/\W.cell? ⟨b,4,none⟩=some v:=by
 unfold a4J at h
 refine⟨?_,?_,?_,?_,?_⟩ <;> (simp only[World.cell?,h];rfl)
theorem CN.num{X W:World}{p dk:Nat}{s:St}{ks:List (Nat × Obj)}{es:List (Value × List (Ent × Value))}{ns:List (Value × List Int)}(h:CN X W p dk s ks es ns){v:Value}{l:List Int}(hq:(v,l)∈ns)(k:Nat)(hk:k<l.length):∃ g cap,v=.slice (some ⟨g,0,none⟩) l.length cap/\W.cell? ⟨g,k,none⟩=some (.int .i64 l[k]):=by
 have ho:=h.nrow hq
 obtain⟨g,cap,e⟩:=Joins.ownsRow_form ho (by omega)
 subst e
 have a0:=ho.cellAt k (by omega)
 rw[List.getElem?_map,List.getElem?_eq_getElem hk] at a0
 exact⟨g,cap,rfl,a0⟩
theorem e8u{t:ByteArray}(h:0<t.size):(t.data.toList[0]?=some 119)↔((t[0]'h).toNat:Int)=119:=by
 have e:t.data.toList[0]?=some (t[0]'h):=by
  rw[Array.getElem?_toList,Array.getElem?_eq_getElem (show 0<t.data.size from h)]
  rfl
 rw[e,Option.some.injEq]
 constructor
 ·intro k;rw[k];rfl
 ·intro k
  have:(t[0]'h).toNat=119:=by omega
  exact UInt8.toNat_inj.1 this
theorem e5S{t:ByteArray}(h:c1I t):0<t.size:=by
 obtain⟨p,r,hp,rfl⟩:=h
 rw[ByteArray.size_append]
 unfold a3S at hp
 simp only[List.mem_cons,List.not_mem_nil,or_false] at hp
 have:0<p.size:=by rcases hp with rfl|rfl|rfl|rfl|rfl|rfl|rfl <;> decide
 omega
theorem e2O(a b:Int)(raw:Value)(ss:List ByteArray)(w:World)(he:Env w)(hraw:TV w raw ss)(ha1:-9223372036854775808<=a)(ha2:a<=9223372036854775807)(hb1:-9223372036854775808<=b)(hb2:b<=9223372036854775807):
  Calls Tryz.prog 13 #[.int .i64 a,.int .i64 b,raw] w fun e w'=>e=.returned (.bool true)/\Below w.heap.size w w':=by
 obtain⟨rav,racap,rfl⟩:=hraw.form
 have RM:=a0b (c2p a b w ha1 ha2 hb1 hb2)
 obtain⟨x1,x2⟩:=a6G (c:=a) (n:=4) (by omega)
 obtain⟨y1,y2⟩:=a6G (c:=b) (n:=9) (by omega)
 have A1:1<=1+a2s a 4:=by omega
 have A2:1+a2s a 4<=9:=by omega
 have B1:1<=1+a2s b 9:=by omega
 have B2:1+a2s b 9<=9:=by omega
 have HE:=a0b he
 have HR:=a0b hraw
 generalize 1+a2s a 4=A at *
 generalize 1+a2s b 9=B at *
 clear x1 x2 y1 y2 he hraw ha1 ha2 hb1 hb2
 go_enter Tryz.func13,Tryz.ntmps13
 go_upto_region 2 with (first
  |(go_at_call 16;refine RM.out.mono ?_;rintro e w1 ⟨rfl,hb1⟩))
 change Code.wp _ _ _ _ (w1.alloc (a1T A B))
 have hX:Below w.heap.size w (w1.alloc (a1T A B)):=hb1.trans (((Below.refl w1.heap.size w1).alloc (Nat.le_refl _) _).mono hb1.size)
 have hro:=a0p w1 (a1T A B)
 have hrl:w1.heap.size<(w1.alloc (a1T A B)).heap.size:=by simp
 have HX:=a0b hX
 have h10:=Nat.le_trans HE.out.size hX.size
 have RO:Hid (∀ W',Below (w1.alloc (a1T A B)).heap.size (w1.alloc (a1T A B)) W'->W'.cell? ⟨w1.heap.size,0,none⟩=some (.int .i64 A)/\W'.cell? ⟨w1.heap.size,1,none⟩=some (.int .i64 B)):=fun W' k=>by
  have h:=(k.block w1.heap.size hrl).trans hro
  unfold a1T at h
  obtain⟨x,y,_⟩:=b0q h
  exact⟨x,y⟩
 have BG:=a0b (c1y _ (HE.out.later hX) A B ⟨A1,A2⟩ ⟨B1,B2⟩)
 have HT:=a0b (HR.out.below hX)
 clear hX hro hrl RM hb1 HR HE
 generalize w1.alloc (a1T A B)=X at *
 generalize w1.heap.size=Rb at *
 obtain⟨ra,rb⟩:=RO.out X (Below.refl _ _)
 go_upto_region 5 with (first
  |(go_at_call 17;refine BG.out.mono ?_;rintro e w2 ⟨p,dk,r,col,rfl,D2⟩;have HD:=a0b (CX.of D2);clear D2 BG ra rb))
 go_upto_region 6 with fail
 have C0:Hid (∃ s0:St,s0.ts=(a3Z A B).ts/\CN X w2 p dk s0 [] [] []):=⟨_,rfl,CN.of HD.out⟩
 clear HD
 go_loopw [10,11,12,13,14,15,16,17,18,19,20,21,22,23,24,25] (fun vi _ _ _ _ _ _ _ _ _ _ _ _ _ _ _ wr=>∃ (i:Nat) (s:St),i<=ss.length/\i<=30/\vi=.int .i64 i/\s.ts=(a3Z A B).ts/\CN X wr p dk s [] [] []) (fun vi _ _ _ _ _ _ _ _ _ _ _ _ _ _ _ _=>30-(intOf vi).toNat)
 case atStart =>
  obtain⟨s0,e0,c0⟩:=C0.out
  exact⟨0,s0,Nat.zero_le _,by omega,rfl,e0,c0⟩
 case round =>
  obtain⟨i,s,hi,hi30,rfl,hts,hcn⟩:=hrel
  have HTS:=a0b hts
  have HC:=a0b hcn
  clear hts hcn
  by_cases hlt:i<ss.length/\i<30
  ·obtain⟨hl1,hl2⟩:=hlt
   have hl1':(i:Int)<(ss.length:Int):=by omega
   have hl2':(i:Int)<30:=by omega
   obtain⟨wo,rfl⟩:∃ wo:World,wo=wr:=⟨_,rfl⟩
   obtain⟨b,off,cap',e,c0⟩:=HT.out.cell i hl1
   simp only[Value.slice.injEq,true_and] at e
   obtain⟨rfl,rfl⟩:=e
   have c1:=(World.cell?_of_block (w:=X) (HC.out.cx.bl.block b (World.block_lt_of_cell? _ _ c0))).trans c0
   have LN:=a0b (c2R HC.out.cx.env ss[i] (HT.out.size _ (List.getElem_mem hl1)))
   clear c0
   go_upto_region 9 with (first
    |(go_at_call 37;refine LN.out.mono ?_;rintro e w3 ⟨t,rfl,hlt,hsz,hb3⟩;have HLT:=a0b hlt;replace HC:=a0b (HC.out.later hb3);clear hb3 hlt LN c1))
   have WS:=a0b (d5K HC.out.cx.inv)
   have WR:=a0b d9f
   have SY:Hid (f3A s t):=by
    obtain⟨e,_,_,⟨he,_⟩,_⟩:=b6h t w3 HC.out.cx.env []
    exact f4O HC.out.cx.inv HLT.out he
   go_upto_region 10 with (first
    |(go_at_call 20;refine (CN.line HC.out WR.out LV.waiting trivial WS.out).mono ?_;rintro e w4 ⟨l1,a1,a2,a3,a4,n2,c1,c2,c3,c4,rfl,hents,hc4,_⟩;dsimp only[List.length_nil];have HE1:=a0b hents;replace HC:=a0b hc4;clear hents hc4))
   change Code.wp _ _ _ _ (w4.alloc (a5w 0 0 0 (.slice a1 l1.length c1) (.slice a2 n2 c2) (.slice a3 0 c3) (.slice a4 0 c4)))
   replace HC:=a0b (HC.out.alloc (a5w 0 0 0 (.slice a1 l1.length c1) (.slice a2 n2 c2) (.slice a3 0 c3) (.slice a4 0 c4)))
   generalize w4.alloc (a5w 0 0 0 (.slice a1 l1.length c1) (.slice a2 n2 c2) (.slice a3 0 c3) (.slice a4 0 c4))=V4 at HC ⊢
   generalize w4.heap.size=bb at HC ⊢
   have TS:Hid ((stepT s t).1.ts=(a3Z A B).ts):=SY.out.ts.trans HTS.out
   have GR:Hid (∀ id∈(stepT s t).2.granted,∃ e∈(stepT s t).1.es,e.id=id/\e.kind=1):=fun id hid=>by
    by_cases h0:(stepT s t).2.err=0
    ·exact (SY.out.e6J h0).2 id hid
    ·rw[(SY.out.bad h0).2] at hid;exact absurd hid (by simp)
   have LF:=a0b (f2V SY.out)
   have HI0:=a0b HC.out.cx.inv
   go_upto_region 11 with (first
    |(go_at_call 20;refine (CN.text HC.out t).mono ?_;rintro e w5 ⟨l2,b1,b2,b3,b4,m2,d1,d2,d3,d4,rfl,_,hc5,_⟩;replace HC:=a0b hc5;clear hc5))
   clear SY WS HTS
   have t0:=e5S HLT.out
   clear HLT
   generalize stepT s t=q at HC TS GR LF ⊢
   change Code.wp _ _ _ _ (w5.alloc (a5w q.2.err q.2.at_ q.2.n (.slice b1 l2.length d1) (.slice b2 m2 d2) (.slice b3 q.2.granted.length d3) (.slice b4 q.2.ended.length d4)))
   replace HC:=a0b (HC.out.alloc (a5w q.2.err q.2.at_ q.2.n (.slice b1 l2.length d1) (.slice b2 m2 d2) (.slice b3 q.2.granted.length d3) (.slice b4 q.2.ended.length d4)))
   generalize w5.alloc (a5w q.2.err q.2.at_ q.2.n (.slice b1 l2.length d1) (.slice b2 m2 d2) (.slice b3 q.2.granted.length d3) (.slice b4 q.2.ended.length d4))=V5 at HC ⊢
   generalize w5.heap.size=yb at HC ⊢
   have WS:=a0b (d5K HC.out.cx.inv)
   go_upto_region 12 with (first
    |(go_at_call 20;refine (CN.line HC.out WR.out LV.waiting trivial WS.out).mono ?_;rintro e w6 ⟨l3,f1,f2,f3,f4,k2,g1,g2,g3,g4,rfl,hents,hc6,_⟩;dsimp only[List.length_nil];have HE3:=a0b hents;replace HC:=a0b hc6;clear hents hc6))
   change Code.wp _ _ _ _ (w6.alloc (a5w 0 0 0 (.slice f1 l3.length g1) (.slice f2 k2 g2) (.slice f3 0 g3) (.slice f4 0 g4)))
   replace HC:=a0b (HC.out.alloc (a5w 0 0 0 (.slice f1 l3.length g1) (.slice f2 k2 g2) (.slice f3 0 g3) (.slice f4 0 g4)))
   generalize w6.alloc (a5w 0 0 0 (.slice f1 l3.length g1) (.slice f2 k2 g2) (.slice f3 0 g3) (.slice f4 0 g4))=V6 at HC ⊢
   generalize w6.heap.size=ab at HC ⊢
   clear WS WR
   have HI1:=a0b HC.out.cx.inv
   have W3:Hid (∀ (k:Nat) (h:k<l3.length),f2e q.1 l3[k].1):=fun k h=>f2l HI1.out TS.out (by
    have e:l3.map (·.1)=q.1.es.filter (fun e=>e.kind==3):=HE3.out
    rw[<- e]
    exact List.mem_map.2 ⟨l3[k],List.getElem_mem h,rfl⟩)
   have UP:Hid (∀ (k:Nat) (h:k<l3.length) (h0:0<k),l3[k-1].1.id<l3[k].1.id):=fun k h h0=>by
    have u:=f2k HI1.out
    have e:l3.map (·.1)=q.1.es.filter (fun e=>e.kind==3):=HE3.out
    rw[<- e,List.pairwise_iff_getElem] at u
    have:=u (k-1) k (by rw[List.length_map];omega) (by rw[List.length_map];exact h) (by omega)
    simpa using this
   have ln1:l1.length=(s.es.filter (fun e=>e.kind==3)).length:=by
    have e:l1.map (·.1)=s.es.filter (fun e=>e.kind==3):=HE1.out
    rw[<- e,List.length_map]
   have ln3:l3.length=(q.1.es.filter (fun e=>e.kind==3)).length:=by
    have e:l3.map (·.1)=q.1.es.filter (fun e=>e.kind==3):=HE3.out
    rw[<- e,List.length_map]
   have le1:l1.length<=60:=by
    have:s.es.length<=60:=Desk.c6C HI0.out
    have:=List.length_filter_le (fun e:Ent=>e.kind==3) s.es
    omega
   have le3:l3.length<=60:=by
    have:q.1.es.length<=60:=Desk.c6C HI1.out
    have:=List.length_filter_le (fun e:Ent=>e.kind==3) q.1.es
    omega
   have LFF:Hid ((q.2.err=0->(0:Int)<=(l1.length:Int)-(l3.length:Int)-(q.2.granted.length:Int)+(if t.data.toList[0]?=some 119 then 1 else 0))/\(q.2.err≠0->(l1.length:Int)-(l3.length:Int)-(q.2.granted.length:Int)=0)):=by
    show _/\_
    rw[ln1,ln3];exact LF.out
   have lg:q.2.granted.length<=61:=by
    by_cases h0:q.2.err=0
    ·have:=LFF.out.1 h0
     split at this <;> omega
    ·have:=LFF.out.2 h0
     omega
   clear LF ln1 ln3 HE1 HE3 HI0
   have UA:Hid (∀ i,a0h (a1A i) q.1.ts=a0h (a1A i) (a3Z A B).ts/\a0h (a1A i) q.1.ts≠0):=fun i=>by
    rw[TS.out]
    exact⟨rfl,b2x A1 B1 i⟩
   obtain⟨KS,ES,NS,kc,ke,kn,hcn⟩:∃ (KS:List (Nat × Obj)) (ES:List (Value × List (Ent × Value))) (NS:List (Value × List Int)),((ab,a5w 0 0 0 (.slice f1 l3.length g1) (.slice f2 k2 g2) (.slice f3 0 g3) (.slice f4 0 g4))∈KS/\(yb,a5w q.2.err q.2.at_ q.2.n (.slice b1 l2.length d1) (.slice b2 m2 d2) (.slice b3 q.2.granted.length d3) (.slice b4 q.2.ended.length d4))∈KS/\(bb,a5w 0 0 0 (.slice a1 l1.length c1) (.slice a2 n2 c2) (.slice a3 0 c3) (.slice a4 0 c4))∈KS)/\(Value.slice f1 l3.length g1,l3)∈ES/\(Value.slice b3 q.2.granted.length d3,q.2.granted)∈NS/\CN X V6 p dk q.1 KS ES NS :=
    ⟨_,_,_,⟨List.mem_cons_self ..,List.mem_cons_of_mem _ (List.mem_cons_self ..),List.mem_cons_of_mem _ (List.mem_cons_of_mem _ (List.mem_cons_self ..))⟩,List.mem_cons_self ..,List.mem_cons_of_mem _ (List.mem_cons_of_mem _ (List.mem_cons_self ..)),HC.out⟩
   replace HC:=a0b hcn
   have RC:Hid (∀ W',CN X W' p dk q.1 KS ES NS->(W'.cell? ⟨ab,0,none⟩=some (.int .i64 0)/\W'.cell? ⟨ab,3,none⟩=some (.slice f1 l3.length g1))/\(W'.cell? ⟨yb,0,none⟩=some (.int .i64 q.2.err)/\W'.cell? ⟨yb,5,none⟩=some (.slice b3 q.2.granted.length d3))/\(W'.cell? ⟨bb,0,none⟩=some (.int .i64 0)/\W'.cell? ⟨bb,3,none⟩=some (.slice a1 l1.length c1))):=fun W' k=>by
    have x:=a2T (k.cx.kb kc.1)
    have y:=a2T (k.cx.kb kc.2.1)
    have z:=a2T (k.cx.kb kc.2.2)
    exact⟨⟨x.1,x.2.2.2.1⟩,⟨y.1,y.2.2.2.2.2.1⟩,⟨z.1,z.2.2.2.1⟩⟩
   have EF:Hid (∀ W',CN X W' p dk q.1 KS ES NS->EV W' (.slice f1 l3.length g1) l3):=fun W' k=>k.cx.ev ke
   have NF:Hid (∀ W',CN X W' p dk q.1 KS ES NS->∀ (k:Nat) (h:k<q.2.granted.length),∃ g cap,Value.slice b3 q.2.granted.length d3=.slice (some ⟨g,0,none⟩) q.2.granted.length cap/\W'.cell? ⟨g,k,none⟩=some (.int .i64 q.2.granted[k])):=fun W' kk k h=>kk.num kn k h
   clear kc ke kn hcn
   obtain⟨⟨ea,_⟩,_,⟨eb0,_⟩⟩:=RC.out V6 HC.out
   go_upto_region 15 with fail
   clear ea eb0
   go_loopw [15,16,17,18] (fun vk _ _ _ wr=>∃ k:Nat,k<=l3.length/\vk=.int .i64 k/\CN X wr p dk q.1 KS ES NS) (fun vk _ _ _ _=>l3.length-(intOf vk).toNat)
   case atStart=>exact⟨0,Nat.zero_le _,rfl,HC.out⟩
   case round =>
    obtain⟨k,hk,rfl,hcn⟩:=hrel
    replace HC:=a0b hcn
    clear hcn
    obtain⟨⟨_,a3c⟩,_,_⟩:=RC.out wr HC.out
    by_cases hkl:k<l3.length
    ·have hkl':(k:Int)<(l3.length:Int):=by omega
     have hev:=EF.out wr HC.out
     obtain⟨g,cap,e,x0,x1,x2,x3,x4,x5⟩:=hev.cell k hkl
     simp only[Value.slice.injEq,true_and] at e
     obtain⟨rfl,rfl⟩:=e
     have wi:=W3.out k hkl
     obtain⟨fr,til,hs,hlt,hnf⟩:=wi.sp
     have hsp:=hev.sp l3[k] (List.getElem_mem hkl)
     rw[hs] at hsp
     obtain⟨gs,cs,e3,_,_⟩:=hsp.cell 0 (by simp)
     simp only[List.length_cons,List.length_nil] at e3
     have SPF:Hid (∀ W',CN X W' p dk q.1 KS ES NS->W'.cell? ⟨gs,0,none⟩=some (.int .i64 fr)/\W'.cell? ⟨gs,1,none⟩=some (.int .i64 til)):=fun W' kk=>by
      have hp:=(EF.out W' kk).sp l3[k] (List.getElem_mem hkl)
      rw[hs] at hp
      obtain⟨g',c',e',y0,y1⟩:=hp.cell 0 (by simp)
      rw[e3] at e'
      simp only[Value.slice.injEq,Option.some.injEq,Addr.mk.injEq,and_true] at e'
      obtain⟨rfl,_⟩:=e'
      exact⟨y0,y1⟩
     have PRV:Hid (0<k->∃ idp:Int,idp<l3[k].1.id/\∀ W',CN X W' p dk q.1 KS ES NS->W'.cell? ⟨g,(k-1)*6,none⟩=some (.int .i64 idp)):=fun h0=>⟨l3[k-1].1.id,UP.out k hkl h0,fun W' kk=>by
      obtain⟨g',c',e',z0,_⟩:=(EF.out W' kk).cell (k-1) (by omega)
      simp only[Value.slice.injEq,Option.some.injEq,Addr.mk.injEq,and_true] at e'
      obtain⟨rfl,_⟩:=e'
      exact z0⟩
     rw[e3] at x4
     rw[wi.kd] at x1
     have FN:Hid ((l3[k].1.a0k=(⟨#[97]⟩:ByteArray)\/l3[k].1.a0k=(⟨#[98]⟩:ByteArray))/\1<=l3[k].1.a0c/\l3[k].1.a0c<=9/\fr<til/\a1e q.1.ts q.1.es l3[k].1.a0k l3[k].1.a0c [(fr,til)]=false):=⟨wi.th,wi.u0,wi.u9,hlt,hnf⟩
     clear hev wi hs hsp hlt hnf e3
     generalize l3[k].1.id=id at *
     generalize l3[k].1.a0k=nm at *
     generalize l3[k].1.a0c=u at *
     generalize l3[k].1.a0Z=ti at *
     go_upto_region 18 with fail
     change Code.wp _ _ _ _ (wr.alloc (a4J ⟨id,3,nm,u,[],ti⟩ (.slice (some ⟨gs,0,none⟩) 1 cs)))
     have HK:=a0b (HC.out.alloc (a4J ⟨id,3,nm,u,[],ti⟩ (.slice (some ⟨gs,0,none⟩) 1 cs)))
     clear HC x0 x1 x2 x3 x4 x5 a3c
     generalize wr.alloc (a4J ⟨id,3,nm,u,[],ti⟩ (.slice (some ⟨gs,0,none⟩) 1 cs))=V at HK ⊢
     generalize wr.heap.size=eb at HK ⊢
     have LS:Hid (∀ W',CN X W' p dk q.1 ((eb,a4J ⟨id,3,nm,u,[],ti⟩ (.slice (some ⟨gs,0,none⟩) 1 cs)) :: KS) ES NS->CN X W' p dk q.1 KS ES NS):=fun W' kk=>kk.less (fun q hq=>List.mem_cons_of_mem _ hq) (fun q hq=>hq) (fun q hq=>hq)
     have OC:Hid (∀ W',CN X W' p dk q.1 ((eb,a4J ⟨id,3,nm,u,[],ti⟩ (.slice (some ⟨gs,0,none⟩) 1 cs)) :: KS) ES NS->W'.cell? ⟨eb,0,none⟩=some (.int .i64 id)/\W'.cell? ⟨eb,1,none⟩=some (.int .i64 3)/\W'.cell? ⟨eb,2,none⟩=some (.string nm)/\W'.cell? ⟨eb,3,none⟩=some (.int .i64 u)/\W'.cell? ⟨eb,4,none⟩=some (.slice (some ⟨gs,0,none⟩) 1 cs)):=fun W' kk=>e7N (kk.cx.kb (List.mem_cons_self ..))
     obtain⟨o0,o1,o2,o3,o4⟩:=OC.out V HK.out
     obtain⟨⟨_,a3c⟩,_,_⟩:=RC.out V (LS.out V HK.out)
     have SS:Hid (∀ W',CN X W' p dk q.1 ((eb,a4J ⟨id,3,nm,u,[],ti⟩ (.slice (some ⟨gs,0,none⟩) 1 cs)) :: KS) ES NS->W'.cell? ⟨Rb,0,none⟩=some (.int .i64 A)/\W'.cell? ⟨Rb,1,none⟩=some (.int .i64 B)/\W'.cell? ⟨eb,2,none⟩=some (.string nm)/\W'.cell? ⟨eb,3,none⟩=some (.int .i64 u)/\W'.cell? ⟨eb,4,none⟩=some (.slice (some ⟨gs,0,none⟩) 1 cs)/\W'.cell? ⟨gs,0,none⟩=some (.int .i64 fr)/\W'.cell? ⟨gs,1,none⟩=some (.int .i64 til)):=fun W' kk=>by
      obtain⟨ra,rb⟩:=RO.out W' kk.cx.bl
      obtain⟨_,_,p2,p3,p4⟩:=OC.out W' kk
      obtain⟨q0,q1⟩:=SPF.out W' (LS.out W' kk)
      exact⟨ra,rb,p2,p3,p4,q0,q1⟩
     have NM:Hid (Nm nm/\a0h nm q.1.ts≠0/\a0h nm (a3Z A B).ts=a0h nm q.1.ts):=by
      rcases FN.out.1 with h|h <;> rw[h]
      ·exact⟨c7k,(UA.out 0).2,(UA.out 0).1.symm⟩
      ·exact⟨c7j,(UA.out 1).2,(UA.out 1).1.symm⟩
     by_cases hk0:0<k
     ·obtain⟨idp,hid,hpc⟩:=PRV.out hk0
      have pc:=hpc V (LS.out V HK.out)
      have d1:decide ((0:Int)<(k:Int))=true:=by simpa using hk0
      have d2:decide (id<=idp)=false:=by simp;omega
      have kw:IntKind.i64.wrap ((k:Int)-1)=((k-1:Nat):Int):=by rw[a0G (by omega) (by omega)];omega
      have kw2:((k-1:Nat):Int)<(l3.length:Int):=by omega
      clear hpc
      go_quiet (fail)
      replace HK:=a0b (HK.out.later (a9Q (Below.refl _ _) nq))
      clear o0 o1 o2 o3 o4 a3c pc d1 d2 kw kw2
      generalize V.drewN nq=Z at HK ⊢
      go_upto_region 20 with fail
      have HZ:=a0b HK.out.drew
      obtain⟨s0,s1,s2,s3,s4,s5,s6⟩:=SS.out _ HZ.out
      have FT:=a0b (d7i HZ.out A B nm FN.out.1 NM.out.1 NM.out.2.1 NM.out.2.2 u fr til (by have:=FN.out.2.1;omega) FN.out.2.2.1 FN.out.2.2.2.1)
      rw[FN.out.2.2.2.2] at FT
      clear HK
      go_region_held3 (fun W'=>W'.cell? ⟨Rb,0,none⟩=some (.int .i64 A)/\W'.cell? ⟨Rb,1,none⟩=some (.int .i64 B)/\W'.cell? ⟨eb,2,none⟩=some (.string nm)/\W'.cell? ⟨eb,3,none⟩=some (.int .i64 u)/\W'.cell? ⟨eb,4,none⟩=some (.slice (some ⟨gs,0,none⟩) 1 cs)/\W'.cell? ⟨gs,0,none⟩=some (.int .i64 fr)/\W'.cell? ⟨gs,1,none⟩=some (.int .i64 til))
       (first
        |with_reducible exact SS.out _ HC7.out
        |exact⟨s0,s1,s2,s3,s4,s5,s6⟩)
       (first
        |(go_at_call 26;refine FT.out.mono ?_;rintro e w7 ⟨rfl,hc7⟩;have HC7:=a0b hc7;clear hc7))
      have HC:=a0b (LS.out _ HC7.out)
      clear HC7 SS FT HZ
      go_wp2_with fail
      go_roundw
      case rel=>exact⟨k+1,by omega,by go_num,HC.out⟩
      case measure=>simp[intOf];omega
     ·have d1:decide ((0:Int)<(k:Int))=false:=by simpa using hk0
      go_quiet (fail)
      replace HK:=a0b (HK.out.later (a9Q (Below.refl _ _) nq))
      clear o0 o1 o2 o3 o4 a3c d1
      generalize V.drewN nq=Z at HK ⊢
      go_upto_region 20 with fail
      have HZ:=a0b HK.out.drew
      obtain⟨s0,s1,s2,s3,s4,s5,s6⟩:=SS.out _ HZ.out
      have FT:=a0b (d7i HZ.out A B nm FN.out.1 NM.out.1 NM.out.2.1 NM.out.2.2 u fr til (by have:=FN.out.2.1;omega) FN.out.2.2.1 FN.out.2.2.2.1)
      rw[FN.out.2.2.2.2] at FT
      clear HK
      go_region_held3 (fun W'=>W'.cell? ⟨Rb,0,none⟩=some (.int .i64 A)/\W'.cell? ⟨Rb,1,none⟩=some (.int .i64 B)/\W'.cell? ⟨eb,2,none⟩=some (.string nm)/\W'.cell? ⟨eb,3,none⟩=some (.int .i64 u)/\W'.cell? ⟨eb,4,none⟩=some (.slice (some ⟨gs,0,none⟩) 1 cs)/\W'.cell? ⟨gs,0,none⟩=some (.int .i64 fr)/\W'.cell? ⟨gs,1,none⟩=some (.int .i64 til))
       (first
        |with_reducible exact SS.out _ HC7.out
        |exact⟨s0,s1,s2,s3,s4,s5,s6⟩)
       (first
        |(go_at_call 26;refine FT.out.mono ?_;rintro e w7 ⟨rfl,hc7⟩;have HC7:=a0b hc7;clear hc7))
      have HC:=a0b (LS.out _ HC7.out)
      clear HC7 SS FT HZ
      go_wp2_with fail
      go_roundw
      case rel=>exact⟨k+1,by omega,by go_num,HC.out⟩
      case measure=>simp[intOf];omega
    ·have hkl':¬ (k:Int)<(l3.length:Int):=by omega
     clear hkl hk W3 UP EF
     go_upto_region 24 with fail
     go_loopw [19,20,21,22,23,24] (fun vk _ _ _ _ _ wr=>∃ k:Nat,k<=q.2.granted.length/\vk=.int .i64 k/\CN X wr p dk q.1 KS ES NS) (fun vk _ _ _ _ _ _=>q.2.granted.length-(intOf vk).toNat)
     case atStart=>exact⟨0,Nat.zero_le _,rfl,HC.out⟩
     case round =>
      obtain⟨m,hm,rfl,hcn⟩:=hrel
      replace HC:=a0b hcn
      clear hcn a3c hkl'
      obtain⟨⟨_,a3c⟩,⟨y0c,y5c⟩,⟨_,b3c⟩⟩:=RC.out wr HC.out
      by_cases hml:m<q.2.granted.length
      ·have hml':(m:Int)<(q.2.granted.length:Int):=by omega
       obtain⟨g5,cap5,e5,x5⟩:=NF.out wr HC.out m hml
       simp only[Value.slice.injEq,true_and] at e5
       obtain⟨rfl,rfl⟩:=e5
       obtain⟨e,he,hid,hk1⟩:=GR.out q.2.granted[m] (List.getElem_mem hml)
       have KSm:=a0b (f0M HI1.out TS.out he hk1)
       rw[hid] at KSm
       have NG:Hid (∀ W',CN X W' p dk q.1 KS ES NS->W'.cell? ⟨g5,m,none⟩=some (.int .i64 q.2.granted[m])):=fun W' kk=>by
        obtain⟨g',c',e',z⟩:=NF.out W' kk m hml
        simp only[Value.slice.injEq,Option.some.injEq,Addr.mk.injEq,and_true] at e'
        obtain⟨rfl,_⟩:=e'
        exact z
       clear he hid hk1 a3c y0c y5c b3c x5
       generalize q.2.granted[m]=gid at NG KSm
       obtain⟨_,⟨_,y5c⟩,_⟩:=RC.out wr HC.out
       go_upto_region 27 with (first
        |(go_at_call 19;refine (CN.entries HC.out (⟨#[97]⟩:ByteArray) c7k (UA.out 0).2).mono ?_;rintro e w8 ⟨la,ya,ca,rfl,hea,hc8⟩;have HEa:=a0b hea;replace HC:=a0b hc8;clear hc8 hea))
       go_upto_region 28 with (first
        |(go_at_call 19;refine (CN.entries HC.out (⟨#[98]⟩:ByteArray) c7j (UA.out 1).2).mono ?_;rintro e w9 ⟨lb,yB,cb,rfl,heb,hc9⟩;have HEb:=a0b heb;replace HC:=a0b hc9;clear hc9 heb))
       clear y5c
       have HZ:=a0b HC.out.drew
       have K1:=a0b (fun W' (k:Below w9.drew.heap.size w9.drew W')=>e1b W' (.slice ya la.length ca) la ((HZ.out.later k).cx.ev (List.mem_cons_of_mem _ (List.mem_cons_self ..))) (by have:=Desk.c2P HI1.out (⟨#[97]⟩:ByteArray);rw[<- HEa.out,List.length_map] at this;omega) gid)
       have K2:=a0b (fun W' (k:Below w9.drew.heap.size w9.drew W')=>e1b W' (.slice yB lb.length cb) lb ((HZ.out.later k).cx.ev (List.mem_cons_self ..)) (by have:=Desk.c2P HI1.out (⟨#[98]⟩:ByteArray);rw[<- HEb.out,List.length_map] at this;omega) gid)
       rw[<- HEa.out,<- HEb.out] at KSm
       generalize d3M (la.map (·.1)) gid=ka at K1 KSm
       generalize d3M (lb.map (·.1)) gid=kb at K2 KSm
       have kw:IntKind.i64.wrap (ka+kb)=1:=by rw[KSm.out];rfl
       have LS:Hid (∀ W',Below w9.drew.heap.size w9.drew W'->CN X W' p dk q.1 KS ES NS):=fun W' k=>(HZ.out.later k).less (fun q hq=>hq) (fun q hq=>List.mem_cons_of_mem _ (List.mem_cons_of_mem _ hq)) (fun q hq=>hq)
       have SS:Hid (∀ W',Below w9.drew.heap.size w9.drew W'->W'.cell? ⟨yb,5,none⟩=some (.slice (some ⟨g5,0,none⟩) q.2.granted.length d3)/\W'.cell? ⟨g5,m,none⟩=some (.int .i64 gid)):=fun W' k=>⟨(RC.out W' (LS.out W' k)).2.1.2,NG.out W' (LS.out W' k)⟩
       obtain⟨s0,s1⟩:=SS.out _ (Below.refl _ _)
       clear HC KSm
       go_region_held3 (fun W'=>W'.cell? ⟨yb,5,none⟩=some (.slice (some ⟨g5,0,none⟩) q.2.granted.length d3)/\W'.cell? ⟨g5,m,none⟩=some (.int .i64 gid))
        (first
         |with_reducible exact SS.out _ HB6.out
         |with_reducible exact SS.out _ HB5.out
         |exact⟨s0,s1⟩)
        (first
         |(go_at_call 36;refine (K2.out _ HB5.out).mono ?_;rintro e wk2 ⟨rfl,hb6⟩;have HB6:=a0b (a0j HB5.out hb6 (Nat.le_refl _));clear hb6)
         |(go_at_call 36;refine (K1.out _ (Below.refl _ _)).mono ?_;rintro e wk1 ⟨rfl,hb5⟩;have HB5:=a0b hb5;clear hb5))
       have HC:=a0b (LS.out _ HB6.out)
       clear HB5 HB6 SS LS K1 K2 HZ NG
       go_wp2_with fail
       go_roundw
       case rel=>exact⟨m+1,by omega,by go_num,HC.out⟩
       case measure=>simp[intOf];omega
      ·have hml':¬ (m:Int)<(q.2.granted.length:Int):=by omega
       have HF:=a0b (HC.out.less (ks':=[]) (es':=[]) (ns':=[]) (by simp) (by simp) (by simp))
       have w1:IntKind.i64.wrap ((l1.length:Int)-(l3.length:Int))=(l1.length:Int)-(l3.length:Int):=a0G (by omega) (by omega)
       have w2:IntKind.i64.wrap ((l1.length:Int)-(l3.length:Int)-(q.2.granted.length:Int))=(l1.length:Int)-(l3.length:Int)-(q.2.granted.length:Int):=a0G (by omega) (by omega)
       have w3:IntKind.i64.wrap ((l1.length:Int)-(l3.length:Int)-(q.2.granted.length:Int)+1)=(l1.length:Int)-(l3.length:Int)-(q.2.granted.length:Int)+1:=a0G (by omega) (by omega)
       have t0i:(0:Int)<(t.size:Int):=by omega
       clear HC hml hm NF GR RC UA HI1
       by_cases he:q.2.err=0
       ·have eb1:(q.2.err==0)=true:=by simpa using he
        have eb2:(q.2.err != 0)=false:=by simpa using he
        have lf:=LFF.out.1 he
        clear he LFF
        by_cases hw:((t[0]'t0).toNat:Int)=119
        ·have hwb:(((t[0]'t0).toNat:Int)==119)=true:=by simpa using hw
         rw[if_pos ((e8u t0).2 hw)] at lf
         have dn:decide ((l1.length:Int)-(l3.length:Int)-(q.2.granted.length:Int)+1<0)=false:=by simp;omega
         clear hw
         go_wp2_with fail
         go_roundw
         case rel=>exact⟨i+1,q.1,by omega,by omega,by go_num,TS.out,HF.out⟩
         case measure=>simp[intOf];omega
        ·have hwb:(((t[0]'t0).toNat:Int)==119)=false:=by simpa using hw
         rw[if_neg (fun h=>hw ((e8u t0).1 h))] at lf
         have dn:decide ((l1.length:Int)-(l3.length:Int)-(q.2.granted.length:Int)<0)=false:=by simp;omega
         clear hw
         go_wp2_with fail
         go_roundw
         case rel=>exact⟨i+1,q.1,by omega,by omega,by go_num,TS.out,HF.out⟩
         case measure=>simp[intOf];omega
       ·have eb1:(q.2.err==0)=false:=by simpa using he
        have eb2:(q.2.err != 0)=true:=by simpa using he
        have lf:=LFF.out.2 he
        have dn:decide ((l1.length:Int)-(l3.length:Int)-(q.2.granted.length:Int)<0)=false:=by simp;omega
        have dz:((l1.length:Int)-(l3.length:Int)-(q.2.granted.length:Int) != 0)=false:=by simpa using lf
        clear he LFF
        by_cases hw:((t[0]'t0).toNat:Int)=119
        ·have hwb:(((t[0]'t0).toNat:Int)==119)=true:=by simpa using hw
         clear hw
         go_wp2_with fail
         go_roundw
         case rel=>exact⟨i+1,q.1,by omega,by omega,by go_num,TS.out,HF.out⟩
         case measure=>simp[intOf];omega
        ·have hwb:(((t[0]'t0).toNat:Int)==119)=false:=by simpa using hw
         clear hw
         go_wp2_with fail
         go_roundw
         case rel=>exact⟨i+1,q.1,by omega,by omega,by go_num,TS.out,HF.out⟩
         case measure=>simp[intOf];omega
  ·have HF:Hid (Below w.heap.size w wr):=HX.out.trans (HC.out.cx.bl.mono HX.out.size)
   clear HC HTS
   by_cases h1:i<ss.length
   ·have h1':(i:Int)<(ss.length:Int):=by omega
    have h2':¬ (i:Int)<30:=by omega
    clear hlt
    go_wp2_with fail
    go_ret
    exact⟨rfl,HF.out⟩
   ·have h1':¬ (i:Int)<(ss.length:Int):=by omega
    clear hlt
    go_wp2_with fail
    go_ret
    exact⟨rfl,HF.out⟩
end Go.Proofs.YtjfkfiffakbagaaGreatDoor
namespace Go.Proofs.YtjfkfiffakbagaaGreatDoor.Laid
def val:DataW Unit->Value
 |.lit (.int k n)=>.int k n
 |.lit (.string b)=>.string ⟨b.toArray⟩
 |_=>.bool false
def row:DataW Unit->List Value
 |.agg l=>l.map val
 |_=>[]
def rows:DataW Unit->List Value
 |.agg l=>l.flatMap row
 |_=>[]
def text:DataW Unit->Value
 |.iface _ (.ptr (.agg [d]))=>val d
 |_=>.bool false
def put(l:List Value):Obj->Obj
 |.cells _ t frozen=>.cells l.toArray t frozen
 |o=>o
def c6N(w:World):World :=
 { w with heap:=(((((((((w.heap.modify 0 (put (row Rows.laid_bookings_calendar_monthDays))).modify 1 (put (row Rows.laid_internal_strconv_uint64pow10))).modify 5 (put [.iface 365 (.pointer (some ⟨w.heap.size,0,none⟩))])).modify 6 (put [.iface 365 (.pointer (some ⟨w.heap.size+1,0,none⟩))])).modify 2 (put (row Rows.laid_bookings_lines_weekdays))).modify 3 (put (row Rows.laid_math_bits_deBruijn32tab))).modify 4 (put (row Rows.laid_math_bits_deBruijn64tab))).modify 8 (put (row Rows.laid_unicode_utf8_first))).modify 9 (put (rows Rows.laid_unicode_utf8_acceptRanges))).push (.cells #[text Rows.laid_strconv_ErrSyntax] 367) |>.push (.cells #[text Rows.laid_strconv_ErrRange] 367) }
theorem met(os:Os):laidMet Tryz.prog Rows.datesRow.laid ((c6N (World.holding Tryz.prog os ⟨#[],#[],[]⟩)).forCall (fun _ _=>0) ⟨#[],#[.slice none 0 0],[]⟩).memory :=
 laidMet_of_run' 8 (by kernel_rfl) (by kernel_rfl)
end Go.Proofs.YtjfkfiffakbagaaGreatDoor.Laid
namespace Go.Proofs.YtjfkfiffakbagaaGreatDoor.datesLaw
open Go.ChangeShapes Go.WideShapes Go.ChangeAt Go.RowKit
theorem own:ownKnob Tryz.prog.godebug=none:=by kernel_rfl
theorem c5b:laidOutB Tryz.prog=true:=by kernel_rfl
def b9r:String:=Rows.datesRow.named.getD 0 Rows.datesRow.func
theorem b8y:Tryz.prog.globalNamed b9r=some 0:=by kernel_rfl
theorem c3e:(Tryz.prog.globals[0]?).map (·.type)=some 199:=by kernel_rfl
theorem c3A:Tryz.prog.cellsOf 199=12:=by kernel_rfl
theorem c3D:Tryz.prog.cellsOf 3=1:=by kernel_rfl
theorem b7n:Tryz.prog.cellsOf 9=1:=by kernel_rfl
theorem table{W:World}(h:laidMetH Tryz.prog Rows.datesRow.laid W):Lib.TabIs Tryz.prog W b9r .i64 [31,28,31,30,31,30,31,31,30,31,30,31] :=
 Lib.tabIs_of_head b8y c3e Tryz.underlying199 Tryz.underlying3 c3D c3A h
theorem tab{W:World}(h:laidMetH Tryz.prog Rows.datesRow.laid W):Tab W :=
 ⟨(table h).cell b8y 0 (by decide),(table h).cell b8y 1 (by decide),(table h).cell b8y 2 (by decide),(table h).cell b8y 3 (by decide),(table h).cell b8y 4 (by decide),(table h).cell b8y 5 (by decide),(table h).cell b8y 6 (by decide),(table h).cell b8y 7 (by decide),(table h).cell b8y 8 (by decide),(table h).cell b8y 9 (by decide),(table h).cell b8y 10 (by decide),(table h).cell b8y 11 (by decide)⟩
end Go.Proofs.YtjfkfiffakbagaaGreatDoor.datesLaw
namespace Go.Proofs.YtjfkfiffakbagaaGreatDoor.EnvLaid
open Go.ChangeShapes Go.WideShapes Go.ChangeAt Go.RowKit
theorem b2G{P:Program}{W:World}{name:String}{k:IntKind}{zs:List Int}{g:Nat}{t e:TypeId}{n:Nat}
  (hg:P.globalNamed name=some g) (hty:(P.globals[g]?).map (·.type)=some t) (ht:P.underlying t=some (.array n e)) (he:P.underlying e=some (.int k)) (hce:P.cellsOf e=1) (hct:P.cellsOf t=n)
  (h:Lib.VarReads P W name (Lib.tabData k zs)):Lib.TabIs P W name k zs:=by
 obtain⟨g',t',cs,fuel,p,hg',ht',hvar,hd⟩:=h
 obtain rfl:=Option.some.inj (hg.symm.trans hg')
 obtain rfl:=Option.some.inj (hty.symm.trans ht')
 unfold Lib.TabIs
 rw[hvar,<- Lib.cells_of_tab ht he hce hct hd]
theorem b9t{P:Program}{W:World}{name:String}{zs:List (List UInt8)}{g:Nat}{t e:TypeId}{n:Nat}
  (hg:P.globalNamed name=some g) (hty:(P.globals[g]?).map (·.type)=some t) (ht:P.underlying t=some (.array n e)) (he:P.underlying e=some .string) (hce:P.cellsOf e=1)
  (h:Lib.VarReads P W name (.agg (zs.map fun z=>.lit (.string z)))) (i:Nat) (z:List UInt8) (hz:zs[i]?=some z):W.cell? ⟨g,i,none⟩=some (.string ⟨z.toArray⟩):=by
 obtain⟨g',t',cs,fuel,p,hg',ht',hvar,hd⟩:=h
 obtain rfl:=Option.some.inj (hg.symm.trans hg')
 obtain rfl:=Option.some.inj (hty.symm.trans ht')
 obtain⟨xs,m,_,hx,_,hxl,hall⟩:=DataW.trod_array ht hd
 have hx1:zs.map (fun z=>(DataW.lit (.string z):DataW Unit))=xs.map (·.1):=by
  have:=congrArg Prod.fst hx
  simpa using this
 have hlen:zs.length=xs.length:=by
  have:=congrArg List.length hx1
  simpa using this
 have hi:i<zs.length:=(List.getElem?_eq_some_iff.1 hz).1
 have hxi:xs[i]?=some xs[i]:=List.getElem?_eq_getElem (by omega)
 have hti:=hall i (by omega)
 rw[hxi,hce] at hti
 obtain⟨s,hs1,hs2,_⟩:=DataW.trod_string he hti
 have h1:(xs.map (·.1))[i]?=some (DataW.lit (.string z):DataW Unit):=by rw[<- hx1];simp[hz]
 have h2:(xs.map (·.1))[i]?=some (DataW.lit (.string s.data.toList):DataW Unit):=by simp[hxi,hs2]
 have h3:z=s.data.toList:=by
  have:=h1.symm.trans h2
  simpa using this
 have h4:cs[i]?=some (.string s):=by
  have:=congrArg (·[0]?) hs1
  simpa[List.getElem?_take,List.getElem?_drop] using this
 rw[World.var?_cell hg hvar i,h4,h3]
theorem c3f:(Tryz.prog.globals[1]?).map (·.type)=some 299:=by kernel_rfl
theorem c3B:Tryz.prog.cellsOf 299=20:=by kernel_rfl
theorem c3z:Tryz.prog.cellsOf 252=1:=by kernel_rfl
theorem c6X : Tryz.prog.globalNamed "bookings/lines.weekdays" = some 2 := by kernel_rfl
theorem c0J:(Tryz.prog.globals[2]?).map (·.type)=some 345:=by kernel_rfl
theorem b8z : Tryz.prog.globalNamed "bookings/calendar.monthDays" = some 0 := by kernel_rfl
theorem c3g:(Tryz.prog.globals[0]?).map (·.type)=some 199:=by kernel_rfl
theorem c3C:Tryz.prog.cellsOf 199=12:=by kernel_rfl
theorem c6I:Tryz.prog.cellsOf 3=1:=by kernel_rfl
theorem b7n:Tryz.prog.cellsOf 9=1:=by kernel_rfl
theorem c6Y {W : World} {l : List (String × DataW Unit)} (hM : laidMet Tryz.prog l W) (hS : W.ShapedOpen Tryz.prog) (m1 : ("bookings/calendar.monthDays", Rows.laid_bookings_calendar_monthDays) ∈ l) (m2 : ("internal/strconv.uint64pow10", Rows.laid_internal_strconv_uint64pow10) ∈ l) (m3 : ("bookings/lines.weekdays", Rows.laid_bookings_lines_weekdays) ∈ l) : Env W := by
 have ht : Lib.VarReads Tryz.prog W "bookings/calendar.monthDays" (Lib.tabData .i64 [31, 28, 31, 30, 31, 30, 31, 31, 30, 31, 30, 31]) := Lib.laidMet.reads hM (d := Rows.laid_bookings_calendar_monthDays) m1
 have hp : Lib.VarReads Tryz.prog W "internal/strconv.uint64pow10" (Lib.tabData .u64 Lib.pow10Tab) := Lib.laidMet.reads hM (d := Rows.laid_internal_strconv_uint64pow10) m2
 have hd : Lib.VarReads Tryz.prog W "bookings/lines.weekdays" (.agg ([[109, 111], [116, 117], [119, 101], [116, 104], [102, 114], [115, 97], [115, 117]].map fun z => .lit (.string z))) := Lib.laidMet.reads hM (d := Rows.laid_bookings_lines_weekdays) m3
 have day:=fun i z hz=>b9t c6X c0J Tryz.underlying345 Tryz.underlying9 b7n hd i z hz
 have tb:=b2G b8z c3g Tryz.underlying199 Tryz.underlying3 c6I c3C ht
 have hsz:10<=W.heap.size:=by
  have h0:(((begin Tryz.prog (fun _ _=>0) default).world.heap[9]?).bind Obj.row?).isSome=true:=by kernel_rfl
  obtain⟨⟨zero,t⟩,h1⟩:=Option.isSome_iff_exists.1 h0
  obtain⟨cs,hh,_⟩:=hS.1 9 zero t (of_decide_eq_true (by kernel_rfl)) h1
  exact (Array.getElem?_eq_some_iff.1 hh).1
 exact⟨⟨tb.cell b8z 0 (by decide),tb.cell b8z 1 (by decide),tb.cell b8z 2 (by decide),tb.cell b8z 3 (by decide),tb.cell b8z 4 (by decide),tb.cell b8z 5 (by decide),tb.cell b8z 6 (by decide),tb.cell b8z 7 (by decide),tb.cell b8z 8 (by decide),tb.cell b8z 9 (by decide),tb.cell b8z 10 (by decide),tb.cell b8z 11 (by decide)⟩,cell_of_shapedOpen_int (zero:=#[.int .i64 0]) (t:=3) hS (of_decide_eq_true (by kernel_rfl)) (by kernel_rfl) rfl (by kernel_rfl) (by kernel_rfl) Tryz.underlying3,
  b2G c6q c3f Tryz.underlying299 Tryz.underlying252 c3z c3B hp,hsz,
  day 0 _ rfl,day 1 _ rfl,day 2 _ rfl,day 3 _ rfl,day 4 _ rfl,day 5 _ rfl,day 6 _ rfl⟩
end Go.Proofs.YtjfkfiffakbagaaGreatDoor.EnvLaid
