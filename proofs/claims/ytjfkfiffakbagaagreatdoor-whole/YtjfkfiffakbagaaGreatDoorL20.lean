/-
  Parts of the proof, one behind the other.
-/
import Derived.Test.YtjfkfiffakbagaaGreatDoorL19
import Derived.Test.YtjfkfiffakbagaaGreatDoorRows
import Derived.Test.YtjfkfiffakbagaaGreatDoorCards
import Derived.Test.YtjfkfiffakbagaaGreatDoorTie
import Derived.Deep.AppendLies
import Derived.BigQuiet
import Derived.WalkKit
import Derived.ProofKit
import Derived.Deep.DeepWitnessRowRef
import Derived.LaidLaws
import Derived.OpenShut
import Derived.Deep.Slices
import Derived.Deep.DeepHandedRow
import Derived.Lib.LaidTab
set_option maxRecDepth 100000
set_option maxHeartbeats 8000000
namespace Go.Proofs.YtjfkfiffakbagaaGreatDoor
open Go.RowKit
open Desk (Ent St Ids kept a0C a0Q a1C a2e ofB a0y a2c Mid a1H a0z Inv a0h a2x a1q Rep b0g a1Q)
structure KB(W:World)(col:Nat->Option Col)(b:Nat)(o:Obj):Prop where
 h:W.heap[b]?=some o
 c:col b=none
theorem KB.later{W W':World}{col:Nat->Option Col}{b:Nat}{o:Obj}(h:KB W col b o)(k:Below W.heap.size W W'):KB W' col b o:=⟨(k.block b (Array.getElem?_eq_some_iff.1 h.h).1).trans h.h,h.c⟩
theorem KB.step{W W':World}{col col':Nat->Option Col}{b:Nat}{o:Obj}(h:KB W col b o)(st:Step anyS W.heap.size col col' W W'):KB W' col' b o:=by
 obtain⟨x,y⟩:=st.still h.h h.c
 exact⟨x,y⟩
def CX(X W:World)(p dk:Nat)(s:St)(ks:List (Nat × Obj))(es:List (Value × List (Ent × Value))):Prop :=
 ∃ (r:Raw) (col:Nat->Option Col),DG X W p dk s r col/\(∀ q∈ks,KB W col q.1 q.2)/\∀ q∈es,a3j W 0 col q.1 q.2
theorem CX.of{X W:World}{p dk:Nat}{s:St}{r:Raw}{col:Nat->Option Col}(h:DG X W p dk s r col):CX X W p dk s [] []:=⟨r,col,h,by simp,by simp⟩
theorem CX.later{X W W':World}{p dk:Nat}{s:St}{ks:List (Nat × Obj)}{es:List (Value × List (Ent × Value))}(h:CX X W p dk s ks es)(k:Below W.heap.size W W'):CX X W' p dk s ks es:=by
 obtain⟨r,col,d,b,e⟩:=h
 exact⟨r,col,d.later k,fun q hq=>(b q hq).later k,fun q hq=>(e q hq).step (S:=anyS) (B:=W.heap.size) (Step.below k) (Nat.le_refl _)⟩
theorem CX.drew{X W:World}{p dk:Nat}{s:St}{ks:List (Nat × Obj)}{es:List (Value × List (Ent × Value))}(h:CX X W p dk s ks es):CX X W.drew p dk s ks es:=h.later (a0q W)
theorem CX.alloc{X W:World}{p dk:Nat}{s:St}{ks:List (Nat × Obj)}{es:List (Value × List (Ent × Value))}(h:CX X W p dk s ks es)(o:Obj):CX X (W.alloc o) p dk s ((W.heap.size,o) :: ks) es:=by
 obtain⟨r,col,d,b,e⟩:=h
 have k:Below W.heap.size W (W.alloc o):=(Below.refl _ _).alloc (Nat.le_refl _) _
 refine⟨r,col,d.later k,fun q hq=>?_,fun q hq=>(e q hq).step (S:=anyS) (B:=W.heap.size) (Step.below k) (Nat.le_refl _)⟩
 rcases List.mem_cons.1 hq with rfl|hq
 ·exact⟨a0p W o,d.none (Nat.le_refl _)⟩
 ·exact (b q hq).later k
theorem CX.env{X W:World}{p dk:Nat}{s:St}{ks:List (Nat × Obj)}{es:List (Value × List (Ent × Value))}(h:CX X W p dk s ks es):Env W:=by
 obtain⟨r,col,d,_⟩:=h
 exact d.bd.env
theorem CX.inv{X W:World}{p dk:Nat}{s:St}{ks:List (Nat × Obj)}{es:List (Value × List (Ent × Value))}(h:CX X W p dk s ks es):Inv s:=by
 obtain⟨r,col,d,_⟩:=h
 exact d.inv
theorem CX.bl{X W:World}{p dk:Nat}{s:St}{ks:List (Nat × Obj)}{es:List (Value × List (Ent × Value))}(h:CX X W p dk s ks es):Below X.heap.size X W:=by
 obtain⟨r,col,d,_⟩:=h
 exact d.bl
theorem CX.kb{X W:World}{p dk:Nat}{s:St}{ks:List (Nat × Obj)}{es:List (Value × List (Ent × Value))}(h:CX X W p dk s ks es){b:Nat}{o:Obj}(hq:(b,o)∈ks):W.heap[b]?=some o:=by
 obtain⟨r,col,_,k,_⟩:=h
 exact (k _ hq).h
theorem CX.ev{X W:World}{p dk:Nat}{s:St}{ks:List (Nat × Obj)}{es:List (Value × List (Ent × Value))}(h:CX X W p dk s ks es){v:Value}{l:List (Ent × Value)}(hq:(v,l)∈es):EV W v l:=by
 obtain⟨r,col,_,_,e⟩:=h
 exact (e _ hq).ev
theorem CX.less{X W:World}{p dk:Nat}{s:St}{ks ks':List (Nat × Obj)}{es es':List (Value × List (Ent × Value))}(h:CX X W p dk s ks es)(hk:∀ q∈ks',q∈ks)(he:∀ q∈es',q∈es):CX X W p dk s ks' es':=by
 obtain⟨r,col,d,b,e⟩:=h
 exact⟨r,col,d,fun q hq=>b q (hk q hq),fun q hq=>e q (he q hq)⟩
theorem CX.step{X W W':World}{p dk:Nat}{s':St}{ks:List (Nat × Obj)}{es:List (Value × List (Ent × Value))}{r':Raw}{col col':Nat->Option Col}(b:∀ q∈ks,KB W col q.1 q.2)(e:∀ q∈es,a3j W 0 col q.1 q.2)(d:DG X W' p dk s' r' col')(st:Step anyS W.heap.size col col' W W'):CX X W' p dk s' ks es :=
 ⟨r',col',d,fun q hq=>(b q hq).step st,fun q hq=>(e q hq).step st (Nat.le_refl _)⟩
theorem a3j.low{w:World}{B:Nat}{col:Nat->Option Col}{v:Value}{l:List (Ent × Value)}(h:a3j w B col v l):a3j w 0 col v l :=
 ⟨a9c h.own (Nat.zero_le _),h.no,fun p hp=>⟨⟨a9c (h.sp p hp).1.own (Nat.zero_le _),(h.sp p hp).1.no⟩,(h.sp p hp).2⟩⟩
def CDo(X W:World)(p dk:Nat)(ks:List (Nat × Obj))(es:List (Value × List (Ent × Value)))(q:St × Rep)(e:Ending)(W':World):Prop :=
 ∃ (l:List (Ent × Value)) (a1 a2 a3 a4:Option Addr) (n2 c1 c2 c3 c4:Nat),e=.returned (.agg #[.int .i64 q.2.err,.int .i64 q.2.at_,.int .i64 q.2.n,.slice a1 l.length c1,.slice a2 n2 c2,.slice a3 q.2.granted.length c3,.slice a4 q.2.ended.length c4]) /\
  l.map (·.1)=q.2.entries/\CX X W' p dk q.1 ks ((.slice a1 l.length c1,l) :: es)/\W.heap.size<=W'.heap.size
theorem c6J{X W:World}{p dk:Nat}{ks:List (Nat × Obj)}{es:List (Value × List (Ent × Value))}{col:Nat->Option Col}(b:∀ q∈ks,KB W col q.1 q.2)(e:∀ q∈es,a3j W 0 col q.1 q.2){q:St × Rep}{en:Ending}{W':World}(h:b4e X W p dk col q en W'):CDo X W p dk ks es q en W':=by
 obtain⟨l,a1,a2,a3,a4,n2,c1,c2,c3,c4,r',col',rfl,P⟩:=h
 refine⟨l,a1,a2,a3,a4,n2,c1,c2,c3,c4,rfl,P.c7n,⟨r',col',P.dg,fun q hq=>(b q hq).step P.st,fun q hq=>?_⟩,P.st.size⟩
 rcases List.mem_cons.1 hq with rfl|hq
 ·exact P.row.low
 ·exact (e q hq).step P.st (Nat.le_refl _)
theorem CX.line{X W:World}{p dk:Nat}{s:St}{ks:List (Nat × Obj)}{es:List (Value × List (Ent × Value))}(h:CX X W p dk s ks es){t:ByteArray}{v:Value}{l:Desk.a7U}(hr:Reads t v)(hv:LV v l)(hl:Desk.a1O l){q:St × Rep}(hq:a1q s l=q):
  Calls Tryz.prog 20 #[.pointer (some ⟨p,0,none⟩),.string t] W fun e W'=>CDo X W p dk ks es q e W':=by
 obtain⟨r,col,d,b,e⟩:=h
 exact (b2g d hr hv hl hq).mono fun _ _ k=>c6J b e k
theorem CX.entries{X W:World}{p dk:Nat}{s:St}{ks:List (Nat × Obj)}{es:List (Value × List (Ent × Value))}(h:CX X W p dk s ks es)(nm:ByteArray)(hn:Nm nm)(hu:a0h nm s.ts≠0):
  Calls Tryz.prog 19 #[.pointer (some ⟨p,0,none⟩),.string nm] W fun e W'=>∃ (l:List (Ent × Value)) (a:Option Addr) (c:Nat),e=.returned (.tuple #[.slice a l.length c,.bool true])/\l.map (·.1)=a2x nm 0 1048320 s.es/\CX X W' p dk s ks ((.slice a l.length c,l) :: es):=by
 obtain⟨r,col,d,b,e⟩:=h
 refine (b5i d nm hn hu).mono ?_
 rintro en W' ⟨l,a,c,r',col',rfl,he,row,dg,st⟩
 refine⟨l,a,c,rfl,he,r',col',dg,fun q hq=>(b q hq).step st,fun q hq=>?_⟩
 rcases List.mem_cons.1 hq with rfl|hq
 ·exact row.low
 ·exact (e q hq).step st (Nat.le_refl _)
theorem CX.played{X W:World}{p dk:Nat}{s:St}{ks:List (Nat × Obj)}{es:List (Value × List (Ent × Value))}(h:CX X W p dk s ks es){v:Value}{ss:List ByteArray}(hv:TV X v ss):
  Calls Tryz.prog 18 #[.pointer (some ⟨p,0,none⟩),v] W fun e W'=>∃ s':St,e=.returned (.bool true)/\b2q s s' 30/\CX X W' p dk s' ks es:=by
 obtain⟨r,col,d,b,e⟩:=h
 refine (b7X d hv).mono ?_
 rintro en W' ⟨s',r',col',rfl,ha,dg,st⟩
 exact⟨s',rfl,ha,CX.step b e dg st⟩
def b5K(N:Nat)(es:List (Value × List (Ent × Value))):Prop:=∀ q∈es,(∀ c,q.1.ownBlock=some c->c<N)/\∀ x∈q.2,∀ c,x.2.ownBlock=some c->c<N
theorem CX.rows{X W:World}{p dk:Nat}{s:St}{ks:List (Nat × Obj)}{es:List (Value × List (Ent × Value))}(h:CX X W p dk s ks es):b5K W.heap.size es:=by
 obtain⟨r,col,_,_,e⟩:=h
 exact fun q hq=>⟨fun c hc=>((e q hq).own.lt c hc).2,fun x hx c hc=>(((e q hq).sp x hx).1.own.lt c hc).2⟩
theorem a3j.offK{w w':World}{B:Nat}{col:Nat->Option Col}{v:Value}{l:List (Ent × Value)}(h:a3j w B col v l){b:Nat}(k:Off [b] w w')(h1:∀ c,v.ownBlock=some c->c≠b)(h2:∀ x∈l,∀ c,x.2.ownBlock=some c->c≠b):a3j w' B col v l :=
 ⟨a1i h.own k (fun c hc=>by simp;exact h1 c hc),h.no,fun x hx=>⟨⟨a1i (h.sp x hx).1.own k (fun c hc=>by simp;exact h2 x hx c hc),(h.sp x hx).1.no⟩,(h.sp x hx).2⟩⟩
theorem CX.put{X W W':World}{p dk:Nat}{s:St}{ks:List (Nat × Obj)}{es:List (Value × List (Ent × Value))}{b N:Nat}{o o':Obj}(h:CX X W p dk s ((b,o) :: ks) es)(h10:10<=X.heap.size)(hX:X.heap.size<=b)(hp:p≠b)(hn:∀ q∈ks,q.1≠b)(hr:b5K N es)(hN:N<=b)(k:Off [b] W W')(hb:W'.heap[b]?=some o'):CX X W' p dk s ((b,o') :: ks) es:=by
 obtain⟨r,col,d,kk,ee⟩:=h
 have hc:=(kk (b,o) (List.mem_cons_self ..)).c
 refine⟨r,col,?_,fun q hq=>?_,fun q hq=>(ee q hq).offK k (fun c hc=>by have:=(hr q hq).1 c hc;omega) (fun x hx c hc=>by have:=(hr q hq).2 x hx c hc;omega)⟩
 ·have kb:∀ N,N<=X.heap.size->Below N W W':=fun N hN=>⟨k.os,k.tape,k.output,k.size,fun x hx=>k.block x (Nat.lt_of_lt_of_le hx (Nat.le_trans hN d.bl.size)) (by simp;omega)⟩
  exact⟨⟨(k.block p (Array.getElem?_eq_some_iff.1 d.bd.pc).1 (by simp;exact hp)).trans d.bd.pc,d.bd.pn,⟨d.bd.ds.dk.off k (fun x hx=>by have:x=b:=List.mem_singleton.1 hx;subst this;exact hc),d.bd.ds.of,d.bd.ds.wl,d.bd.ds.hl,d.bd.ds.inv⟩,d.bd.env.ten (kb 10 h10),d.bd.gl⟩,d.bl.trans (kb _ (Nat.le_refl _)),d.lo⟩
 ·rcases List.mem_cons.1 hq with rfl|hq
  ·exact⟨hb,hc⟩
  ·have h2:=kk q (List.mem_cons_of_mem _ hq)
   exact⟨(k.block q.1 (Array.getElem?_eq_some_iff.1 h2.h).1 (by simp;exact hn q hq)).trans h2.h,h2.c⟩
theorem CX.pl{X W:World}{p dk:Nat}{s:St}{ks:List (Nat × Obj)}{es:List (Value × List (Ent × Value))}(h:CX X W p dk s ks es):p<W.heap.size:=by
 obtain⟨r,col,d,_⟩:=h
 exact (Array.getElem?_eq_some_iff.1 d.bd.pc).1
def a1B:Obj:=.cells #[.string ⟨#[97]⟩,.string ⟨#[98]⟩] 9 (0,0)
def a1A(i:Nat):ByteArray:=if i=0 then ⟨#[97]⟩ else ⟨#[98]⟩
theorem a7y(i:Nat):a1A i=⟨#[97]⟩\/a1A i=⟨#[98]⟩:=by unfold a1A;split <;> simp
theorem a3x(i:Nat):Nm (a1A i):=by
 rcases a7y i with e|e <;> rw[e]
 ·exact c7k
 ·exact c7j
theorem a6P{W:World}{b:Nat}(hb:W.heap[b]?=some a1B)(i:Nat)(hi:i<2):W.cell? ⟨b,i,none⟩=some (.string (a1A i)):=by
 unfold a1B at hb
 match i,hi with
 |0,_=>simp only[World.cell?,hb];rfl
 |1,_=>simp only[World.cell?,hb];rfl
 |n+2,hi=>omega
theorem b2x{a b:Int}(ha:1<=a)(hb:1<=b)(i:Nat):a0h (a1A i) (a3Z a b).ts≠0:=by
 rcases a7y i with e|e <;> rw[e]
 ·have:=b9b a b;unfold nmA at this;rw[this];omega
 ·have:=b9a a b;unfold nmC at this;rw[this];omega
theorem c5r(args:Array Value)(w:World):(callFunc 21 args).run Tryz.prog w=.ok (.enter 21 args) w:=enters_of Tryz.func21 (by kernel_rfl) rfl args w
theorem c6D(args:Array Value)(w:World):(callFunc 20 args).run Tryz.prog w=.ok (.enter 20 args) w:=enters_of Tryz.func20 (by kernel_rfl) rfl args w
theorem c4E{W:World}{Q:Nat}(h:W.heap[Q]?=some a0f)(e a n:Int)(v1 v2 v3 v4:Value):(a2w W Q (.int .i64 e) (.int .i64 a) (.int .i64 n) v1 v2 v3 v4).heap[Q]?=some (a5w e a n v1 v2 v3 v4):=by
 unfold a2w
 exact a2A (a2A (a2A (a2A (a2A (a2A (a2A h _) _) _) _) _) _) _
structure Own(X:World)(b p:Nat)(ks:List (Nat × Obj))(es:List (Value × List (Ent × Value))):Prop where
 h10:10<=X.heap.size
 x:X.heap.size<=b
 p:p≠b
 ks:∀ q∈ks,q.1≠b
 es:b5K b es
theorem CX.swap{X W:World}{p dk:Nat}{s:St}{ks:List (Nat × Obj)}{es:List (Value × List (Ent × Value))}{a b:Nat × Obj}(h:CX X W p dk s (a :: b :: ks) es):CX X W p dk s (b :: a :: ks) es:=h.less (fun q hq=>by simp only[List.mem_cons] at hq ⊢;rcases hq with h|h|h <;> simp[h]) (fun q hq=>hq)
theorem CX.put'{X W W':World}{p dk:Nat}{s:St}{ks:List (Nat × Obj)}{es:List (Value × List (Ent × Value))}{b:Nat}{o o':Obj}(h:CX X W p dk s ((b,o) :: ks) es)(a:Own X b p ks es)(k:Off [b] W W')(hb:W'.heap[b]?=some o'):CX X W' p dk s ((b,o') :: ks) es:=h.put a.h10 a.x a.p a.ks a.es (Nat.le_refl _) k hb
theorem CX.next{X W:World}{p dk:Nat}{s:St}{ks:List (Nat × Obj)}{es:List (Value × List (Ent × Value))}{F a:Nat}{t:ByteArray}(h:CX X W p dk s ((F,a8o t a) :: ks) es)(o:Own X F p ks es)(ha:a<=t.size)(hs:t.size<=9223372036854775807)(n:Int)(h1:1<=n)(h2:n<=1000):
  Calls Tryz.prog 25 #[.pointer (some ⟨F,0,none⟩),.int .i64 n] W fun e W'=>∃ (v:Int) (a':Nat),e=.returned (.int .i64 v)/\0<=v/\v<n/\a'<=t.size/\CX X W' p dk s ((F,a8o t a') :: ks) es:=by
 have hf:FW W F t W:=⟨⟨a,h.kb (List.mem_cons_self ..),ha,hs⟩,h.env,Off.refl _ _,Nat.le_trans o.h10 o.x⟩
 refine (a1h hf n h1 h2).mono ?_
 rintro e W' ⟨v,rfl,v0,v1,k⟩
 obtain⟨a',fd⟩:=k.fd
 exact⟨v,a',rfl,v0,v1,fd.le,h.put' o k.off fd.b⟩
theorem a1y{W:World}{b:Nat}{nm:ByteArray}{u fr til:Int}(h:W.heap[b]?=some (a1P nm u fr til)):W.cell? ⟨b,0,none⟩=some (.string nm)/\W.cell? ⟨b,1,none⟩=some (.int .i64 u)/\W.cell? ⟨b,2,none⟩=some (.int .i64 fr)/\W.cell? ⟨b,3,none⟩=some (.int .i64 til)/\∀ o,W.frozen? ⟨b,o,none⟩=false:=b1X h
theorem a6T{s:St}(h:Inv s){nm:ByteArray}{l:List (Ent × Value)}(hl:l.map (·.1)=a2x nm 0 1048320 s.es):Few l:=by
 have h1:=Desk.c2P h nm
 rw[<- hl,List.length_map] at h1
 refine⟨by omega,fun p hp=>?_⟩
 have hm:p.1∈a2x nm 0 1048320 s.es:=by rw[<- hl];exact List.mem_map.2 ⟨p,hp,rfl⟩
 have e:=h.en p.1 (Desk.b6I h nm hm).1
 have:=e.u1
 have:=e.u9
 have:=e.sl
 exact⟨by omega,by omega,by omega⟩
theorem b0A{s:St}(h:Inv s)(nm:ByteArray){a b:Int}(hab:a<b):a1Q nm s.es a b<=a0h nm s.ts:=by
 obtain⟨_,x,_,_,e⟩:=Desk.a6H (name:=nm) h.mid.pos hab
 have e':Desk.a0o nm x s.es=a1Q nm s.es a b:=e
 have:=h.wi nm x
 omega
theorem b4N{s:St}(h:Inv s)(nm:ByteArray){a b:Int}(hab:a<b):0<=a1Q nm s.es a b:=by
 obtain⟨_,x,_,_,e⟩:=Desk.a6H (name:=nm) h.mid.pos hab
 have e':Desk.a0o nm x s.es=a1Q nm s.es a b:=e
 have:=Desk.a6v (name:=nm) (x:=x) h.mid.pos
 omega
namespace Rd
def prog(d n:Int):Nat->List Int
 |0=>[]
 |k+1=>d :: prog (d+n) n k
theorem d9z(n:Int):∀ (k:Nat)(d:Int),(prog d n k).length=k
 |0,d=>rfl
 |k+1,d=>by simp[prog,d9z n k]
theorem e4m(n:Int):∀ (k:Nat)(d:Int)(i:Nat)(h:i<(prog d n k).length),(prog d n k)[i]=d+i*n
 |0,d,i,h=>by simp[prog] at h
 |k+1,d,0,h=>by simp[prog]
 |k+1,d,i+1,h=>by
  simp only[prog,List.getElem_cons_succ]
  rw[e4m n k (d+n) i]
  rw[show ((i+1:Nat):Int)=(i:Int)+1 from by omega,Int.add_mul];omega
theorem e0O{ev:Int}(he:1<=ev):∀ (t k:Nat)(d:Int),t<=k->(t=0\/d+(t-1:Int)*ev<728)->(b0f ev k d).take t=prog d ev t
 |0,k,d,_,_=>by simp[prog]
 |t+1,0,d,h,_=>by omega
 |t+1,k+1,d,h,hd=>by
  have hd':d+(t:Int)*ev<728:=by
   rcases hd with hd|hd
   ·omega
   ·rwa [show ((t+1:Nat):Int)-1=(t:Int) from by omega] at hd
  have hpos:0<=(t:Int)*ev:=Int.mul_nonneg (by omega) (by omega)
  simp only[b0f,prog]
  rw[if_pos (by omega),List.take_succ_cons,e0O he t k (d+ev) (by omega) ?_]
  by_cases c:t=0
  ·exact .inl c
  ·right
   have:d+ev+((t:Int)-1)*ev=d+(t:Int)*ev:=by rw[Int.sub_mul];omega
   rw[this];exact hd'
theorem e4l(n:Int):∀ (k:Nat)(d x:Int),x∈prog d n k↔∃ i:Nat,i<k/\x=d+i*n
 |0,d,x=>by simp[prog]
 |k+1,d,x=>by
  simp only[prog,List.mem_cons]
  rw[e4l n k (d+n) x]
  constructor
  ·rintro (rfl|⟨i,hi,rfl⟩)
   ·exact⟨0,by omega,by simp⟩
   ·exact⟨i+1,by omega,by rw[show ((i+1:Nat):Int)=(i:Int)+1 from by omega,Int.add_mul];omega⟩
  ·rintro ⟨i,hi,rfl⟩
   cases i with
   |zero=>exact .inl (by simp)
   |succ i=>exact .inr ⟨i,by omega,by rw[show ((i+1:Nat):Int)=(i:Int)+1 from by omega,Int.add_mul];omega⟩
end Rd
theorem f4Q{n:Int}(h0:1<=n)(h1:n<=99):evB (Txt.a0x n)=true/\nvF (Txt.a0x n)=n/\Txt.a3V (Txt.a0x n).data.toList=true:=by
 obtain⟨a,b⟩:=Txt.b6O (n:=n) (by omega) (by omega)
 refine⟨?_,b,Txt.b3l (by omega)⟩
 unfold evB a0K
 rw[a,b];simp[h0,h1]
theorem f3e:Txt.a3V a7M.data.toList=true/\Txt.a3V b0Y.data.toList=true/\Txt.a3V a8D.data.toList=true/\Txt.a3V a8w.data.toList=true/\Txt.a3V a1t.data.toList=true/\Txt.a3V atW.data.toList=true/\Txt.a3V b3z.data.toList=true/\Txt.a3V b2z.data.toList=true:=by decide +kernel
namespace Rd
def d5V(n mn mi t:Int):a0Y:=⟨1,n,[],0,mn,mi,t,0⟩
theorem d9t{n mn mi t:Int}(hn:1<=n)(hn2:n<=2)(hm:0<=mn)(hm2:mn<150)(hi:1<=mi)(hi2:mi<=3440)(ht:1<=t)(ht2:t<=6):a6s (d5V n mn mi t) :=
 ⟨by simp[d5V],by simp[d5V],hn,by show n<=99;omega,by simp[d5V],by simp[d5V],hm,by show mn<1440;omega,hi,by show mi<=1048320;omega,by show 0<=t;omega,by show t<=99;omega,by simp[d5V],by simp[d5V]⟩
theorem d9u{n mn mi t:Int}(hn:1<=n)(hn2:n<=2)(hm:0<=mn)(hm2:mn<150)(hi:1<=mi)(hi2:mi<=3440)(ht:1<=t)(ht2:t<=6):a0E (d5V n mn mi t)=prog 0 n t.toNat:=by
 have h:=d9t hn hn2 hm hm2 hi hi2 ht ht2
 have hmul:(t-1)*n<=5*2:=Int.mul_le_mul (by omega) hn2 (by omega) (by omega)
 rw[a7N h,if_pos (show 0<(d5V n mn mi t).ti by show 0<t;omega),<- c4L h]
 have es:seq (d5V n mn mi t)=b0f n 800 0:=rfl
 have ew:(b0f n 800 0).takeWhile (fun d=>decide (d<=727))=b0f n 800 0:=by
  have key:∀ l:List Int,(∀ x∈l,x<=727)->l.takeWhile (fun d=>decide (d<=727))=l:=by
   intro l
   induction l with
   |nil=>intro _;rfl
   |cons x l ih =>
    intro hx
    rw[List.takeWhile_cons,if_pos (by have:=hx x (by simp);simp[this]),ih (fun y hy=>hx y (by simp[hy]))]
  apply key
  intro x hx
  have:=(b6d hn 800 0 x (by omega)).1 hx
  omega
 rw[es,ew]
 exact e0O hn t.toNat 800 0 (by omega) (.inr (by
  rw[show ((t.toNat:Nat):Int)=t from by omega];omega))
theorem f2I{n:Int}(hn:1<=n)(hn2:n<=2){t:Int}(ht2:t<=6){x:Int}(hx:x∈prog 0 n t.toNat):0<=x/\x<=10:=by
 obtain⟨i,hi,rfl⟩:=(e4l n t.toNat 0 x).1 hx
 have h1:(i:Int)*n<=5*2:=Int.mul_le_mul (by omega) hn2 (by omega) (by omega)
 have h2:0<=(i:Int)*n:=Int.mul_nonneg (by omega) (by omega)
 omega
theorem f2H{n mn mi t:Int}(hn:1<=n)(hn2:n<=2)(hm:0<=mn)(hm2:mn<150)(hi:1<=mi)(hi2:mi<=3440)(ht:1<=t)(ht2:t<=6):a6W (d5V n mn mi t)=0:=by
 unfold a6W
 rw[d9u hn hn2 hm hm2 hi hi2 ht ht2]
 have hl:=d9z n t.toNat 0
 have c1:¬ (40<(prog 0 n t.toNat).length\/40<(d5V n mn mi t).ti):=by
  show ¬ (40<(prog 0 n t.toNat).length\/40<t)
  omega
 have c2:¬ (prog 0 n t.toNat=[]\/((prog 0 n t.toNat).length:Int)<(d5V n mn mi t).ti):=by
  rintro (e|e)
  ·rw[e] at hl;simp at hl;omega
  ·have e':((prog 0 n t.toNat).length:Int)<t:=e
   omega
 have c3:¬ (prog 0 n t.toNat).any (a8m (d5V n mn mi t))=true:=by
  intro e
  obtain⟨d,hd,k⟩:=List.any_eq_true.1 e
  have:=f2I hn hn2 ht2 hd
  have k':1048320<d*1440+mn+mi:=of_decide_eq_true k
  omega
 rw[if_neg c1,if_neg c2,if_neg c3]
def d8c(n mn mi t:Int):List (Int × Int):=a2M (d5V n mn mi t) (prog 0 n t.toNat)
theorem d9v(n mn mi t:Int):(d8c n mn mi t).length=t.toNat:=by
 unfold d8c a2M
 rw[List.length_map,d9z]
theorem e4d{n mn mi t:Int}(k:Nat)(h:k<(d8c n mn mi t).length):(d8c n mn mi t)[k]=(1440*(k:Int)*n+mn,1440*(k:Int)*n+mn+mi):=by
 have e:(0+(k:Int)*n)*1440=1440*(k:Int)*n:=by
  rw[Int.zero_add,Int.mul_comm,Int.mul_assoc]
 simp only[d8c,a2M,List.getElem_map,e4m,e,d5V]
theorem e7G{n mn mi t:Int}(hn:1<=n)(hn2:n<=2)(ht2:t<=6)(k:Nat)(h:k<(d8c n mn mi t).length):0<=(k:Int)*n/\(k:Int)*n<=10/\k<=5:=by
 rw[d9v] at h
 have h1:(k:Int)*n<=5*2:=Int.mul_le_mul (by omega) hn2 (by omega) (by omega)
 have h2:0<=(k:Int)*n:=Int.mul_nonneg (by omega) (by omega)
 omega
end Rd
theorem e4c{n mn mi t:Int}(hn:1<=n)(hn2:n<=2)(hm:0<=mn)(hm2:mn<150)(hi:1<=mi)(hi2:mi<=3440)(ht2:t<=6):∀ p∈Rd.d8c n mn mi t,0<=p.1/\p.1<p.2/\p.2<=1048320:=by
 intro p hp
 obtain⟨k,hk,rfl⟩:=List.getElem_of_mem hp
 obtain⟨b1,b2,b3⟩:=Rd.e7G hn hn2 ht2 k hk
 rw[Rd.e4d]
 have e:1440*(k:Int)*n=1440*((k:Int)*n):=Int.mul_assoc ..
 rw[e]
 refine⟨?_,?_,?_⟩
 ·show 0<=1440*((k:Int)*n)+mn;omega
 ·show 1440*((k:Int)*n)+mn<1440*((k:Int)*n)+mn+mi;omega
 ·show 1440*((k:Int)*n)+mn+mi<=1048320;omega
open Desk (Ent St Inv a0h a2x a1q Rep b0g a1e)
theorem e3F{s:St}(hs:Inv s){nm:ByteArray}{u:Int}{L:List (Int × Int)}(hi:Inv (Desk.a2t s ⟨0,1,nm,u,L,0⟩).1){l1 l2:List (Ent × Value)}(h1:l1.map (·.1)=a2x nm 0 1048320 s.es)(h2:l2.map (·.1)=a2x nm 0 1048320 (Desk.a2t s ⟨0,1,nm,u,L,0⟩).1.es):
  l2.length=l1.length+1/\(∃ k,∃ h:k<l2.length,l2[k].1.id=s.given+1)/\∀ (k:Nat) (h:k<l2.length),l2[k].1.id=s.given+1->l2[k].1=⟨s.given+1,1,nm,u,L,0⟩:=by
 have pm:=Desk.c0u (s:=s) (e:=⟨0,1,nm,u,L,0⟩) hi (by show (1:Int)≠3;decide)
 rw[<- h2,<- h1] at pm
 have hl:=pm.length_eq
 simp only[List.length_map,List.length_cons] at hl
 have hin:(⟨s.given+1,1,nm,u,L,0⟩:Ent)∈l2.map (·.1):=pm.mem_iff.2 (List.mem_cons_self ..)
 refine⟨hl,?_,fun k h e=>?_⟩
 ·obtain⟨q,hq,eq⟩:=List.mem_map.1 hin
  obtain⟨k,hk,ek⟩:=List.getElem_of_mem hq
  exact⟨k,hk,by rw[ek,eq]⟩
 ·have hm:l2[k].1∈l2.map (·.1):=List.mem_map.2 ⟨_,List.getElem_mem h,rfl⟩
  rcases List.mem_cons.1 (pm.mem_iff.1 hm) with c|c
  ·exact c
  ·exfalso
   rw[h1] at c
   have hi0:=hs.idb _ (Desk.b6I hs nm c).1
   omega
theorem f0s{s:St}(h:Inv s){nm:ByteArray}{u n mn mi t:Int}(hu:1<=u)(hu9:u<=9)(hu2:u<=a0h nm s.ts)(hn:1<=n)(hn2:n<=2)(hm:0<=mn)(hm2:mn<150)(hi:1<=mi)(hi2:mi<=3440)(ht:1<=t)(ht2:t<=6)(hg:s.given<60):
  (a1e s.ts s.es nm u (Rd.d8c n mn mi t)=true->a1q s (.series nm u (Rd.d5V n mn mi t))=Desk.a2t s ⟨0,1,nm,u,Rd.d8c n mn mi t,0⟩)/\(a1e s.ts s.es nm u (Rd.d8c n mn mi t)=false->a1q s (.series nm u (Rd.d5V n mn mi t))=(s,Rep.error 8)):=by
 have ha:Desk.a0S s.ts nm u=0:=by
  unfold Desk.a0S
  rw[if_neg (by omega),if_neg (by omega)]
 have hr:=Rd.f2H hn hn2 hm hm2 hi hi2 ht ht2
 have hL:Rd.a2M (Rd.d5V n mn mi t) (Rd.a0E (Rd.d5V n mn mi t))=Rd.d8c n mn mi t:=by
  rw[Rd.d9u hn hn2 hm hm2 hi hi2 ht ht2];rfl
 refine⟨fun hf=>?_,fun hf=>?_⟩
 ·have he:Desk.a2l s nm u (Rd.d5V n mn mi t)=0:=by
   unfold Desk.a2l
   rw[if_neg (by rw[ha];simp),if_neg (by rw[hr];simp),if_neg (by omega),hL,if_pos hf]
  have hlen:=Rd.d9v n mn mi t
  refine Desk.c0D h ?_ (by omega) ⟨hu,hu9,?_,?_,e4c hn hn2 hm hm2 hi hi2 ht2,?_,.inl ⟨rfl,rfl⟩⟩ rfl hu2 hf
  ·simp only[Desk.a0g]
   rw[he,if_neg (by simp),hL]
  ·show (Rd.d8c n mn mi t).length<=40
   omega
  ·show Rd.d8c n mn mi t≠[]
   intro c;rw[c] at hlen;simp at hlen;omega
  ·have hup:=Rd.b0X (Rd.d9t hn hn2 hm hm2 hi hi2 ht ht2)
   rw[Rd.d9u hn hn2 hm hm2 hi hi2 ht ht2] at hup
   show (Rd.d8c n mn mi t).Pairwise _
   unfold Rd.d8c Rd.a2M
   rw[List.pairwise_map]
   refine hup.imp fun {x y} hxy=>?_
   show x*1440+mn<y*1440+mn
   omega
 ·have he:Desk.a2l s nm u (Rd.d5V n mn mi t)=8:=by
   unfold Desk.a2l
   rw[if_neg (by rw[ha];simp),if_neg (by rw[hr];simp),if_neg (by omega),hL,if_neg (by rw[hf];simp)]
  have e:Desk.a0g s (.series nm u (Rd.d5V n mn mi t))=(s,Rep.error 8):=by
   simp only[Desk.a0g]
   rw[he,if_pos (by simp)]
  rw[Desk.a8T h (by rw[e]),e]
def e6c(m:Int):ByteArray:=(e5E (m / 60)++(⟨#[58]⟩:ByteArray))++e5E (m % 60)
theorem f3a:((List.range 150).all fun m=>Txt.a3a (e6c m) && decide (Txt.a6J (e6c m)=m) && Txt.a3V (e6c m).data.toList && decide ((e6c m).size=5))=true:=by decide +kernel
theorem f4q{m:Int}(h0:0<=m)(h1:m<150):Txt.a3a (e6c m)=true/\Txt.a6J (e6c m)=m/\Txt.a3V (e6c m).data.toList=true/\(e6c m).size=5:=by
 obtain⟨k,rfl⟩:∃ k:Nat,m=k:=⟨m.toNat,by omega⟩
 have e:=List.all_eq_true.1 f3a k (List.mem_range.2 (by omega))
 simp only[Bool.and_eq_true,decide_eq_true_eq] at e
 exact⟨e.1.1.1,e.1.1.2,e.1.2,e.2⟩
def f2g:ByteArray:=⟨#[50,48,50,52,45,48,49,45,48,49]⟩
theorem f3C:Txt.a2y f2g=true/\b0a f2g=0/\Txt.a3V f2g.data.toList=true:=by decide +kernel
theorem e7E{t nm:ByteArray}{u n mn mi ti:Int}(hn:Nm nm)(hu:1<=u/\u<=9)(hv:1<=n/\n<=99)(hm:0<=mn/\mn<150)(hi:1<=mi/\mi<=1048320)(hti:1<=ti/\ti<=99)
  (ht:t.data.toList=a7l.data.toList++32 :: (nm.data.toList++32 :: ((Txt.a0x u).data.toList++32 :: (b0Y.data.toList++32 :: ((Txt.a0x n).data.toList++32 :: (a1t.data.toList++32 :: (f2g.data.toList++32 :: (atW.data.toList++32 :: ((e6c mn).data.toList++32 :: (b3z.data.toList++32 :: ((Txt.a0x mi).data.toList++32 :: (b2z.data.toList++32 :: (Txt.a0x ti).data.toList)))))))))))):
  Reads t (.iface 159 (.agg #[.string nm,.int .i64 u,.int .i64 1,.int .i64 n,.bool (isd [] 0),.bool (isd [] 1),.bool (isd [] 2),.bool (isd [] 3),.bool (isd [] 4),.bool (isd [] 5),.bool (isd [] 6),.int .i64 0,.int .i64 mn,.int .i64 mi,.int .i64 ti,.int .i64 0])):=by
 obtain⟨u1,u2,u3⟩:=c5P hu.1 hu.2
 obtain⟨n1,n2,n3⟩:=f4Q hv.1 hv.2
 obtain⟨d1,d2,d3⟩:=f3C
 obtain⟨m1,m2,m3,m4⟩:=f4q hm.1 hm.2
 obtain⟨i1,i2,i3⟩:=f5p hi.1 hi.2
 obtain⟨t1,t2,t3⟩:=f4Q hti.1 hti.2
 obtain⟨l1,l2,l3,l4,l5,l6,l7,l8⟩:=f3e
 have l0:Txt.a3V a7l.data.toList=true:=by decide +kernel
 have hw:Txt.a1v t=[a7l,nm,Txt.a0x u,b0Y,Txt.a0x n,a1t,f2g,atW,e6c mn,b3z,Txt.a0x mi,b2z,Txt.a0x ti]:=by
  refine Txt.a5p ?_ ?_
  ·rw[ht];simp only[List.map_cons,List.map_nil,Txt.a6Q,Txt.b3k]
  ·intro x hx
   simp only[List.mem_cons,List.not_mem_nil,or_false] at hx
   rcases hx with rfl|rfl|rfl|rfl|rfl|rfl|rfl|rfl|rfl|rfl|rfl|rfl|rfl
   ·exact l0
   ·exact hn.w
   ·exact u3
   ·exact l2
   ·exact n3
   ·exact l5
   ·exact d3
   ·exact l6
   ·exact m3
   ·exact l7
   ·exact i3
   ·exact l8
   ·exact t3
 have hs:t.size<=160:=by
  have a:=Txt.a0I u (by omega) (by omega)
  have b:=Txt.a0I n (by omega) (by omega)
  have c:=Txt.a0I mi (by omega) (by omega)
  have d:=Txt.a0I ti (by omega) (by omega)
  have e:=hn.s
  rw[<- Txt.a1l] at a b c d e m4 ⊢
  rw[ht]
  simp only[List.length_append,List.length_cons]
  have:a7l.data.toList.length=6:=rfl
  have:b0Y.data.toList.length=5:=rfl
  have:a1t.data.toList.length=4:=rfl
  have:f2g.data.toList.length=10:=rfl
  have:atW.data.toList.length=2:=rfl
  have:b3z.data.toList.length=3:=rfl
  have:b2z.data.toList.length=5:=rfl
  omega
 generalize hW:[a7l,nm,Txt.a0x u,b0Y,Txt.a0x n,a1t,f2g,atW,e6c mn,b3z,Txt.a0x mi,b2z,Txt.a0x ti]=W at hw
 have h0:W[0]?=some a7l:=by rw[<- hW];rfl
 have s1:=takes (ws:=W) (n:=1) (x:=nm) (B:=nmB) (by rw[<- hW];rfl) hn.b
 have s2:=takes (ws:=W) (n:=2) (x:=Txt.a0x u) (B:=unB) (by rw[<- hW];rfl) u1
 have hT:f3M W 5 f2g (e6c mn) (Txt.a0x mi) (Txt.a0x ti):=by
  rw[<- hW]
  exact⟨rfl,rfl,rfl,rfl,rfl,rfl,rfl,rfl,d1,m1,i1,t1,rfl⟩
 have hP:=e6a (ws:=W) (c:=3) (by rw[<- hW];rfl) (by rw[<- hW];rfl) n1
 have hC:=a8A (ws:=W) (n:=1) (by rw[<- hW];rfl) hn.b
 have key:∀ v st,a2H W v st->v=.iface 159 (.agg #[.string nm,.int .i64 u,.int .i64 1,.int .i64 n,.bool (isd [] 0),.bool (isd [] 1),.bool (isd [] 2),.bool (isd [] 3),.bool (isd [] 4),.bool (isd [] 5),.bool (isd [] 6),.int .i64 0,.int .i64 mn,.int .i64 mi,.int .i64 ti,.int .i64 0])/\st=(13,false):=by
  intro v st hl
  cases hl with
  |series _ pc ev acc fr mn mi ti un s hr =>
   simp only[a4T,a6y,s1.1,s2.1] at hr
   obtain⟨rfl,rfl,rfl,rfl,rfl,rfl,rfl,rfl,rfl⟩:=e5V hT hP hr
   simp only[a4T,a6y,s1.1,s2.2,u2,n2,d2,m2,i2,t2,hC,and_self]
  |none _ _ _ _ g=>exact absurd ((b1P h0).symm.trans g) (by simp)
  |a0k g=>exact absurd (d4Q h0 g) (by decide)
  |book g=>exact absurd (d4Q h0 g) (by decide)
  |hold g=>exact absurd (d4Q h0 g) (by decide)
  |wait g=>exact absurd (d4Q h0 g) (by decide)
  |expand g=>exact absurd (d4Q h0 g) (by decide)
  |confirm g=>exact absurd (d4Q h0 g) (by decide)
  |cancel g=>exact absurd (d4Q h0 g) (by decide)
  |list0 g=>exact absurd (d4Q h0 g) (by decide)
  |list1 g=>exact absurd (d4Q h0 g) (by decide)
  |waiting g=>exact absurd (d4Q h0 g) (by decide)
  |peak g=>exact absurd (d4Q h0 g) (by decide)
  |find g=>exact absurd (d4Q h0 g) (by decide)
  |tick g=>exact absurd (d4Q h0 g) (by decide)
  |clock g=>exact absurd (d4Q h0 g) (by decide)
 intro e he
 cases he with
 |long g=>omega
 |bad _ v st hl hb =>
  rw[hw] at hl hb
  obtain⟨_,rfl⟩:=key v st hl
  rcases hb with hb|hb
  ·cases hb
  ·simp[a1b,hT.len] at hb
 |good _ v st hl _ _ =>
  rw[hw] at hl
  obtain⟨rfl,_⟩:=key v st hl
  rfl
open Desk (Ent St Inv a0h a2x)
theorem d6Y{P:Program}(w:World)(t ty:TypeId)(base:Nat)(e:TypeId)(i:TypeInfo)(z:Value)(size bytes:Nat)(ht:P.underlying t=some (.slice e))(hi:P.info? e=some i)(hz:i.zero=some z)
  (hsize:i.size=size) (hby:i.bytes=bytes) (hzs:z.cells.size=size) (hsz:0<size)
  (v:Value) (n:Nat) (xs:List Value) (hown:w.ownsRow base e size v n xs)
  (ad:Addr) (c:Nat) (news:List Value) (hl:news.length=1*size) (hnews:∀ j u,news[j]?=some u->w.cell? (ad.add j)=some u) (h1:∀ u∈news,u.oneCell'=true)
  (h63:n+1<=maxLen) (hbytes:(n+1)*bytes<=140737488355328) (hbase:base<=w.heap.size):
  ∃ g cap w',(Builtin.append_ #[t,t] ty #[v,.slice (some ad) 1 c]).run P w=.ok (.slice (some ⟨g,0,none⟩) (n+1) cap) w' /\
   w'.ownsRow base e size (.slice (some ⟨g,0,none⟩) (n+1) cap) (n+1) (xs++news)/\w.grownBy w' v.ownBlock/\(v.ownBlock=some g\/(g=w.heap.size/\w.grownBy w' none)):=by
 obtain⟨g,cap,w',hr,h2,h3,_,_⟩:=run_append_lies (P:=P) w t ty base e i z size bytes ht hi hz hsize hby hzs hsz v n xs hown ad 1 c news hl hnews h1 (by omega) h63 hbytes hbase _ rfl
 refine⟨g,cap,w',hr,h2,h3,?_⟩
 subst hsize
 subst hby
 have hsmall:n+1<=9223372036854775807:=by simp only[maxLen] at h63;omega
 rcases hown.2 with ⟨rfl,rfl⟩|⟨g0,cap0,cur,rfl,hbg,hg,hnc,hcm,hcs,htake⟩
 ·have hr2:=run_append_nil (P:=P) w t ty e i z ht hi hz ad 1 c news hl hnews (by omega) (by omega) (by have hb:=hbytes;simp only[Nat.zero_add] at hb;omega)
  rw[hr2] at hr
  injection hr with e1 e2
  subst e2
  injection e1 with e3 e4 e5
  injection e3 with e6
  injection e6 with e7
  exact .inr ⟨e7.symm,⟨rfl,rfl,rfl,by simp,fun k hk _=>((Below.refl w.drew.heap.size w.drew).alloc (Nat.le_refl _) _).block k hk⟩⟩
 ·by_cases hroom:n+1<=cap0
  ·have hfit:n*i.size+news.length<=cur.size:=by rw[hl,hcs,<- Nat.add_mul];exact Nat.mul_le_mul_right _ hroom
   have hr2:=run_append_room (P:=P) w t ty e i ht hi g0 n cap0 cur hg ad 1 c news hl hnews h1 hroom hfit
   rw[hr2] at hr
   injection hr with e1 e2
   injection e1 with e3 e4 e5
   injection e3 with e6
   injection e6 with e7
   exact .inl (by rw[<- e7];rfl)
  ·have holds:∀ j u,xs[j]?=some u->w.cell? ((⟨g0,0,none⟩:Addr).add j)=some u:=hown.cells (g:=g0) rfl
   have hr2:=run_append_grow (P:=P) w t ty e i z ht hi hz ⟨g0,0,none⟩ n cap0 xs hown.1 holds ad 1 c news hl hnews (by omega) (by omega) (growslice_fits (by omega) hbytes)
   rw[hr2] at hr
   injection hr with e1 e2
   subst e2
   injection e1 with e3 e4 e5
   injection e3 with e6
   injection e6 with e7
   exact .inr ⟨e7.symm,⟨rfl,rfl,rfl,by simp,fun k hk _=>((Below.refl w.drew.heap.size w.drew).alloc (Nat.le_refl _) _).block k hk⟩⟩
theorem d4q{P:Program}(w:World){ops:Array Oper}{rest:List Oper}{o:Oper}{a:Act}{Q:Exit->Act->World->Prop}(hgd:o.guard=none)(s x:Operand)(t:TypeId)
  (ho:o.op=.call { callee:=.builtin .append,args:=#[s,x],argTypes:=#[t,t] })
  (base:Nat) (e:TypeId) (i:TypeInfo) (z:Value) (size bytes:Nat) (ht:P.underlying t=some (.slice e)) (hi:P.info? e=some i) (hz:i.zero=some z)
  (hsize:i.size=size) (hby:i.bytes=bytes) (hzs:z.cells.size=size) (hsz:0<size)
  (v:Value) (n:Nat) (xs:List Value) (hs:a.eval s=v) (hown:w.ownsRow base e size v n xs)
  (ad:Addr) (c:Nat) (news:List Value) (hx:a.eval x=.slice (some ad) 1 c) (hl:news.length=1*size) (hnews:∀ j u,news[j]?=some u->w.cell? (ad.add j)=some u) (h1:∀ u∈news,u.oneCell'=true)
  (h63:n+1<=maxLen) (hbytes:(n+1)*bytes<=140737488355328) (hbase:base<=w.heap.size)
  (h:∀ g cap w',w'.ownsRow base e size (.slice (some ⟨g,0,none⟩) (n+1) cap) (n+1) (xs++news)->w.grownBy w' v.ownBlock->(v.ownBlock=some g\/(g=w.heap.size/\w.grownBy w' none))->wpList P ops Q rest (a.put o.dst (.slice (some ⟨g,0,none⟩) (n+1) cap)) w'):
  wpList P ops Q (o :: rest) a w:=by
 refine wpList_plain hgd fun K hK=>?_
 obtain⟨g,cap,w',hr,h2,h3,h4⟩:=d6Y (P:=P) w t o.type base e i z size bytes ht hi hz hsize hby hzs hsz v n xs hown ad c news hl hnews h1 h63 hbytes hbase
 unfold Oper.wp execOp
 simp only[ho,resolve,invoke,builtin,Sem.run_bind,Sem.run_pure,Result.andThen_ok,List.map_toArray,List.map_cons,List.map_nil,hs,hx,hr]
 exact hK _ _ (h g cap w' h2 h3 h4)
theorem EV.init{w:World}{g n cap c:Nat}{l:List (Ent × Value)}{x:Ent × Value}(h:EV w (.slice (some ⟨g,0,none⟩) n cap) (l++[x])):EV w (.slice (some ⟨g,0,none⟩) l.length c) l:=by
 refine⟨⟨_,_,rfl⟩,fun k hk=>?_,fun p hp=>h.sp p (List.mem_append_left _ hp)⟩
 obtain⟨g',cap',e,y⟩:=h.cell k (by rw[List.length_append];omega)
 injection e with e1 _ _
 injection e1 with e2
 injection e2 with e3
 subst e3
 rw[List.getElem_append_left hk] at y
 exact⟨_,_,rfl,y⟩
theorem CX.entriesB{X W:World}{p dk:Nat}{s:St}{ks:List (Nat × Obj)}{es:List (Value × List (Ent × Value))}(h:CX X W p dk s ks es)(nm:ByteArray)(hn:Nm nm)(hu:a0h nm s.ts≠0):
  Calls Tryz.prog 19 #[.pointer (some ⟨p,0,none⟩),.string nm] W fun e W'=>∃ (l:List (Ent × Value)) (a:Option Addr) (c:Nat),e=.returned (.tuple #[.slice a l.length c,.bool true])/\l.map (·.1)=a2x nm 0 1048320 s.es/\CX X W' p dk s ks ((.slice a l.length c,l) :: es)/\(∀ b,(Value.slice a l.length c).ownBlock=some b->W.heap.size<=b):=by
 obtain⟨r,col,d,b,e⟩:=h
 refine (b5i d nm hn hu).mono ?_
 rintro en W' ⟨l,a,c,r',col',rfl,he,row,dg,st⟩
 refine⟨l,a,c,rfl,he,⟨r',col',dg,fun q hq=>(b q hq).step st,fun q hq=>?_⟩,fun b hb=>(row.own.lt b hb).1⟩
 rcases List.mem_cons.1 hq with rfl|hq
 ·exact row.low
 ·exact (e q hq).step st (Nat.le_refl _)
theorem CX.row{X W:World}{p dk:Nat}{s:St}{ks:List (Nat × Obj)}{es:List (Value × List (Ent × Value))}(h:CX X W p dk s ks es){v:Value}{l:List (Ent × Value)}(hq:(v,l)∈es):W.ownsRow 0 58 6 v l.length (l.flatMap a1f):=by
 obtain⟨r,col,_,_,e⟩:=h
 exact (e _ hq).own
theorem CX.grown{X W0 W2 W3:World}{p dk:Nat}{s:St}{v:Value}{l:List (Ent × Value)}(h:CX X W0 p dk s [] [(v,l)])(h10:10<=X.heap.size){N:Nat}(hX:X.heap.size<=N)(hp:p<N)(hv:∀ b,v.ownBlock=some b->N<=b){e:Ent}{sp:Value}
  (ho:W2.ownsRow W0.heap.size 60 2 sp e.a0e.length (e.a0e.flatMap spV)) (k:Below W0.heap.size W0 W2) (k3:Off v.ownBlock.toList W2 W3) {g2 cap:Nat}(hown:W3.ownsRow 0 58 6 (.slice (some ⟨g2,0,none⟩) (l.length+1) cap) (l.length+1) (l.flatMap a1f++a1f (e,sp))) (hat:v.ownBlock=some g2\/(W2.heap.size<=g2/\Below W2.heap.size W2 W3)):
  ∃ es,CX X W3 p dk s [] ((.slice (some ⟨g2,0,none⟩) (l.length+1) cap,l++[(e,sp)]) :: es)/\∀ (W':World) (s':St) (ks':List (Nat × Obj)) (es':List (Value × List (Ent × Value))),CX X W' p dk s' ks' (es'++(.slice (some ⟨g2,0,none⟩) (l.length+1) cap,l++[(e,sp)]) :: es)->EV W' v l:=by
 obtain⟨r,col,d,_,ee⟩:=h
 have row:a3j W0 0 col v l:=ee (v,l) (List.mem_cons_self ..)
 have d2:=d.later k
 have new:=a3j.snoc row ho k (Nat.zero_le _) (fun b hb=>d.none hb) k3 hown (hat.imp id (·.1))
 rcases hat with e1|⟨e1,e2⟩
 ·refine⟨[],⟨r,col,?_,(by simp),fun q hq=>(by rw[List.mem_singleton.1 hq];exact new)⟩,fun W' s' ks' es' hc=>?_⟩
  ·have hb:N<=g2:=hv g2 e1
   have hc:=row.no g2 e1
   rw[e1] at k3
   have k3':Off [g2] W2 W3:=k3
   have kb:∀ M,M<=X.heap.size->Below M W2 W3:=fun M hM=>⟨k3'.os,k3'.tape,k3'.output,k3'.size,fun x hx=>k3'.block x (Nat.lt_of_lt_of_le hx (Nat.le_trans hM d2.bl.size)) (by simp;omega)⟩
   exact⟨⟨(k3'.block p (Array.getElem?_eq_some_iff.1 d2.bd.pc).1 (by simp;omega)).trans d2.bd.pc,d2.bd.pn,⟨d2.bd.ds.dk.off k3' (fun x hx=>by have:x=g2:=List.mem_singleton.1 hx;subst this;exact hc),d2.bd.ds.of,d2.bd.ds.wl,d2.bd.ds.hl,d2.bd.ds.inv⟩,d2.bd.env.ten (kb 10 h10),d2.bd.gl⟩,d2.bl.trans (kb _ (Nat.le_refl _)),d2.lo⟩
  ·have hev:=hc.ev (List.mem_append_right _ (List.mem_cons_self ..))
   rcases row.own.2 with ⟨rfl,_⟩|⟨g,c,cur,rfl,_⟩
   ·cases e1
   ·have:g=g2:=by simpa[Value.ownBlock] using e1
    subst this
    exact hev.init
 ·refine⟨[(v,l)],⟨r,col,d2.later e2,(by simp),fun q hq=>?_⟩,fun W' s' ks' es' hc=>hc.ev (List.mem_append_right _ (List.mem_cons_of_mem _ (List.mem_cons_self ..)))⟩
  rcases List.mem_cons.1 hq with rfl|hq
  ·exact new
  ·rw[List.mem_singleton.1 hq]
   exact (row.step (S:=anyS) (B:=W0.heap.size) (Step.below k) (Nat.le_refl _)).step (S:=anyS) (B:=W2.heap.size) (Step.below e2) (Nat.le_refl _)
open Desk (Ent St)
theorem e8o{w0 w:World}{F:Nat}{s:ByteArray}(h:FW w0 F s w)(n:Int)(h1:1<=n)(h2:n<=100000):
  Calls Tryz.prog 25 #[.pointer (some ⟨F,0,none⟩),.int .i64 n] w fun e w'=>∃ v,e=.returned (.int .i64 v)/\0<=v/\v<n/\FW w0 F s w':=by
 obtain⟨a,fd⟩:=h.fd
 obtain⟨c0,c1,fz⟩:=b0q fd.b
 have hle:=fd.le
 have hsz:=fd.sz
 have HF:=a0b h
 have HD:=a0b fd
 have hz:(n==0)=false:=by simp;omega
 clear h fd
 by_cases hlt:a<s.size
 ·have hlt':¬ (s.size:Int)<=(a:Int):=by omega
  have k1:IntKind.i64.wrap ((a:Int)+1)=((a+1:Nat):Int):=by rw[a0G (by omega) (by omega)];omega
  have hb:s[a].toNat<256:=s[a].toNat_lt
  have k2:IntKind.i64.wrap (s[a].toNat:Int)=(s[a].toNat:Int):=a0G (by omega) (by omega)
  have k3:(s[a].toNat:Int).tmod n=(s[a].toNat:Int) % n:=Int.tmod_eq_emod_of_nonneg (by omega)
  have b1:0<=(s[a].toNat:Int) % n:=Int.emod_nonneg _ (by omega)
  have b2:(s[a].toNat:Int) % n<n:=Int.emod_lt_of_pos _ (by omega)
  have k4:IntKind.i64.wrap ((s[a].toNat:Int) % n)=(s[a].toNat:Int) % n:=a0G (by omega) (by omega)
  have HW:Hid (FW w0 F s (w.drew.drew.setCell ⟨F,1,none⟩ (.int .i64 ((a+1:Nat):Int)))):=by
   have k:=Off.set0 F w.drew.drew 1 (.int .i64 ((a+1:Nat):Int))
   have h2:=HF.out.drew.drew
   exact⟨⟨a+1,a2A (W:=w.drew.drew) HD.out.b _,hlt,hsz⟩,h2.env.ten (b9Z k h2.ten h2.env.size),h2.off.setCell (.inl (by simp)) _ _,h2.ten⟩
  go_enter Tryz.func25,Tryz.ntmps25
  go_upto_region 1 with fail
  go_big_region
  go_upto_region 3 with fail
  go_big_region
  go_wp2_with fail
  go_ret
  exact⟨_,rfl,b1,b2,HW.out⟩
 ·have hlt':(s.size:Int)<=(a:Int):=by omega
  go_enter Tryz.func25,Tryz.ntmps25
  go_upto_region 1 with fail
  go_big_region
  go_wp2_with fail
  go_ret
  exact⟨0,rfl,by omega,by omega,HF.out.drew⟩
theorem CX.nextW{X W:World}{p dk:Nat}{s:St}{ks:List (Nat × Obj)}{es:List (Value × List (Ent × Value))}{F a:Nat}{t:ByteArray}(h:CX X W p dk s ((F,a8o t a) :: ks) es)(o:Own X F p ks es)(ha:a<=t.size)(hs:t.size<=9223372036854775807)(n:Int)(h1:1<=n)(h2:n<=100000):
  Calls Tryz.prog 25 #[.pointer (some ⟨F,0,none⟩),.int .i64 n] W fun e W'=>∃ (v:Int) (a':Nat),e=.returned (.int .i64 v)/\0<=v/\v<n/\a'<=t.size/\CX X W' p dk s ((F,a8o t a') :: ks) es:=by
 have hf:FW W F t W:=⟨⟨a,h.kb (List.mem_cons_self ..),ha,hs⟩,h.env,Off.refl _ _,Nat.le_trans o.h10 o.x⟩
 refine (e8o hf n h1 h2).mono ?_
 rintro e W' ⟨v,rfl,v0,v1,k⟩
 obtain⟨a',fd⟩:=k.fd
 exact⟨v,a',rfl,v0,v1,fd.le,h.put' o k.off fd.b⟩
open Desk (Ent)
theorem b1y(L:List (Int × Int))(u v:Value)(w:World)(hu:SV w u L)(hv:SV w v L)(hl:L.length<=1000000):
  Calls Tryz.prog 35 #[u,v] w fun e w'=>e=.returned (.bool true)/\Below w.heap.size w w':=by
 obtain⟨a,ca,rfl⟩:=hu.form
 obtain⟨b,cb,rfl⟩:=hv.form
 have HU:=a0b hu
 have HV:=a0b hv
 clear hu hv
 have hb:((L.length:Int) != (L.length:Int))=false:=by simp
 go_enter Tryz.func35,Tryz.ntmps35
 go_wp2_with fail
 go_loopw [5] (fun v wr=>∃ k:Nat,k<=L.length/\v=.int .i64 k/\Below w.heap.size w wr) (fun v _=>L.length-(intOf v).toNat)
 case atStart=>exact⟨0,Nat.zero_le _,rfl,Below.refl _ _⟩
 case round =>
  obtain⟨k,hk,rfl,hbl⟩:=hrel
  have HB:=a0b hbl
  clear hbl
  by_cases hlt:k<L.length
  ·have hlt':(k:Int)<(L.length:Int):=by omega
   obtain⟨g,cap,e,a0,a1⟩:=(HU.out.later HB.out).cell k hlt
   simp only[Value.slice.injEq,true_and] at e
   obtain⟨rfl,rfl⟩:=e
   obtain⟨g2,cap2,e,b0,b1⟩:=(HV.out.later HB.out).cell k hlt
   simp only[Value.slice.injEq,true_and] at e
   obtain⟨rfl,rfl⟩:=e
   generalize L[k].1=x at *
   generalize L[k].2=y at *
   go_upto_region 6 with fail
   go_big_region
   have HBd:=a0b (HB.out.drew)
   clear HB
   go_wp2_with fail
   go_roundw
   case rel=>exact⟨k+1,by omega,by go_num,HBd.out⟩
   case measure=>simp[intOf];omega
  ·have hlt':¬ (k:Int)<(L.length:Int):=by omega
   go_wp2_with fail
   go_ret
   exact⟨rfl,HB.out⟩
theorem a9Q{B:Nat}{w w':World}(h:Below B w w')(n:Nat):Below B w (w'.drewN n):=⟨h.os,h.tape,h.output,h.size,h.block⟩
theorem a8V(l m:List (Ent × Value))(u v:Value)(w:World)(hu:EV w u l)(hv:EV w v m)(he:l.map (·.1)=m.map (·.1))(hl:l.length<=1000)(hs:∀ p∈l,p.1.a0e.length<=1000):
  Calls Tryz.prog 28 #[u,v] w fun e w'=>e=.returned (.bool true)/\Below w.heap.size w w':=by
 obtain⟨a,ca,rfl⟩:=hu.form
 obtain⟨b,cb,rfl⟩:=hv.form
 have hlen:m.length=l.length:=by have:=congrArg List.length he;simpa using this.symm
 have AT:Hid (∀ (k:Nat) (h:k<l.length) (h':k<m.length),m[k].1=l[k].1):=fun k h h'=>by
  have:=congrArg (fun x=>x[k]?) he
  simp only[List.getElem?_map,List.getElem?_eq_getElem h,List.getElem?_eq_getElem h',Option.map_some] at this
  exact (Option.some.inj this).symm
 have HU:=a0b hu
 have HV:=a0b hv
 have HS:=a0b hs
 rw[hlen]
 clear hu hv he hs
 have hb:((l.length:Int) != (l.length:Int))=false:=by simp
 go_enter Tryz.func28,Tryz.ntmps28
 go_wp2_with fail
 go_loopw [5,6] (fun v _ wr=>∃ k:Nat,k<=l.length/\v=.int .i64 k/\Below w.heap.size w wr) (fun v _ _=>l.length-(intOf v).toNat)
 case atStart=>exact⟨0,Nat.zero_le _,rfl,Below.refl _ _⟩
 case round =>
  obtain⟨k,hk,rfl,hbl⟩:=hrel
  have HB:=a0b hbl
  clear hbl
  by_cases hlt:k<l.length
  ·have hlt':(k:Int)<(l.length:Int):=by omega
   have hmt:k<m.length:=by omega
   obtain⟨g,cap,e,a0,a1,a2,a3,a4,a5⟩:=(HU.out.later HB.out).cell k hlt
   simp only[Value.slice.injEq,true_and] at e
   obtain⟨rfl,rfl⟩:=e
   obtain⟨g2,cap2,e,b0,b1,b2,b3,b4,b5⟩:=(HV.out.later HB.out).cell k hmt
   simp only[Value.slice.injEq,true_and] at e
   obtain⟨rfl,rfl⟩:=e
   have s1:=(HU.out.later HB.out).sp l[k] (List.getElem_mem hlt)
   have s2:=(HV.out.later HB.out).sp m[k] (List.getElem_mem hmt)
   rw[AT.out k hlt hmt] at b0 b1 b2 b3 b5 s2
   have SP:=a0b (fun W' (q:Below wr.heap.size wr W')=>b1y l[k].1.a0e l[k].2 m[k].2 W' (s1.later q) (s2.later q) (by have:=HS.out l[k] (List.getElem_mem hlt);omega))
   obtain⟨f1,f2,e1⟩:=s1.form
   obtain⟨f3,f4,e2⟩:=s2.form
   rw[e1] at a4 SP
   rw[e2] at b4 SP
   clear s1 s2 e1 e2
   generalize l[k].1=x at *
   have n0:(x.id != x.id)=false:=by simp
   have n1:(x.kind != x.kind)=false:=by simp
   have n3:(x.a0c != x.a0c)=false:=by simp
   have n5:(x.a0Z != x.a0Z)=false:=by simp
   have HBd:=a0b (HB.out.drew)
   have SS:Hid (∀ W',Below wr.drew.heap.size wr.drew W'->W'.cell? ⟨g,k*6,none⟩=some (.int .i64 x.id)/\W'.cell? ⟨g,k*6+1,none⟩=some (.int .i64 x.kind)/\W'.cell? ⟨g,k*6+2,none⟩=some (.string x.a0k)/\W'.cell? ⟨g,k*6+3,none⟩=some (.int .i64 x.a0c)/\W'.cell? ⟨g,k*6+4,none⟩=some (.slice f1 x.a0e.length f2)/\W'.cell? ⟨g,k*6+5,none⟩=some (.int .i64 x.a0Z)/\W'.cell? ⟨g2,k*6,none⟩=some (.int .i64 x.id)/\W'.cell? ⟨g2,k*6+1,none⟩=some (.int .i64 x.kind)/\W'.cell? ⟨g2,k*6+2,none⟩=some (.string x.a0k)/\W'.cell? ⟨g2,k*6+3,none⟩=some (.int .i64 x.a0c)/\W'.cell? ⟨g2,k*6+4,none⟩=some (.slice f3 x.a0e.length f4)/\W'.cell? ⟨g2,k*6+5,none⟩=some (.int .i64 x.a0Z)):=fun W' q=>⟨a0a q a0,a0a q a1,a0a q a2,a0a q a3,a0a q a4,a0a q a5,a0a q b0,a0a q b1,a0a q b2,a0a q b3,a0a q b4,a0a q b5⟩
   clear HB
   go_upto_region 6 with fail
   go_region_held3 (fun W'=>W'.cell? ⟨g,k*6,none⟩=some (.int .i64 x.id)/\W'.cell? ⟨g,k*6+1,none⟩=some (.int .i64 x.kind)/\W'.cell? ⟨g,k*6+2,none⟩=some (.string x.a0k)/\W'.cell? ⟨g,k*6+3,none⟩=some (.int .i64 x.a0c)/\W'.cell? ⟨g,k*6+4,none⟩=some (.slice f1 x.a0e.length f2)/\W'.cell? ⟨g,k*6+5,none⟩=some (.int .i64 x.a0Z)/\W'.cell? ⟨g2,k*6,none⟩=some (.int .i64 x.id)/\W'.cell? ⟨g2,k*6+1,none⟩=some (.int .i64 x.kind)/\W'.cell? ⟨g2,k*6+2,none⟩=some (.string x.a0k)/\W'.cell? ⟨g2,k*6+3,none⟩=some (.int .i64 x.a0c)/\W'.cell? ⟨g2,k*6+4,none⟩=some (.slice f3 x.a0e.length f4)/\W'.cell? ⟨g2,k*6+5,none⟩=some (.int .i64 x.a0Z))
    (first
     |with_reducible exact SS.out _ HB6.out
     |exact⟨a0,a1,a2,a3,a4,a5,b0,b1,b2,b3,b4,b5⟩)
    (first
     |(go_at_call 35;refine (SP.out _ (a0q _)).mono ?_;rintro e w6 ⟨rfl,hb6⟩;have HB6:=a0b hb6;clear hb6))
   have HF:Hid (Below w.heap.size w w6):=a0j HBd.out HB6.out (Nat.le_refl _)
   obtain⟨c0,c1,c2,c3,c4,c5,d0,d1,d2,d3,d4,d5⟩:=SS.out _ HB6.out
   clear HB6 HBd SS SP a0 a1 a2 a3 a4 a5 b0 b1 b2 b3 b4 b5
   have n2:(x.a0k.toList != x.a0k.toList)=false:=by simp
   have n2':(x.a0k.toList==x.a0k.toList)=true:=by simp
   go_upto_region 7 with fail
   go_quiet (fail)
   go_wp2_with fail
   go_roundw
   case rel=>exact⟨k+1,by omega,by go_num,a9Q HF.out _⟩
   case measure=>simp[intOf];omega
  ·have hlt':¬ (k:Int)<(l.length:Int):=by omega
   go_wp2_with fail
   go_ret
   exact⟨rfl,HB.out⟩
open Desk (Ent St Ids kept a0C a0Q a1C a2e ofB a0y a2c Mid a1H a0z Inv a0h a2x a1q Rep b0g a1Q a9A a1e)
theorem e3O{n:Int}(h0:0<=n)(h1:n<=1000):(e5E n).size<=8:=by
 have:=Txt.a0I n h0 (by omega)
 unfold e5E
 split
 ·rw[ByteArray.size_append]
  have:(⟨#[48]⟩:ByteArray).size=1:=rfl
  omega
 ·omega
theorem e6o(a b:Int)(raw:Value)(ss:List ByteArray)(more:ByteArray)(w:World)(he:Env w)(hraw:TV w raw ss)(hm:more.size<=9223372036854775807)(ha1:-9223372036854775808<=a)(ha2:a<=9223372036854775807)(hb1:-9223372036854775808<=b)(hb2:b<=9223372036854775807):
  Calls Tryz.prog 10 #[.int .i64 a,.int .i64 b,raw,.string more] w fun e w'=>e=.returned (.bool true)/\Below w.heap.size w w':=by
 obtain⟨rav,racap,rfl⟩:=hraw.form
 have RM:=a0b (c2p a b w ha1 ha2 hb1 hb2)
 obtain⟨x1,x2⟩:=a6G (c:=a) (n:=4) (by omega)
 obtain⟨y1,y2⟩:=a6G (c:=b) (n:=9) (by omega)
 have A1:1<=1+a2s a 4:=by omega
 have A2:1+a2s a 4<=9:=by omega
 have B1:1<=1+a2s b 9:=by omega
 have B2:1+a2s b 9<=9:=by omega
 have HE:=a0b he
 have HR:=a0b hraw
 generalize 1+a2s a 4=A at *
 generalize 1+a2s b 9=B at *
 clear x1 x2 y1 y2 he hraw ha1 ha2 hb1 hb2
 go_enter Tryz.func10,Tryz.ntmps10
 go_upto_region 2 with (first
  |(go_at_call 16;refine RM.out.mono ?_;rintro e w1 ⟨rfl,hb1⟩))
 change Code.wp _ _ _ _ (w1.alloc (a1T A B))
 have hX:Below w.heap.size w (w1.alloc (a1T A B)):=hb1.trans (((Below.refl w1.heap.size w1).alloc (Nat.le_refl _) _).mono hb1.size)
 have hro:=a0p w1 (a1T A B)
 have hrl:w1.heap.size<(w1.alloc (a1T A B)).heap.size:=by simp
 have HX:=a0b hX
 have h10:=Nat.le_trans HE.out.size hX.size
 have RO:Hid (∀ W',Below (w1.alloc (a1T A B)).heap.size (w1.alloc (a1T A B)) W'->W'.cell? ⟨w1.heap.size,0,none⟩=some (.int .i64 A)/\W'.cell? ⟨w1.heap.size,1,none⟩=some (.int .i64 B)):=fun W' k=>by
  have h:=(k.block w1.heap.size hrl).trans hro
  unfold a1T at h
  obtain⟨x,y,_⟩:=b0q h
  exact⟨x,y⟩
 have BG:=a0b (c1y _ (HE.out.later hX) A B ⟨A1,A2⟩ ⟨B1,B2⟩)
 have HT:=a0b (HR.out.below hX)
 clear hX hro hrl RM hb1 HR HE
 generalize w1.alloc (a1T A B)=X at *
 generalize w1.heap.size=Rb at *
 obtain⟨ra,rb⟩:=RO.out X (Below.refl _ _)
 go_upto_region 5 with (first
  |(go_at_call 17;refine BG.out.mono ?_;rintro e w2 ⟨p,dk,r,col,rfl,D2⟩;have HD:=a0b (CX.of D2);clear D2 BG ra rb))
 go_upto_region 6 with (first
  |(go_at_call 18;refine (CX.played HD.out HT.out).mono ?_;rintro e w3 ⟨s,rfl,hAf,hD3⟩;have HAf:=a0b hAf;replace HD:=a0b hD3;clear hAf hD3))
 clear HT
 have UA:Hid (∀ i,a0h (a1A i) s.ts=a0h (a1A i) (a3Z A B).ts/\a0h (a1A i) s.ts≠0):=fun i=>by
  have h:=HAf.out.ts (a1A i) (b2x A1 B1 i)
  exact⟨h,by rw[h];exact b2x A1 B1 i⟩
 have hgv:s.given<=30:=by have:=HAf.out.gv;have e:(a3Z A B).given=0:=rfl;omega
 clear HAf
 go_upto_region 7 with fail
 change Code.wp _ _ _ _ (w3.alloc (a8o more 0))
 have HL:=a0b (And.intro HD.out.pl HD.out.bl.size)
 have HX7:=a0b (HD.out.alloc (a8o more 0))
 have O1:Hid (Own X w3.heap.size p [] []):=⟨h10,HL.out.2,by have:=HL.out.1;omega,fun q hq=>(by cases hq),fun q hq=>(by cases hq)⟩
 clear HD HL
 generalize w3.alloc (a8o more 0)=V at HX7 ⊢
 generalize w3.heap.size=F at *
 go_upto_region 8 with (first
  |(go_at_call 25;refine (CX.next HX7.out O1.out (Nat.zero_le _) hm 3 (by omega) (by omega)).mono ?_;rintro e w8 ⟨v7,fb,rfl,p0,p1,hfb,hc⟩;have HX8:=a0b hc;clear hc;have kl:IntKind.i64.wrap (1+v7)=1+v7:=a0G (by omega) (by omega)))
 have un1:1<=1+v7:=by omega
 have un2:1+v7<=3:=by omega
 generalize 1+v7=un at un1 un2 ⊢
 clear kl p0 p1
 clear HX7
 go_upto_region 9 with (first
  |(go_at_call 25;refine (CX.next HX8.out O1.out hfb hm 2 (by omega) (by omega)).mono ?_;rintro e w9 ⟨v8,fc,rfl,p0,p1,hfc,hc⟩;have HX9:=a0b hc;clear hc;have kl:IntKind.i64.wrap (1+v8)=1+v8:=a0G (by omega) (by omega)))
 have ev1:1<=1+v8:=by omega
 have ev2:1+v8<=2:=by omega
 generalize 1+v8=ev at ev1 ev2 ⊢
 clear kl p0 p1
 clear HX8 hfb
 go_upto_region 10 with (first
  |(go_at_call 25;refine (CX.next HX9.out O1.out hfc hm 6 (by omega) (by omega)).mono ?_;rintro e w10 ⟨v9,fd,rfl,p0,p1,hfd,hc⟩;have HX10:=a0b hc;clear hc;have kl:IntKind.i64.wrap (1+v9)=1+v9:=a0G (by omega) (by omega)))
 have ti1:1<=1+v9:=by omega
 have ti2:1+v9<=6:=by omega
 generalize 1+v9=ti at ti1 ti2 ⊢
 clear kl p0 p1
 clear HX9 hfc
 go_upto_region 11 with (first
  |(go_at_call 25;refine (CX.next HX10.out O1.out hfd hm 150 (by omega) (by omega)).mono ?_;rintro e w11 ⟨mn,fe,rfl,p0,p1,hfe,hc⟩;have HX11:=a0b hc;clear hc))
 have mn0:=p0
 have mn1:=p1
 clear p0 p1 HX10 hfd
 go_upto_region 12 with (first
  |(go_at_call 25;refine (CX.next HX11.out O1.out hfe hm 200 (by omega) (by omega)).mono ?_;rintro e w12 ⟨v11,ff,rfl,p0,p1,hff,hc⟩;have HX12:=a0b hc;clear hc;have kl:IntKind.i64.wrap (1+v11)=1+v11:=a0G (by omega) (by omega)))
 have lo1:1<=1+v11:=by omega
 have lo2:1+v11<=200:=by omega
 generalize 1+v11=lo at lo1 lo2 ⊢
 clear kl p0 p1
 clear HX11 hfe
 go_upto_if 65 with (first
  |(go_at_call 25;refine (CX.next HX12.out O1.out hff hm 4 (by omega) (by omega)).mono ?_;rintro e w13 ⟨v12,fg,rfl,p0,p1,hfg,hc⟩;have HX13:=a0b hc;clear hc HX12 hff))
 go_cut [18] from 63 to 68 (fun v18 wx=>∃ (lo':Int) (fz:Nat),v18=.int .i64 lo'/\1<=lo'/\lo'<=3440/\fz<=more.size/\CX X wx p dk s [(F,a8o more fz)] [])
 case first =>
  by_cases hv:v12=1
  ·subst hv
   go_wp2_with (first
    |(go_at_call 25;refine (CX.nextW HX13.out O1.out hfg hm 2000 (by omega) (by omega)).mono ?_;rintro e w14 ⟨v13,fh,rfl,q0,q1,hfh,hc⟩;have HX14:=a0b hc;clear hc;have kl:IntKind.i64.wrap (1440+v13)=1440+v13:=a0G (by omega) (by omega)))
   go_meet
   exact⟨_,_,rfl,by omega,by omega,hfh,HX14.out⟩
  ·have hv':(v12==1)=false:=by simpa using hv
   go_wp2_with fail
   go_meet
   exact⟨lo,fg,rfl,lo1,by omega,hfg,HX13.out⟩
 case rest =>
  obtain⟨lo',fz,rfl,l1,l2,_,hcx⟩:=hcut
  have HC:=a0b (hcx.less (ks':=[]) (es':=[]) (by simp) (by simp))
  clear hcx HX13 hfg p0 p1 lo1 lo2 O1
  generalize lo'=lw at l1 l2 ⊢
  obtain⟨ra,rb⟩:=RO.out _ HC.out.bl
  go_upto_if 72 with fail
  go_cut [14] from 69 to 74 (fun v14 wx=>∃ u:Int,v14=.int .i64 u/\1<=u/\u<=3/\u<=A/\CX X wx p dk s [] [])
  case first =>
   by_cases hA:A<un
   ·go_wp2_with fail
    go_meet
    exact⟨A,rfl,A1,by omega,by omega,HC.out⟩
   ·have hA':decide (A<un)=false:=by simpa using hA
    go_wp2_with fail
    go_meet
    exact⟨un,rfl,un1,un2,by omega,HC.out⟩
  case rest =>
   obtain⟨u,rfl,u1,u3,uA,hcx⟩:=hcut
   replace HC:=a0b hcx
   clear hcx ra rb un1 un2
   have kq:mn.tdiv 60=mn / 60:=Int.tdiv_eq_ediv_of_nonneg mn0
   have kr:mn.tmod 60=mn % 60:=Int.tmod_eq_emod_of_nonneg mn0
   have kq2:IntKind.i64.wrap (mn / 60)=mn / 60:=a0G (by omega) (by omega)
   have kr2:IntKind.i64.wrap (mn % 60)=mn % 60:=a0G (by omega) (by omega)
   have z1:=Txt.a0I u (by omega) (by omega)
   have z2:=Txt.a0I ev (by omega) (by omega)
   have z3:=Txt.a0I lw (by omega) (by omega)
   have z4:=Txt.a0I ti (by omega) (by omega)
   have z5:(e5E (mn / 60)).size<=8:=e3O (by omega) (by omega)
   have z6:(e5E (mn % 60)).size<=8:=e3O (by omega) (by omega)
   go_upto_region 17 with (first
    |(go_at_call 21;refine (a6O _ _ HC.out.env (by omega) (by omega)).mono ?_;rintro e wn ⟨rfl,hb⟩;replace HC:=a0b (HC.out.later hb);clear hb)
    |(go_at_call 32;refine (f2w _ _ HC.out.env (by omega) (by omega)).mono ?_;rintro e wn ⟨rfl,hb⟩;replace HC:=a0b (HC.out.later hb);clear hb))
   have ua:a0h (⟨#[97]⟩:ByteArray) s.ts=A:=(UA.out 0).1.trans (b9b A B)
   have FR:Hid (Reads ((⟨#[115,101,114,105,101,115,32]⟩:ByteArray)++((⟨#[97,32]⟩:ByteArray)++Txt.a0x u++(⟨#[32,100,97,105,108,121,32]⟩:ByteArray)++Txt.a0x ev++(⟨#[32,102,114,111,109,32,50,48,50,52,45,48,49,45,48,49,32,97,116,32]⟩:ByteArray)++e5E (mn / 60)++(⟨#[58]⟩:ByteArray)++e5E (mn % 60)++(⟨#[32,102,111,114,32]⟩:ByteArray)++Txt.a0x lw++(⟨#[32,116,105,109,101,115,32]⟩:ByteArray)++Txt.a0x ti)) (.iface 159 (.agg #[.string ⟨#[97]⟩,.int .i64 u,.int .i64 1,.int .i64 ev,.bool (isd [] 0),.bool (isd [] 1),.bool (isd [] 2),.bool (isd [] 3),.bool (isd [] 4),.bool (isd [] 5),.bool (isd [] 6),.int .i64 0,.int .i64 mn,.int .i64 lw,.int .i64 ti,.int .i64 0]))):=e7E c7k ⟨u1,by omega⟩ ⟨ev1,by omega⟩ ⟨mn0,mn1⟩ ⟨l1,by omega⟩ ⟨ti1,by omega⟩ (by
    unfold e6c
    simp only[Txt.a1X,List.append_assoc]
    rfl)
   have HN:=a0b (And.intro HC.out.pl HC.out.bl.size)
   go_upto_region 18 with (first
    |(go_at_call 19;refine (CX.entriesB HC.out (⟨#[97]⟩:ByteArray) c7k (by rw[ua];omega)).mono ?_;rintro e w20 ⟨l,la,lc,rfl,hents,hc,hbv⟩;have HE:=a0b hents;have HV:=a0b hbv;replace HC:=a0b hc;clear hc hents hbv))
   obtain⟨i0,hi0,hz0,hz1,hz2⟩:=info_parts b6Q
   have HLl:=a0b (Rd.d9v ev mn lw ti)
   have LG:Hid (∀ (k:Nat) (h:k<(Rd.d8c ev mn lw ti).length),(Rd.d8c ev mn lw ti)[k]=(1440*(k:Int)*ev+mn,1440*(k:Int)*ev+mn+lw)):=fun k h=>Rd.e4d k h
   have LB:Hid (∀ (k:Nat),k<(Rd.d8c ev mn lw ti).length->0<=(k:Int)*ev/\(k:Int)*ev<=10/\k<=5):=fun k h=>Rd.e7G ev1 ev2 ti2 k h
   have FS:=a0b (Desk.e3d HC.out.inv (⟨#[97]⟩:ByteArray) (u:=u) (L:=Rd.d8c ev mn lw ti) (e:=⟨0,0,ByteArray.empty,u,Rd.d8c ev mn lw ti,0⟩) (by omega) rfl rfl (e4c ev1 ev2 mn0 mn1 l1 l2 ti2))
   have SS:=a0b (f0s HC.out.inv (nm:=(⟨#[97]⟩:ByteArray)) (u:=u) (n:=ev) (mn:=mn) (mi:=lw) (t:=ti) u1 (by omega) (by rw[ua];exact uA) ev1 ev2 mn0 mn1 l1 l2 ti1 ti2 (by omega))
   have LO:Hid (Desk.a1O (.series (⟨#[97]⟩:ByteArray) u (Rd.d5V ev mn lw ti))):=⟨u1,by omega,Rd.d9t ev1 ev2 mn0 mn1 l1 l2 ti1 ti2⟩
   have LVS:Hid (LV (.iface 159 (.agg #[.string ⟨#[97]⟩,.int .i64 u,.int .i64 1,.int .i64 ev,.bool (isd [] 0),.bool (isd [] 1),.bool (isd [] 2),.bool (isd [] 3),.bool (isd [] 4),.bool (isd [] 5),.bool (isd [] 6),.int .i64 0,.int .i64 mn,.int .i64 lw,.int .i64 ti,.int .i64 0])) (.series (⟨#[97]⟩:ByteArray) u (Rd.d5V ev mn lw ti))):=.series _ (by decide) u (Rd.d5V ev mn lw ti)
   generalize Rd.d8c ev mn lw ti=L at HLl LG LB FS SS
   have H0:=a0b HC.out
   go_wp2_with fail
   go_loopw [23,24,25] (fun vs vi _ wr=>∃ k:Nat,k<=L.length/\vi=.int .i64 k/\wr.ownsRow w20.heap.size 60 2 vs k ((L.take k).flatMap spV)/\Below w20.heap.size w20 wr) (fun _ vi _ _=>L.length-(intOf vi).toNat)
   case atStart=>exact⟨0,Nat.zero_le _,rfl,by simpa using World.ownsRow_nil _ _ _ _,Below.refl _ _⟩
   case round =>
    obtain⟨k,hk,rfl,hown,hbl⟩:=hrel
    by_cases hlt:k<L.length
    ·have hlt':(k:Int)<ti:=by have:=HLl.out;omega
     obtain⟨b0,b1,b2⟩:=LB.out k hlt
     have em:1440*(k:Int)*ev=1440*((k:Int)*ev):=Int.mul_assoc ..
     have m1:IntKind.i64.wrap (1440*(k:Int))=1440*(k:Int):=a0G (by omega) (by omega)
     have m2:IntKind.i64.wrap (1440*(k:Int)*ev)=1440*(k:Int)*ev:=a0G (by omega) (by omega)
     have m3:IntKind.i64.wrap (1440*(k:Int)*ev+mn)=1440*(k:Int)*ev+mn:=a0G (by omega) (by omega)
     have m4:IntKind.i64.wrap (1440*(k:Int)*ev+mn+lw)=1440*(k:Int)*ev+mn+lw:=a0G (by omega) (by omega)
     have hsz:w20.heap.size<=wr.heap.size:=hbl.size
     have RW:=a0b hown
     have HB:=a0b hbl
     have k5:k<=5:=b2
     clear em b0 b1 b2 hown hbl
     go_wp2_with (first
      |(at_builtin;refine wpList_append_lies _ rfl _ _ 56 rfl w20.heap.size 60 i0 _ 2 16 Tryz.underlying56 hi0 hz0 hz1 hz2 rfl (by decide) _ _ _ rfl (RW.out.alloc _) ⟨wr.heap.size,0,none⟩ 1 1 (spV (1440*(k:Int)*ev+mn,1440*(k:Int)*ev+mn+lw)) rfl rfl (World.news_of_block (cs:=(spV (1440*(k:Int)*ev+mn,1440*(k:Int)*ev+mn+lw)).toArray) (a0p wr _)) (by simp[spV,Value.oneCell']) (by omega) (by unfold maxLen;omega) (by omega) (by simp;omega) (wr.heap.size+1) (by simp) ?_;intro g2 cap2 w3 hown hgrow hat hlt2))
     have ko:Off u23.ownBlock.toList wr w3:=Off.grown ((Off.refl _ wr).alloc _) hgrow (fun k hk=>.inl (Option.mem_toList.2 hk))
     have HNx:Hid (w3.ownsRow w20.heap.size 60 2 (.slice (some ⟨g2,0,none⟩) (k+1) cap2) (k+1) ((L.take (k+1)).flatMap spV)/\Below w20.heap.size w20 w3):=by
      have h2:=HB.out
      refine⟨?_,⟨ko.os.trans h2.os,ko.tape.trans h2.tape,ko.output.trans h2.output,Nat.le_trans h2.size ko.size,fun b hb=>(ko.block b (Nat.lt_of_lt_of_le hb h2.size) (fun hx=>by have:=(RW.out.lt b (Option.mem_toList.1 hx)).1;omega)).trans (h2.block b hb)⟩⟩
      rw[List.take_succ_eq_append_getElem hlt,List.flatMap_append,LG.out k hlt]
      have:[(1440*(k:Int)*ev+mn,1440*(k:Int)*ev+mn+lw)].flatMap spV=spV (1440*(k:Int)*ev+mn,1440*(k:Int)*ev+mn+lw):=by simp
      rw[this];exact hown
     clear hown hgrow hat ko RW HB
     go_wp2_with fail
     go_roundw
     case rel=>exact⟨k+1,by omega,by go_num,HNx.out⟩
     case measure=>simp[intOf];omega
    ·have hke:k=L.length:=by omega
     subst hke
     have hlt':¬ ((L.length:Int)<ti):=by have:=HLl.out;omega
     have SO:Hid (wr.ownsRow w20.heap.size 60 2 u23 L.length (L.flatMap spV)):=by
      show wr.ownsRow _ _ _ _ _ _
      rw[List.take_length] at hown
      exact hown
     clear hown
     obtain⟨sa,sc,rfl⟩:=a0B SO.out
     obtain⟨j0,hj0,jz0,jz1,jz2⟩:=info_parts b6R
     have ER:=a0b ((H0.out.later hbl).row (List.mem_cons_self ..))
     have hl60:l.length<=60:=by
      have:=Desk.c2P H0.out.inv (⟨#[97]⟩:ByteArray)
      rw[<- HE.out,List.length_map] at this
      exact this
     have HB:=a0b hbl
     clear hbl i0 hi0 hz0 hz1 hz2 HC LG LB
     go_upto_region 26 with (first
      |(at_builtin;go_loud (refine d4q _ rfl _ _ 34 rfl 0 58 j0 _ 6 72 Tryz.underlying34 hj0 jz0 jz1 jz2 rfl (by decide) _ _ _ rfl (ER.out.alloc _) ⟨wr.heap.size,0,none⟩ 1 (a1f (⟨0,0,ByteArray.empty,u,L,0⟩,.slice sa L.length sc)) rfl rfl (World.news_of_block (cs:=(a1f (⟨0,0,ByteArray.empty,u,L,0⟩,.slice sa L.length sc)).toArray) (a0p wr _)) (by simp[a1f,Value.oneCell']) (by unfold maxLen;omega) (by omega) (Nat.zero_le _) ?_);intro g2 cap2 w30 hown hgrow hat))
     have ko:Off (Value.slice la l.length lc).ownBlock.toList wr w30:=Off.grown ((Off.refl _ wr).alloc _) hgrow (fun k hk=>.inl (Option.mem_toList.2 hk))
     have hat':(Value.slice la l.length lc).ownBlock=some g2\/(wr.heap.size<=g2/\Below wr.heap.size wr w30):=by
      rcases hat with e|⟨e,hg⟩
      ·exact .inl e
      ·exact .inr ⟨by rw[e];simp,(((Below.refl wr.heap.size wr).alloc (Nat.le_refl _) _).grown hg (by simp) (fun k e=>by cases e))⟩
     obtain⟨es0,hcx,hbe⟩:=CX.grown H0.out h10 HN.out.2 HN.out.1 HV.out (e:=⟨0,0,ByteArray.empty,u,L,0⟩) (sp:=.slice sa L.length sc) SO.out HB.out ko hown hat'
     have HC:=a0b hcx
     have HBE:=a0b hbe
     clear hcx hbe hown hgrow hat hat' ko ER HB SO j0 hj0 jz0 jz1 jz2
     obtain⟨ra,_⟩:=RO.out w30 HC.out.bl
     have FW:Few (l++[((⟨0,0,ByteArray.empty,u,L,0⟩:Ent),.slice sa L.length sc)]):=by
      have hf:=a6T H0.out.inv HE.out
      refine⟨by rw[List.length_append];simp;omega,fun q hq=>?_⟩
      rcases List.mem_append.1 hq with hq|hq
      ·exact hf.2 q hq
      ·rw[List.mem_singleton.1 hq]
       exact⟨by show 0<=u;omega,by show u<=1000;omega,by show L.length<=1000;have:=HLl.out;omega⟩
     have PK:=a0b (fun W' (k:Below w30.drew.heap.size w30.drew W')=>b3i W' (.slice (some ⟨g2,0,none⟩) (l.length+1) cap2) (l++[((⟨0,0,ByteArray.empty,u,L,0⟩:Ent),.slice sa L.length sc)]) ((HC.out.drew.later k).ev (List.mem_cons_self ..)) FW 0 1048320)
     have EP:Hid (b0g (a1m (l++[((⟨0,0,ByteArray.empty,u,L,0⟩:Ent),.slice sa L.length sc)])) 0 1048320=b0g (a2x (⟨#[97]⟩:ByteArray) 0 1048320 s.es++[⟨0,0,ByteArray.empty,u,L,0⟩]) 0 1048320):=by
      show _=_
      unfold a1m
      rw[List.map_append,HE.out]
      rfl
     rw[EP.out] at PK
     have HFS:a1e s.ts s.es (⟨#[97]⟩:ByteArray) u L=decide (b0g (a2x (⟨#[97]⟩:ByteArray) 0 1048320 s.es++[⟨0,0,ByteArray.empty,u,L,0⟩]) 0 1048320<=A):=by rw[<- ua];exact FS.out
     clear EP FS FW
     generalize b0g (a2x (⟨#[97]⟩:ByteArray) 0 1048320 s.es++[⟨0,0,ByteArray.empty,u,L,0⟩]) 0 1048320=pn at PK HFS
     have HXd:=a0b HC.out.drew
     have SSR:Hid (∀ W',Below w30.drew.heap.size w30.drew W'->W'.cell? ⟨Rb,0,none⟩=some (.int .i64 A)):=fun W' k=>(RO.out W' ((HXd.out.later k).bl)).1
     go_region_held3 (fun W'=>W'.cell? ⟨Rb,0,none⟩=some (.int .i64 A))
      (first
       |with_reducible exact SSR.out _ HB6.out
       |exact ra)
      (first
       |(go_at_call 22;refine (PK.out _ (Below.refl _ _)).mono ?_;rintro e w6 ⟨rfl,hb6⟩;have HB6:=a0b hb6;clear hb6))
     replace HC:=a0b (HXd.out.later HB6.out)
     clear HXd SSR HB6 PK ra
     have DN:Hid (∀ (W':World) (s':St),CX X W' p dk s' [] []->Below w.heap.size w W'):=fun W' _ k=>HX.out.trans (k.bl.mono HX.out.size)
     have HFH:=a0b HFS
     clear HFS
     cases hfit:a1e s.ts s.es (⟨#[97]⟩:ByteArray) u L
     ·have e1:decide (pn<=A)=false:=by rw[<- HFH.out];exact hfit
      have ST:=a0b (SS.out.2 hfit)
      clear hfit HFH SS
      rw[e1]
      clear e1
      go_upto_region 28 with (first
       |(go_at_call 20;refine (CX.line HC.out FR.out LVS.out LO.out ST.out).mono ?_;rintro e w16 ⟨l9,a1,a2,a3,a4,m2,d1,d2,d3,d4,rfl,_,hc16,_⟩;dsimp only[Desk.Rep.error,List.length_nil];replace HC:=a0b hc16;clear hc16))
      change Code.wp _ _ _ _ (w16.alloc (a5w 8 0 0 (.slice a1 l9.length d1) (.slice a2 m2 d2) (.slice a3 0 d3) (.slice a4 0 d4)))
      replace HC:=a0b (HC.out.alloc (a5w 8 0 0 (.slice a1 l9.length d1) (.slice a2 m2 d2) (.slice a3 0 d3) (.slice a4 0 d4)))
      clear ST FR LO LVS
      generalize w16.alloc (a5w 8 0 0 (.slice a1 l9.length d1) (.slice a2 m2 d2) (.slice a3 0 d3) (.slice a4 0 d4))=V17 at HC ⊢
      generalize w16.heap.size=yb at HC ⊢
      go_upto_region 29 with (first
       |(go_at_call 19;refine (CX.entries HC.out (⟨#[97]⟩:ByteArray) c7k (by rw[ua];omega)).mono ?_;rintro e w18 ⟨l2,lb,ld,rfl,hents,hc18⟩;have HE2:=a0b hents;replace HC:=a0b hc18;clear hc18 hents))
      have SE:=a0b (a8V l l2 _ _ w18 (HBE.out w18 s _ [_,_] HC.out) (HC.out.ev (List.mem_cons_self ..)) (HE.out.trans HE2.out.symm) (by omega) (fun q hq=>((a6T HC.out.inv HE.out).2 q hq).2.2))
      go_upto_region 33 with (first
       |(go_at_call 28;refine SE.out.mono ?_;rintro e w19 ⟨rfl,hb19⟩;replace HC:=a0b (HC.out.later hb19);clear hb19 SE))
      obtain⟨e0,_,e2,_⟩:=a2T (HC.out.kb (List.mem_cons_self ..))
      have HF:=a0b (DN.out _ _ (HC.out.less (by simp) (by simp)))
      clear HC DN
      go_wp2_with fail
      go_ret
      exact⟨rfl,HF.out⟩
     ·have e1:decide (pn<=A)=true:=by rw[<- HFH.out];exact hfit
      have ST:=a0b (SS.out.1 hfit)
      clear hfit HFH SS
      rw[e1]
      clear e1
      go_upto_region 28 with (first
       |(go_at_call 20;refine (CX.line HC.out FR.out LVS.out LO.out ST.out).mono ?_;rintro e w16 ⟨l9,a1,a2,a3,a4,m2,d1,d2,d3,d4,rfl,_,hc16,_⟩;dsimp only[Desk.a2t,Desk.Rep.num,List.length_nil];replace HC:=a0b hc16;clear hc16))
      change Code.wp _ _ _ _ (w16.alloc (a5w 0 0 (s.given+1) (.slice a1 l9.length d1) (.slice a2 m2 d2) (.slice a3 0 d3) (.slice a4 0 d4)))
      replace HC:=a0b (HC.out.alloc (a5w 0 0 (s.given+1) (.slice a1 l9.length d1) (.slice a2 m2 d2) (.slice a3 0 d3) (.slice a4 0 d4)))
      clear ST FR LO LVS
      generalize w16.alloc (a5w 0 0 (s.given+1) (.slice a1 l9.length d1) (.slice a2 m2 d2) (.slice a3 0 d3) (.slice a4 0 d4))=V17 at HC ⊢
      generalize w16.heap.size=yb at HC ⊢
      have UJ:Hid (a0h (⟨#[97]⟩:ByteArray) (Desk.a2t s ⟨0,1,(⟨#[97]⟩:ByteArray),u,L,0⟩).1.ts≠0):=by
       show a0h (⟨#[97]⟩:ByteArray) s.ts≠0
       rw[ua];omega
      have HIS:=a0b H0.out.inv
      go_upto_region 29 with (first
       |(go_at_call 19;refine (CX.entries HC.out (⟨#[97]⟩:ByteArray) c7k UJ.out).mono ?_;rintro e w18 ⟨l2,lb,ld,rfl,hents,hc18⟩;have HE2:=a0b hents;replace HC:=a0b hc18;clear hc18 hents))
      have PM:=a0b (e3F HIS.out HC.out.inv HE.out HE2.out)
      have hlen:=PM.out.1
      have e1s:((l2.length:Int)==(l.length:Int)+1)=true:=by rw[beq_iff_eq];omega
      have kl:IntKind.i64.wrap ((l.length:Int)+1)=(l.length:Int)+1:=a0G (by omega) (by omega)
      obtain⟨e0,_,e2,_⟩:=a2T (HC.out.kb (List.mem_cons_self ..))
      have hl61:l2.length<=61:=by omega
      have HLn:=a0b hlen
      clear hlen UJ HE HE2 HIS
      generalize (Desk.a2t s ⟨0,1,(⟨#[97]⟩:ByteArray),u,L,0⟩).1=s1 at HC
      go_upto_region 36 with fail
      clear e0 e2
      go_wp2_with fail
      go_loopw [31,32] (fun vi _ wq=>∃ j:Nat,j<=l2.length/\vi=.int .i64 j/\(∀ (k:Nat) (h:k<l2.length),k<j->l2[k].1.id≠s.given+1)/\CX X wq p dk s1 [(yb,(a5w 0 0 (s.given+1) (.slice a1 l9.length d1) (.slice a2 m2 d2) (.slice a3 0 d3) (.slice a4 0 d4)))] ((.slice lb l2.length ld,l2) :: (.slice a1 l9.length d1,l9) :: (.slice (some ⟨g2,0,none⟩) (l.length+1) cap2,l++[((⟨0,0,ByteArray.empty,u,L,0⟩:Ent),.slice sa L.length sc)]) :: es0)) (fun vi _ _=>l2.length-(intOf vi).toNat)
      case atStart=>exact⟨0,Nat.zero_le _,rfl,fun k h h0=>absurd h0 (by omega),HC.out⟩
      case round =>
       obtain⟨j,hj,rfl,hno,hcx⟩:=hrel
       replace HC:=a0b hcx
       have HNO:=a0b hno
       clear hcx hno
       by_cases hjl:j<l2.length
       ·have hjl':(j:Int)<(l2.length:Int):=by omega
        have hev:=HC.out.ev (List.mem_cons_self ..)
        obtain⟨g,cap,e,x0,x1,x2,x3,x4,x5⟩:=hev.cell j hjl
        simp only[Value.slice.injEq,true_and] at e
        obtain⟨rfl,rfl⟩:=e
        have hsp:=hev.sp l2[j] (List.getElem_mem hjl)
        obtain⟨q1,q2,eq⟩:=hsp.form
        rw[eq] at x4
        have HSP:=a0b hsp
        have e2:=(a2T (HC.out.kb (List.mem_cons_self ..))).2.2.1
        clear hev hsp
        by_cases hid:l2[j].1.id=s.given+1
        ·have hx:=PM.out.2.2 j hjl hid
         have hsp:=HSP.out
         rw[eq,hx] at hsp
         rw[hx] at x0 x1 x3 x4
         have hse:=(HC.out.ev (List.mem_cons_of_mem _ (List.mem_cons_of_mem _ (List.mem_cons_self ..)))).sp _ (List.mem_append_right _ (List.mem_singleton.2 rfl))
         have SSP:=a0b (b1y L _ _ wr.drew (hsp.later (a0q wr)) (hse.later (a0q wr)) (by have:=HLl.out;omega))
         have X1:Hid (wr.drew.cell? ⟨g,j*6+1,none⟩=some (.int .i64 1)):=x1
         have X3:Hid (wr.drew.cell? ⟨g,j*6+3,none⟩=some (.int .i64 u)):=x3
         have e4s:(u==u)=true:=by simp
         have e7s:(s.given+1==s.given+1)=true:=by simp
         have HCd:=a0b HC.out.drew
         clear hid hx eq HSP hsp hse HNO PM x2 x5 x1 x3
         go_upto_region 39 with fail
         go_big_region
         go_upto_region 41 with (first
          |(go_at_call 35;refine SSP.out.mono ?_;rintro e w40 ⟨rfl,hb40⟩;have y1:=a0a hb40 X1.out;have y3:=a0a hb40 X3.out;replace HC:=a0b (HCd.out.later hb40);clear hb40 SSP X1 X3))
         have HF:=a0b (DN.out _ _ (HC.out.less (by simp) (by simp)))
         clear HC DN
         go_wp2_with fail
         go_ret
         exact⟨rfl,HF.out⟩
        ·have hidb:(l2[j].1.id==s.given+1)=false:=by simpa using hid
         have HN2:Hid (∀ (k:Nat) (h:k<l2.length),k<j+1->l2[k].1.id≠s.given+1):=fun k h hk=>by
          by_cases ek:k=j
          ·subst ek;exact hid
          ·exact HNO.out k h (by omega)
         have HF:=a0b HC.out.drew
         clear HC x1 x2 x3 x4 x5 hid HNO HSP eq
         generalize l2[j].1.id=idj at x0 hidb
         go_upto_region 39 with fail
         go_big_region
         go_wp2_with fail
         go_roundw
         case rel=>exact⟨j+1,by omega,by go_num,HN2.out,HF.out⟩
         case measure=>simp[intOf];omega
       ·exfalso
        obtain⟨k,h,e⟩:=PM.out.2.1
        exact HNO.out k h (by omega) e
end Go.Proofs.YtjfkfiffakbagaaGreatDoor
namespace Go.Proofs.YtjfkfiffakbagaaGreatDoor.Laid
def val:DataW Unit->Value
 |.lit (.int k n)=>.int k n
 |.lit (.string b)=>.string ⟨b.toArray⟩
 |_=>.bool false
def row:DataW Unit->List Value
 |.agg l=>l.map val
 |_=>[]
def rows:DataW Unit->List Value
 |.agg l=>l.flatMap row
 |_=>[]
def text:DataW Unit->Value
 |.iface _ (.ptr (.agg [d]))=>val d
 |_=>.bool false
def put(l:List Value):Obj->Obj
 |.cells _ t frozen=>.cells l.toArray t frozen
 |o=>o
def c6N(w:World):World :=
 { w with heap:=(((((((((w.heap.modify 0 (put (row Rows.laid_bookings_calendar_monthDays))).modify 1 (put (row Rows.laid_internal_strconv_uint64pow10))).modify 5 (put [.iface 365 (.pointer (some ⟨w.heap.size,0,none⟩))])).modify 6 (put [.iface 365 (.pointer (some ⟨w.heap.size+1,0,none⟩))])).modify 2 (put (row Rows.laid_bookings_lines_weekdays))).modify 3 (put (row Rows.laid_math_bits_deBruijn32tab))).modify 4 (put (row Rows.laid_math_bits_deBruijn64tab))).modify 8 (put (row Rows.laid_unicode_utf8_first))).modify 9 (put (rows Rows.laid_unicode_utf8_acceptRanges))).push (.cells #[text Rows.laid_strconv_ErrSyntax] 367) |>.push (.cells #[text Rows.laid_strconv_ErrRange] 367) }
theorem met(os:Os):laidMet Tryz.prog Rows.datesRow.laid ((c6N (World.holding Tryz.prog os ⟨#[],#[],[]⟩)).forCall (fun _ _=>0) ⟨#[],#[.slice none 0 0],[]⟩).memory :=
 laidMet_of_run' 8 (by kernel_rfl) (by kernel_rfl)
end Go.Proofs.YtjfkfiffakbagaaGreatDoor.Laid
namespace Go.Proofs.YtjfkfiffakbagaaGreatDoor.datesLaw
open Go.ChangeShapes Go.WideShapes Go.ChangeAt Go.RowKit
theorem own:ownKnob Tryz.prog.godebug=none:=by kernel_rfl
theorem c5b:laidOutB Tryz.prog=true:=by kernel_rfl
def b9r:String:=Rows.datesRow.named.getD 0 Rows.datesRow.func
theorem b8y:Tryz.prog.globalNamed b9r=some 0:=by kernel_rfl
theorem c3e:(Tryz.prog.globals[0]?).map (·.type)=some 199:=by kernel_rfl
theorem c3A:Tryz.prog.cellsOf 199=12:=by kernel_rfl
theorem c3D:Tryz.prog.cellsOf 3=1:=by kernel_rfl
theorem b7n:Tryz.prog.cellsOf 9=1:=by kernel_rfl
theorem table{W:World}(h:laidMetH Tryz.prog Rows.datesRow.laid W):Lib.TabIs Tryz.prog W b9r .i64 [31,28,31,30,31,30,31,31,30,31,30,31] :=
 Lib.tabIs_of_head b8y c3e Tryz.underlying199 Tryz.underlying3 c3D c3A h
theorem tab{W:World}(h:laidMetH Tryz.prog Rows.datesRow.laid W):Tab W :=
 ⟨(table h).cell b8y 0 (by decide),(table h).cell b8y 1 (by decide),(table h).cell b8y 2 (by decide),(table h).cell b8y 3 (by decide),(table h).cell b8y 4 (by decide),(table h).cell b8y 5 (by decide),(table h).cell b8y 6 (by decide),(table h).cell b8y 7 (by decide),(table h).cell b8y 8 (by decide),(table h).cell b8y 9 (by decide),(table h).cell b8y 10 (by decide),(table h).cell b8y 11 (by decide)⟩
end Go.Proofs.YtjfkfiffakbagaaGreatDoor.datesLaw
