/-
  Parts of the proof, one behind the other.
-/
import Derived.Test.YtjfkfiffakbagaaGreatDoorL19
import Derived.Test.YtjfkfiffakbagaaGreatDoorRows
import Derived.Test.YtjfkfiffakbagaaGreatDoorCards
import Derived.Test.YtjfkfiffakbagaaGreatDoorTie
import Derived.BigQuiet
import Derived.WalkKit
import Derived.ProofKit
import Derived.Deep.DeepWitnessRowRef
import Derived.LaidLaws
import Derived.OpenShut
import Derived.Deep.Slices
import Derived.Deep.DeepHandedRow
import Derived.Lib.LaidTab
set_option maxRecDepth 100000
set_option maxHeartbeats 8000000
namespace Go.Proofs.YtjfkfiffakbagaaGreatDoor
open Go.RowKit
open Desk (Ent St Ids kept a0C a0Q a1C a2e ofB a0y a2c Mid a1H a0z Inv a0h a2x a1q Rep b0g a1Q)
structure KB(W:World)(col:Nat->Option Col)(b:Nat)(o:Obj):Prop where
 h:W.heap[b]?=some o
 c:col b=none
theorem KB.later{W W':World}{col:Nat->Option Col}{b:Nat}{o:Obj}(h:KB W col b o)(k:Below W.heap.size W W'):KB W' col b o:=⟨(k.block b (Array.getElem?_eq_some_iff.1 h.h).1).trans h.h,h.c⟩
theorem KB.step{W W':World}{col col':Nat->Option Col}{b:Nat}{o:Obj}(h:KB W col b o)(st:Step anyS W.heap.size col col' W W'):KB W' col' b o:=by
 obtain⟨x,y⟩:=st.still h.h h.c
 exact⟨x,y⟩
def CX(X W:World)(p dk:Nat)(s:St)(ks:List (Nat × Obj))(es:List (Value × List (Ent × Value))):Prop :=
 ∃ (r:Raw) (col:Nat->Option Col),DG X W p dk s r col/\(∀ q∈ks,KB W col q.1 q.2)/\∀ q∈es,a3j W 0 col q.1 q.2
theorem CX.of{X W:World}{p dk:Nat}{s:St}{r:Raw}{col:Nat->Option Col}(h:DG X W p dk s r col):CX X W p dk s [] []:=⟨r,col,h,by simp,by simp⟩
theorem CX.later{X W W':World}{p dk:Nat}{s:St}{ks:List (Nat × Obj)}{es:List (Value × List (Ent × Value))}(h:CX X W p dk s ks es)(k:Below W.heap.size W W'):CX X W' p dk s ks es:=by
 obtain⟨r,col,d,b,e⟩:=h
 exact⟨r,col,d.later k,fun q hq=>(b q hq).later k,fun q hq=>(e q hq).step (S:=anyS) (B:=W.heap.size) (Step.below k) (Nat.le_refl _)⟩
theorem CX.drew{X W:World}{p dk:Nat}{s:St}{ks:List (Nat × Obj)}{es:List (Value × List (Ent × Value))}(h:CX X W p dk s ks es):CX X W.drew p dk s ks es:=h.later (a0q W)
theorem CX.alloc{X W:World}{p dk:Nat}{s:St}{ks:List (Nat × Obj)}{es:List (Value × List (Ent × Value))}(h:CX X W p dk s ks es)(o:Obj):CX X (W.alloc o) p dk s ((W.heap.size,o) :: ks) es:=by
 obtain⟨r,col,d,b,e⟩:=h
 have k:Below W.heap.size W (W.alloc o):=(Below.refl _ _).alloc (Nat.le_refl _) _
 refine⟨r,col,d.later k,fun q hq=>?_,fun q hq=>(e q hq).step (S:=anyS) (B:=W.heap.size) (Step.below k) (Nat.le_refl _)⟩
 rcases List.mem_cons.1 hq with rfl|hq
 ·exact⟨a0p W o,d.none (Nat.le_refl _)⟩
 ·exact (b q hq).later k
theorem CX.env{X W:World}{p dk:Nat}{s:St}{ks:List (Nat × Obj)}{es:List (Value × List (Ent × Value))}(h:CX X W p dk s ks es):Env W:=by
 obtain⟨r,col,d,_⟩:=h
 exact d.bd.env
theorem CX.inv{X W:World}{p dk:Nat}{s:St}{ks:List (Nat × Obj)}{es:List (Value × List (Ent × Value))}(h:CX X W p dk s ks es):Inv s:=by
 obtain⟨r,col,d,_⟩:=h
 exact d.inv
theorem CX.bl{X W:World}{p dk:Nat}{s:St}{ks:List (Nat × Obj)}{es:List (Value × List (Ent × Value))}(h:CX X W p dk s ks es):Below X.heap.size X W:=by
 obtain⟨r,col,d,_⟩:=h
 exact d.bl
theorem CX.kb{X W:World}{p dk:Nat}{s:St}{ks:List (Nat × Obj)}{es:List (Value × List (Ent × Value))}(h:CX X W p dk s ks es){b:Nat}{o:Obj}(hq:(b,o)∈ks):W.heap[b]?=some o:=by
 obtain⟨r,col,_,k,_⟩:=h
 exact (k _ hq).h
theorem CX.ev{X W:World}{p dk:Nat}{s:St}{ks:List (Nat × Obj)}{es:List (Value × List (Ent × Value))}(h:CX X W p dk s ks es){v:Value}{l:List (Ent × Value)}(hq:(v,l)∈es):EV W v l:=by
 obtain⟨r,col,_,_,e⟩:=h
 exact (e _ hq).ev
theorem CX.less{X W:World}{p dk:Nat}{s:St}{ks ks':List (Nat × Obj)}{es es':List (Value × List (Ent × Value))}(h:CX X W p dk s ks es)(hk:∀ q∈ks',q∈ks)(he:∀ q∈es',q∈es):CX X W p dk s ks' es':=by
 obtain⟨r,col,d,b,e⟩:=h
 exact⟨r,col,d,fun q hq=>b q (hk q hq),fun q hq=>e q (he q hq)⟩
theorem CX.step{X W W':World}{p dk:Nat}{s':St}{ks:List (Nat × Obj)}{es:List (Value × List (Ent × Value))}{r':Raw}{col col':Nat->Option Col}(b:∀ q∈ks,KB W col q.1 q.2)(e:∀ q∈es,a3j W 0 col q.1 q.2)(d:DG X W' p dk s' r' col')(st:Step anyS W.heap.size col col' W W'):CX X W' p dk s' ks es :=
 ⟨r',col',d,fun q hq=>(b q hq).step st,fun q hq=>(e q hq).step st (Nat.le_refl _)⟩
theorem a3j.low{w:World}{B:Nat}{col:Nat->Option Col}{v:Value}{l:List (Ent × Value)}(h:a3j w B col v l):a3j w 0 col v l :=
 ⟨a9c h.own (Nat.zero_le _),h.no,fun p hp=>⟨⟨a9c (h.sp p hp).1.own (Nat.zero_le _),(h.sp p hp).1.no⟩,(h.sp p hp).2⟩⟩
def CDo(X W:World)(p dk:Nat)(ks:List (Nat × Obj))(es:List (Value × List (Ent × Value)))(q:St × Rep)(e:Ending)(W':World):Prop :=
 ∃ (l:List (Ent × Value)) (a1 a2 a3 a4:Option Addr) (n2 c1 c2 c3 c4:Nat),e=.returned (.agg #[.int .i64 q.2.err,.int .i64 q.2.at_,.int .i64 q.2.n,.slice a1 l.length c1,.slice a2 n2 c2,.slice a3 q.2.granted.length c3,.slice a4 q.2.ended.length c4]) /\
  l.map (·.1)=q.2.entries/\CX X W' p dk q.1 ks ((.slice a1 l.length c1,l) :: es)/\W.heap.size<=W'.heap.size
theorem c6J{X W:World}{p dk:Nat}{ks:List (Nat × Obj)}{es:List (Value × List (Ent × Value))}{col:Nat->Option Col}(b:∀ q∈ks,KB W col q.1 q.2)(e:∀ q∈es,a3j W 0 col q.1 q.2){q:St × Rep}{en:Ending}{W':World}(h:b4e X W p dk col q en W'):CDo X W p dk ks es q en W':=by
 obtain⟨l,a1,a2,a3,a4,n2,c1,c2,c3,c4,r',col',rfl,P⟩:=h
 refine⟨l,a1,a2,a3,a4,n2,c1,c2,c3,c4,rfl,P.c7n,⟨r',col',P.dg,fun q hq=>(b q hq).step P.st,fun q hq=>?_⟩,P.st.size⟩
 rcases List.mem_cons.1 hq with rfl|hq
 ·exact P.row.low
 ·exact (e q hq).step P.st (Nat.le_refl _)
theorem CX.line{X W:World}{p dk:Nat}{s:St}{ks:List (Nat × Obj)}{es:List (Value × List (Ent × Value))}(h:CX X W p dk s ks es){t:ByteArray}{v:Value}{l:Desk.a7U}(hr:Reads t v)(hv:LV v l)(hl:Desk.a1O l){q:St × Rep}(hq:a1q s l=q):
  Calls Tryz.prog 20 #[.pointer (some ⟨p,0,none⟩),.string t] W fun e W'=>CDo X W p dk ks es q e W':=by
 obtain⟨r,col,d,b,e⟩:=h
 exact (b2g d hr hv hl hq).mono fun _ _ k=>c6J b e k
theorem CX.entries{X W:World}{p dk:Nat}{s:St}{ks:List (Nat × Obj)}{es:List (Value × List (Ent × Value))}(h:CX X W p dk s ks es)(nm:ByteArray)(hn:Nm nm)(hu:a0h nm s.ts≠0):
  Calls Tryz.prog 19 #[.pointer (some ⟨p,0,none⟩),.string nm] W fun e W'=>∃ (l:List (Ent × Value)) (a:Option Addr) (c:Nat),e=.returned (.tuple #[.slice a l.length c,.bool true])/\l.map (·.1)=a2x nm 0 1048320 s.es/\CX X W' p dk s ks ((.slice a l.length c,l) :: es):=by
 obtain⟨r,col,d,b,e⟩:=h
 refine (b5i d nm hn hu).mono ?_
 rintro en W' ⟨l,a,c,r',col',rfl,he,row,dg,st⟩
 refine⟨l,a,c,rfl,he,r',col',dg,fun q hq=>(b q hq).step st,fun q hq=>?_⟩
 rcases List.mem_cons.1 hq with rfl|hq
 ·exact row.low
 ·exact (e q hq).step st (Nat.le_refl _)
theorem CX.played{X W:World}{p dk:Nat}{s:St}{ks:List (Nat × Obj)}{es:List (Value × List (Ent × Value))}(h:CX X W p dk s ks es){v:Value}{ss:List ByteArray}(hv:TV X v ss):
  Calls Tryz.prog 18 #[.pointer (some ⟨p,0,none⟩),v] W fun e W'=>∃ s':St,e=.returned (.bool true)/\b2q s s' 30/\CX X W' p dk s' ks es:=by
 obtain⟨r,col,d,b,e⟩:=h
 refine (b7X d hv).mono ?_
 rintro en W' ⟨s',r',col',rfl,ha,dg,st⟩
 exact⟨s',rfl,ha,CX.step b e dg st⟩
def b5K(N:Nat)(es:List (Value × List (Ent × Value))):Prop:=∀ q∈es,(∀ c,q.1.ownBlock=some c->c<N)/\∀ x∈q.2,∀ c,x.2.ownBlock=some c->c<N
theorem CX.rows{X W:World}{p dk:Nat}{s:St}{ks:List (Nat × Obj)}{es:List (Value × List (Ent × Value))}(h:CX X W p dk s ks es):b5K W.heap.size es:=by
 obtain⟨r,col,_,_,e⟩:=h
 exact fun q hq=>⟨fun c hc=>((e q hq).own.lt c hc).2,fun x hx c hc=>(((e q hq).sp x hx).1.own.lt c hc).2⟩
theorem a3j.offK{w w':World}{B:Nat}{col:Nat->Option Col}{v:Value}{l:List (Ent × Value)}(h:a3j w B col v l){b:Nat}(k:Off [b] w w')(h1:∀ c,v.ownBlock=some c->c≠b)(h2:∀ x∈l,∀ c,x.2.ownBlock=some c->c≠b):a3j w' B col v l :=
 ⟨a1i h.own k (fun c hc=>by simp;exact h1 c hc),h.no,fun x hx=>⟨⟨a1i (h.sp x hx).1.own k (fun c hc=>by simp;exact h2 x hx c hc),(h.sp x hx).1.no⟩,(h.sp x hx).2⟩⟩
theorem CX.put{X W W':World}{p dk:Nat}{s:St}{ks:List (Nat × Obj)}{es:List (Value × List (Ent × Value))}{b N:Nat}{o o':Obj}(h:CX X W p dk s ((b,o) :: ks) es)(h10:10<=X.heap.size)(hX:X.heap.size<=b)(hp:p≠b)(hn:∀ q∈ks,q.1≠b)(hr:b5K N es)(hN:N<=b)(k:Off [b] W W')(hb:W'.heap[b]?=some o'):CX X W' p dk s ((b,o') :: ks) es:=by
 obtain⟨r,col,d,kk,ee⟩:=h
 have hc:=(kk (b,o) (List.mem_cons_self ..)).c
 refine⟨r,col,?_,fun q hq=>?_,fun q hq=>(ee q hq).offK k (fun c hc=>by have:=(hr q hq).1 c hc;omega) (fun x hx c hc=>by have:=(hr q hq).2 x hx c hc;omega)⟩
 ·have kb:∀ N,N<=X.heap.size->Below N W W':=fun N hN=>⟨k.os,k.tape,k.output,k.size,fun x hx=>k.block x (Nat.lt_of_lt_of_le hx (Nat.le_trans hN d.bl.size)) (by simp;omega)⟩
  exact⟨⟨(k.block p (Array.getElem?_eq_some_iff.1 d.bd.pc).1 (by simp;exact hp)).trans d.bd.pc,d.bd.pn,⟨d.bd.ds.dk.off k (fun x hx=>by have:x=b:=List.mem_singleton.1 hx;subst this;exact hc),d.bd.ds.of,d.bd.ds.wl,d.bd.ds.hl,d.bd.ds.inv⟩,d.bd.env.ten (kb 10 h10),d.bd.gl⟩,d.bl.trans (kb _ (Nat.le_refl _)),d.lo⟩
 ·rcases List.mem_cons.1 hq with rfl|hq
  ·exact⟨hb,hc⟩
  ·have h2:=kk q (List.mem_cons_of_mem _ hq)
   exact⟨(k.block q.1 (Array.getElem?_eq_some_iff.1 h2.h).1 (by simp;exact hn q hq)).trans h2.h,h2.c⟩
theorem CX.pl{X W:World}{p dk:Nat}{s:St}{ks:List (Nat × Obj)}{es:List (Value × List (Ent × Value))}(h:CX X W p dk s ks es):p<W.heap.size:=by
 obtain⟨r,col,d,_⟩:=h
 exact (Array.getElem?_eq_some_iff.1 d.bd.pc).1
def a1B:Obj:=.cells #[.string ⟨#[97]⟩,.string ⟨#[98]⟩] 9 (0,0)
def a1A(i:Nat):ByteArray:=if i=0 then ⟨#[97]⟩ else ⟨#[98]⟩
theorem a7y(i:Nat):a1A i=⟨#[97]⟩\/a1A i=⟨#[98]⟩:=by unfold a1A;split <;> simp
theorem a3x(i:Nat):Nm (a1A i):=by
 rcases a7y i with e|e <;> rw[e]
 ·exact c7k
 ·exact c7j
theorem a6P{W:World}{b:Nat}(hb:W.heap[b]?=some a1B)(i:Nat)(hi:i<2):W.cell? ⟨b,i,none⟩=some (.string (a1A i)):=by
 unfold a1B at hb
 match i,hi with
 |0,_=>simp only[World.cell?,hb];rfl
 |1,_=>simp only[World.cell?,hb];rfl
 |n+2,hi=>omega
theorem b2x{a b:Int}(ha:1<=a)(hb:1<=b)(i:Nat):a0h (a1A i) (a3Z a b).ts≠0:=by
 rcases a7y i with e|e <;> rw[e]
 ·have:=b9b a b;unfold nmA at this;rw[this];omega
 ·have:=b9a a b;unfold nmC at this;rw[this];omega
theorem c5r(args:Array Value)(w:World):(callFunc 21 args).run Tryz.prog w=.ok (.enter 21 args) w:=enters_of Tryz.func21 (by kernel_rfl) rfl args w
theorem c6D(args:Array Value)(w:World):(callFunc 20 args).run Tryz.prog w=.ok (.enter 20 args) w:=enters_of Tryz.func20 (by kernel_rfl) rfl args w
theorem c4E{W:World}{Q:Nat}(h:W.heap[Q]?=some a0f)(e a n:Int)(v1 v2 v3 v4:Value):(a2w W Q (.int .i64 e) (.int .i64 a) (.int .i64 n) v1 v2 v3 v4).heap[Q]?=some (a5w e a n v1 v2 v3 v4):=by
 unfold a2w
 exact a2A (a2A (a2A (a2A (a2A (a2A (a2A h _) _) _) _) _) _) _
theorem c0l{b:Bool} {α:Prop}(h:b=false)(e:b=true):α:=by subst h;cases e
section
variable {X W:World}{p dk:Nat}{s:St}{es:List (Value × List (Ent × Value))}{Nb Y0:Nat}{L:Nat->Bool}{u17:Value}
theorem c7e(h:(L 10=false->CX X W p dk s [(Nb,a1B)] es)/\(L 10=true->∃ b,u17=.pointer (some ⟨b,0,none⟩)/\Y0<=b/\CX X W p dk s [(b,a0f),(Nb,a1B)] es)):W.heap[Nb]?=some a1B:=by
 cases e:L 10
 ·exact (h.1 e).kb (List.mem_cons_self ..)
 ·obtain⟨b,_,_,c⟩:=h.2 e
  exact c.kb (List.mem_cons_of_mem _ (List.mem_cons_self ..))
theorem c6Z(h:(L 10=false->CX X W p dk s [(Nb,a1B)] es)/\(L 10=true->∃ b,u17=.pointer (some ⟨b,0,none⟩)/\Y0<=b/\CX X W p dk s [(b,a0f),(Nb,a1B)] es)):Env W:=by
 cases e:L 10
 ·exact (h.1 e).env
 ·obtain⟨b,_,_,c⟩:=h.2 e
  exact c.env
theorem c7A{t nm:ByteArray}(h:(L 10=false->CX X W p dk s [(Nb,a1B)] es)/\(L 10=true->∃ b,u17=.pointer (some ⟨b,0,none⟩)/\Y0<=b/\CX X W p dk s [(b,a0f),(Nb,a1B)] es))(RD:Reads t (.iface 170 (.agg #[.string nm,.int .i64 0,.int .i64 1048320])))(hs:nm.size=1)(hu:a0h nm s.ts≠0):
  Calls Tryz.prog 20 #[.pointer (some ⟨p,0,none⟩),.string t] W fun e W'=>∃ (a1 a2 a3 a4:Option Addr) (n1 n2 n3 n4 c1 c2 c3 c4:Nat),e=.returned (.agg #[.int .i64 0,.int .i64 0,.int .i64 (a1Q nm s.es 0 1048320),.slice a1 n1 c1,.slice a2 n2 c2,.slice a3 n3 c3,.slice a4 n4 c4]) /\
   ((L 10=false->CX X W' p dk s [(Nb,a1B)] es)/\(L 10=true->∃ b,u17=.pointer (some ⟨b,0,none⟩)/\Y0<=b/\CX X W' p dk s [(b,a0f),(Nb,a1B)] es))/\W.heap.size<=W'.heap.size:=by
 cases e10:L 10
 ·have c:=h.1 e10
  refine (c.line RD (.peak nm (by omega) 0 1048320) ⟨by omega,by omega,by omega,by omega⟩ (Desk.b2T c.inv hu (by omega))).mono ?_
  rintro en W' ⟨l,a1,a2,a3,a4,n2,c1,c2,c3,c4,rfl,_,cx,sz⟩
  exact⟨a1,a2,a3,a4,_,n2,_,_,c1,c2,c3,c4,rfl,⟨fun _=>cx.less (fun _ hq=>hq) (fun _ hq=>List.mem_cons_of_mem _ hq),fun e=>(nomatch e)⟩,sz⟩
 ·obtain⟨b,hb1,hb2,c⟩:=h.2 e10
  refine (c.line RD (.peak nm (by omega) 0 1048320) ⟨by omega,by omega,by omega,by omega⟩ (Desk.b2T c.inv hu (by omega))).mono ?_
  rintro en W' ⟨l,a1,a2,a3,a4,n2,c1,c2,c3,c4,rfl,_,cx,sz⟩
  exact⟨a1,a2,a3,a4,_,n2,_,_,c1,c2,c3,c4,rfl,⟨fun e=>(nomatch e),fun _=>⟨b,hb1,hb2,cx.less (fun _ hq=>hq) (fun _ hq=>List.mem_cons_of_mem _ hq)⟩⟩,sz⟩
end
def c0e : Oper := { dst := some 59, op := Op.move (Operand.tmp 10), type := 30, pos := "keeps.go:102", after := #[], guard := none }
def c0d : Oper := { dst := some 60, op := Op.move (Operand.tmp 13), type := 26, pos := "keeps.go:102", after := #[], guard := none }
def c0c : Oper := { dst := some 61, op := Op.move (Operand.tmp 14), type := 3, pos := "keeps.go:102", after := #[], guard := none }
def b6q : Oper := { dst := some 62, op := Op.indexAddr 26 (Operand.tmp 60) (Operand.tmp 61), type := 0, pos := "keeps.go:102", after := #[{ on := 1, ground := Ground.data }, { on := 2, ground := Ground.data }], guard := none }
def b6p : Oper := { dst := some 63, op := Op.load 9 (Operand.tmp 62), type := 9, pos := "keeps.go:102", after := #[{ on := 3, ground := Ground.data }], guard := none }
def b6o : Oper := { dst := some 64, op := Op.binOp BinOp.add 9 (Operand.const (Value.string { data := #[112, 101, 97, 107, 32] })) (Operand.tmp 63) 9, type := 9, pos := "keeps.go:102", after := #[{ on := 4, ground := Ground.data }], guard := none }
def b6n : Oper := { dst := some 65, op := Op.binOp BinOp.add 9 (Operand.tmp 64) (Operand.const (Value.string { data := #[32, 48, 32] })) 9, type := 9, pos := "keeps.go:102", after := #[{ on := 5, ground := Ground.data }], guard := none }
def c0b : Oper := { dst := some 66, op := Op.call { callee := Callee.value (Operand.func 21), args := #[Operand.const (Value.int IntKind.i64 1048320)], argTypes := #[3] }, type := 9, pos := "keeps.go:102", after := #[], guard := none }
def b6m : Oper := { dst := some 67, op := Op.binOp BinOp.add 9 (Operand.tmp 65) (Operand.tmp 66) 9, type := 9, pos := "keeps.go:102", after := #[{ on := 6, ground := Ground.data }, { on := 7, ground := Ground.data }], guard := none }
def b6l : Oper := { dst := some 68, op := Op.call { callee := Callee.value (Operand.func 20), args := #[Operand.tmp 59, Operand.tmp 67], argTypes := #[30, 9] }, type := 40, pos := "keeps.go:102", after := #[{ on := 0, ground := Ground.data }, { on := 8, ground := Ground.data }, { on := 7, ground := Ground.chain }], guard := none }
def b4Q : Oper := { dst := some 17, op := Op.alloc 40, type := 0, pos := "keeps.go:102", after := #[], guard := none }
def b1E : Oper := { dst := none, op := Op.store 40 (Operand.tmp 17) (Operand.tmp 68), type := 0, pos := "keeps.go:102", after := #[{ on := 10, ground := Ground.data }, { on := 9, ground := Ground.data }, { on := 9, ground := Ground.chain }, { on := 0, ground := Ground.phase }, { on := 1, ground := Ground.phase }, { on := 2, ground := Ground.phase }, { on := 3, ground := Ground.phase }, { on := 4, ground := Ground.phase }, { on := 5, ground := Ground.phase }, { on := 6, ground := Ground.phase }, { on := 7, ground := Ground.phase }, { on := 8, ground := Ground.phase }, { on := 9, ground := Ground.phase }, { on := 10, ground := Ground.phase }], guard := none }
def b9U:Array Oper:=#[c0e,c0d,c0c,b6q,b6p,b6o,b6n,c0b,b6m,b6l,b4Q,b1E]
structure c7C(X:World)(p dk:Nat)(s:St)(es:List (Value × List (Ent × Value)))(Nb i Y0:Nat)(N:Int)(L:Nat->Bool)(u17 u59 u60 u61 u62 u63 u64 u65 u66 u67 u68:Value)(W:World):Prop where
 f0:L 0=true->u59=.pointer (some ⟨p,0,none⟩)
 f1:L 1=true->u60=.slice (some ⟨Nb,0,none⟩) 2 2
 f2:L 2=true->u61=.int .i64 (i:Int)
 f3:L 3=true->u62=.pointer (some ⟨Nb,i,none⟩)
 f4:L 4=true->u63=.string (a1A i)
 f5:L 5=true->u64=.string ((⟨#[112,101,97,107,32]⟩:ByteArray)++a1A i)
 f6:L 6=true->u65=.string (((⟨#[112,101,97,107,32]⟩:ByteArray)++a1A i)++(⟨#[32,48,32]⟩:ByteArray))
 f7:L 7=true->u66=.string (Txt.a0x 1048320)
 f8:L 8=true->u67=.string ((((⟨#[112,101,97,107,32]⟩:ByteArray)++a1A i)++(⟨#[32,48,32]⟩:ByteArray))++Txt.a0x 1048320)
 f9:L 9=true->∃ (a1 a2 a3 a4:Option Addr) (n1 n2 n3 n4 c1 c2 c3 c4:Nat),u68=.agg #[.int .i64 0,.int .i64 0,.int .i64 N,.slice a1 n1 c1,.slice a2 n2 c2,.slice a3 n3 c3,.slice a4 n4 c4]
 cx:L 11=false->(L 10=false->CX X W p dk s [(Nb,a1B)] es)/\(L 10=true->∃ b,u17=.pointer (some ⟨b,0,none⟩)/\Y0<=b/\CX X W p dk s [(b,a0f),(Nb,a1B)] es)
 fin:L 11=true->∃ (b:Nat) (v1 v2 v3 v4:Value),u17=.pointer (some ⟨b,0,none⟩)/\CX X W p dk s [(b,a5w 0 0 N v1 v2 v3 v4),(Nb,a1B)] es
 sz:Y0<=W.heap.size
theorem c1q{L:Nat->Bool}(h:a9X .any b9U L){j:Nat}(hj:j<11)(hL:L j=false):L 11=false:=by
 cases e:L 11
 ·rfl
 ·have q:((#[{ on:=10,ground:=Ground.data },{ on:=9,ground:=Ground.data },{ on:=9,ground:=Ground.chain },{ on:=0,ground:=Ground.phase },{ on:=1,ground:=Ground.phase },{ on:=2,ground:=Ground.phase },{ on:=3,ground:=Ground.phase },{ on:=4,ground:=Ground.phase },{ on:=5,ground:=Ground.phase },{ on:=6,ground:=Ground.phase },{ on:=7,ground:=Ground.phase },{ on:=8,ground:=Ground.phase },{ on:=9,ground:=Ground.phase },{ on:=10,ground:=Ground.phase }]:Array Edge).all fun e=>!Region.binds .any e || L e.on)=true:=h 11 _ rfl e
  simp[Region.binds] at q
  exfalso
  match j,hj with
  |0,_=>simp[q] at hL
  |1,_=>simp[q] at hL
  |2,_=>simp[q] at hL
  |3,_=>simp[q] at hL
  |4,_=>simp[q] at hL
  |5,_=>simp[q] at hL
  |6,_=>simp[q] at hL
  |7,_=>simp[q] at hL
  |8,_=>simp[q] at hL
  |9,_=>simp[q] at hL
  |10,_=>simp[q] at hL
  |n+11,hj=>omega
theorem c1T{X:World}{p dk:Nat}{s:St}{es:List (Value × List (Ent × Value))}{Nb i:Nat}{t0 t1 t2 t3 t4 t5 t6 t7 t8 t9 t11 t12 t15 t16 t18 t19 t20 t21 t22 t23 t24 t25 t26 t27 t28 t29 t30 t31 t32 t33 t34 t35 t36 t37 t38 t39 t40 t41 t42 t43 t44 t45 t46 t47 t48 t49 t50 t51 t52 t53 t54 t55 t56 t57 t58 t69 t70 t71 t72 t73 t74 t75 t76 t77 t78 t79 t80 t81 t82 t83 t84 t85 t86 t87 t88 t89 t90 t91 t92 t93 t94 t95 t96 t97 t98 t99 t100 t101 t102 t103 t104 t105 t106 t107 t108 t109 t110 t111 t112 t113 t114 t115 t116 t117 t118 t119 t120 t121 t122 t123 t124 t125 t126 t127 t128 t129 t130 t131 t132 t133 t134 t135 t136 t137 t138 t139 t140 t141 t142 t143 t144 t145 t146 t147 t148 t149 t150 t151 t152 t153 t154 t155 t156 t157 t158 t159 t160 t161 t162 t163 t164 t165 t166 t167 t168 t169 t170 t171 t172 t173 t174 t175 t176 t177 t178 t179 t180 t181 t182 t183 t184 t185 t186 t187 t188 t189 t190 t191 t192 t193 t194 t195 t196 t197 t198 t199 t200 t201 t202 t203 t204 t205 t206 t207 t208 t209 t210 t211 t212 t213 t214 t215 t216 t217 t218 t219 t220 t221 t222 t223 t224 t225 t226 t227 t228 t229 t230 t231 t232 t233 t234 t235 t236 t237 t238 t239 t240 t241 t242 t243 t17 t59 t60 t61 t62 t63 t64 t65 t66 t67 t68:Value}(hi:i<2)(h10:10<=X.heap.size)(RD:Reads ((((⟨#[112,101,97,107,32]⟩:ByteArray)++a1A i)++(⟨#[32,48,32]⟩:ByteArray))++Txt.a0x 1048320) (.iface 170 (.agg #[.string (a1A i),.int .i64 0,.int .i64 1048320])))(hu:a0h (a1A i) s.ts≠0){Q:Exit->Act->World->Prop}{Y:World}(hY:CX X Y p dk s [(Nb,a1B)] es)(KK:∀ (u59 u60 u61 u62 u63 u64 u65 u66 u67 u68:Value)(b:Nat)(v1 v2 v3 v4:Value)(W:World),CX X W p dk s [(b,a5w 0 0 (a1Q (a1A i) s.es 0 1048320) v1 v2 v3 v4),(Nb,a1B)] es->Q .normal { tmps:=#[t0,t1,t2,t3,t4,t5,t6,t7,t8,t9,.pointer (some ⟨p,0,none⟩),t11,t12,.slice (some ⟨Nb,0,none⟩) 2 2,.int .i64 (i:Int),t15,t16,(.pointer (some ⟨b,0,none⟩)),t18,t19,t20,t21,t22,t23,t24,t25,t26,t27,t28,t29,t30,t31,t32,t33,t34,t35,t36,t37,t38,t39,t40,t41,t42,t43,t44,t45,t46,t47,t48,t49,t50,t51,t52,t53,t54,t55,t56,t57,t58,u59,u60,u61,u62,u63,u64,u65,u66,u67,u68,t69,t70,t71,t72,t73,t74,t75,t76,t77,t78,t79,t80,t81,t82,t83,t84,t85,t86,t87,t88,t89,t90,t91,t92,t93,t94,t95,t96,t97,t98,t99,t100,t101,t102,t103,t104,t105,t106,t107,t108,t109,t110,t111,t112,t113,t114,t115,t116,t117,t118,t119,t120,t121,t122,t123,t124,t125,t126,t127,t128,t129,t130,t131,t132,t133,t134,t135,t136,t137,t138,t139,t140,t141,t142,t143,t144,t145,t146,t147,t148,t149,t150,t151,t152,t153,t154,t155,t156,t157,t158,t159,t160,t161,t162,t163,t164,t165,t166,t167,t168,t169,t170,t171,t172,t173,t174,t175,t176,t177,t178,t179,t180,t181,t182,t183,t184,t185,t186,t187,t188,t189,t190,t191,t192,t193,t194,t195,t196,t197,t198,t199,t200,t201,t202,t203,t204,t205,t206,t207,t208,t209,t210,t211,t212,t213,t214,t215,t216,t217,t218,t219,t220,t221,t222,t223,t224,t225,t226,t227,t228,t229,t230,t231,t232,t233,t234,t235,t236,t237,t238,t239,t240,t241,t242,t243],defers:=[] } W):
  (Code.region 13 b9U true).wp Tryz.prog Q { tmps:=#[t0,t1,t2,t3,t4,t5,t6,t7,t8,t9,.pointer (some ⟨p,0,none⟩),t11,t12,.slice (some ⟨Nb,0,none⟩) 2 2,.int .i64 (i:Int),t15,t16,t17,t18,t19,t20,t21,t22,t23,t24,t25,t26,t27,t28,t29,t30,t31,t32,t33,t34,t35,t36,t37,t38,t39,t40,t41,t42,t43,t44,t45,t46,t47,t48,t49,t50,t51,t52,t53,t54,t55,t56,t57,t58,t59,t60,t61,t62,t63,t64,t65,t66,t67,t68,t69,t70,t71,t72,t73,t74,t75,t76,t77,t78,t79,t80,t81,t82,t83,t84,t85,t86,t87,t88,t89,t90,t91,t92,t93,t94,t95,t96,t97,t98,t99,t100,t101,t102,t103,t104,t105,t106,t107,t108,t109,t110,t111,t112,t113,t114,t115,t116,t117,t118,t119,t120,t121,t122,t123,t124,t125,t126,t127,t128,t129,t130,t131,t132,t133,t134,t135,t136,t137,t138,t139,t140,t141,t142,t143,t144,t145,t146,t147,t148,t149,t150,t151,t152,t153,t154,t155,t156,t157,t158,t159,t160,t161,t162,t163,t164,t165,t166,t167,t168,t169,t170,t171,t172,t173,t174,t175,t176,t177,t178,t179,t180,t181,t182,t183,t184,t185,t186,t187,t188,t189,t190,t191,t192,t193,t194,t195,t196,t197,t198,t199,t200,t201,t202,t203,t204,t205,t206,t207,t208,t209,t210,t211,t212,t213,t214,t215,t216,t217,t218,t219,t220,t221,t222,t223,t224,t225,t226,t227,t228,t229,t230,t231,t232,t233,t234,t235,t236,t237,t238,t239,t240,t241,t242,t243],defers:=[] } Y:=by
 have hs:=(a3x i).s
 have hR:=hY.rows
 have hpY:=hY.pl
 have hXY:=hY.bl.size
 have hNb:=(Array.getElem?_eq_some_iff.1 (hY.kb (List.mem_cons_self ..))).1
 refine a6t (by kernel_rfl) ?ord (fun L a W=>∃ u17 u59 u60 u61 u62 u63 u64 u65 u66 u67 u68:Value,a={ tmps:=#[t0,t1,t2,t3,t4,t5,t6,t7,t8,t9,.pointer (some ⟨p,0,none⟩),t11,t12,.slice (some ⟨Nb,0,none⟩) 2 2,.int .i64 (i:Int),t15,t16,u17,t18,t19,t20,t21,t22,t23,t24,t25,t26,t27,t28,t29,t30,t31,t32,t33,t34,t35,t36,t37,t38,t39,t40,t41,t42,t43,t44,t45,t46,t47,t48,t49,t50,t51,t52,t53,t54,t55,t56,t57,t58,u59,u60,u61,u62,u63,u64,u65,u66,u67,u68,t69,t70,t71,t72,t73,t74,t75,t76,t77,t78,t79,t80,t81,t82,t83,t84,t85,t86,t87,t88,t89,t90,t91,t92,t93,t94,t95,t96,t97,t98,t99,t100,t101,t102,t103,t104,t105,t106,t107,t108,t109,t110,t111,t112,t113,t114,t115,t116,t117,t118,t119,t120,t121,t122,t123,t124,t125,t126,t127,t128,t129,t130,t131,t132,t133,t134,t135,t136,t137,t138,t139,t140,t141,t142,t143,t144,t145,t146,t147,t148,t149,t150,t151,t152,t153,t154,t155,t156,t157,t158,t159,t160,t161,t162,t163,t164,t165,t166,t167,t168,t169,t170,t171,t172,t173,t174,t175,t176,t177,t178,t179,t180,t181,t182,t183,t184,t185,t186,t187,t188,t189,t190,t191,t192,t193,t194,t195,t196,t197,t198,t199,t200,t201,t202,t203,t204,t205,t206,t207,t208,t209,t210,t211,t212,t213,t214,t215,t216,t217,t218,t219,t220,t221,t222,t223,t224,t225,t226,t227,t228,t229,t230,t231,t232,t233,t234,t235,t236,t237,t238,t239,t240,t241,t242,t243],defers:=[] }/\c7C X p dk s es Nb i Y.heap.size (a1Q (a1A i) s.es 0 1048320) L u17 u59 u60 u61 u62 u63 u64 u65 u66 u67 u68 W) ?start ?step ?done
 case ord =>
  have hall:((List.range 12).all fun j=>match b9U[j]? with|some o=>(o.after.all fun e=>!Region.binds .any e || decide (e.on<j))|none=>true)=true:=by decide +kernel
  intro j o ho
  have hj:j<12:=(Array.getElem?_eq_some_iff.1 ho).1
  have:=List.all_eq_true.1 hall j (List.mem_range.2 hj)
  rw[ho] at this
  exact this
 case start =>
  exact⟨_,_,_,_,_,_,_,_,_,_,_,rfl,⟨fun e=>(nomatch e),fun e=>(nomatch e),fun e=>(nomatch e),fun e=>(nomatch e),fun e=>(nomatch e),fun e=>(nomatch e),fun e=>(nomatch e),fun e=>(nomatch e),fun e=>(nomatch e),fun e=>(nomatch e),fun _=>⟨fun _=>hY.drew,fun e=>(nomatch e)⟩,fun e=>(nomatch e),Nat.le_refl _⟩⟩
 case done =>
  rintro L a W hall ⟨u17,u59,u60,u61,u62,u63,u64,u65,u66,u67,u68,rfl,h⟩
  obtain⟨b,v1,v2,v3,v4,rfl,hc⟩:=h.fin (hall 11 (by decide))
  exact KK u59 u60 u61 u62 u63 u64 u65 u66 u67 u68 b v1 v2 v3 v4 W hc
 case step =>
  rintro L a W j o hcl ⟨u17,u59,u60,u61,u62,u63,u64,u65,u66,u67,u68,rfl,h⟩ ho hL hd K hK
  have hj:j<12:=(Array.getElem?_eq_some_iff.1 ho).1
  match j,hj,ho,hL,hd,hK with
  |0,_,ho,hL,hd,hK =>
   obtain rfl:c0e=o:=Option.some.inj ho
   have h11:L 11=false:=c1q hcl (j:=0) (by decide) hL
   clear hd hcl
   unfold c0e
   go_simp
   exact hK _ _ ⟨_,_,_,_,_,_,_,_,_,_,_,rfl,⟨fun _=>rfl,h.f1,h.f2,h.f3,h.f4,h.f5,h.f6,h.f7,h.f8,h.f9,h.cx,fun e=>c0l h11 e,h.sz⟩⟩
  |1,_,ho,hL,hd,hK =>
   obtain rfl:c0d=o:=Option.some.inj ho
   have h11:L 11=false:=c1q hcl (j:=1) (by decide) hL
   clear hd hcl
   unfold c0d
   go_simp
   exact hK _ _ ⟨_,_,_,_,_,_,_,_,_,_,_,rfl,⟨h.f0,fun _=>rfl,h.f2,h.f3,h.f4,h.f5,h.f6,h.f7,h.f8,h.f9,h.cx,fun e=>c0l h11 e,h.sz⟩⟩
  |2,_,ho,hL,hd,hK =>
   obtain rfl:c0c=o:=Option.some.inj ho
   have h11:L 11=false:=c1q hcl (j:=2) (by decide) hL
   clear hd hcl
   unfold c0c
   go_simp
   exact hK _ _ ⟨_,_,_,_,_,_,_,_,_,_,_,rfl,⟨h.f0,h.f1,fun _=>rfl,h.f3,h.f4,h.f5,h.f6,h.f7,h.f8,h.f9,h.cx,fun e=>c0l h11 e,h.sz⟩⟩
  |3,_,ho,hL,hd,hK =>
   obtain rfl:b6q=o:=Option.some.inj ho
   have dd_:L 1=true/\L 2=true:=by simpa[Region.binds,b6q] using hd
   have d1:=dd_.1
   have d2:=dd_.2
   clear dd_
   have h11:L 11=false:=c1q hcl (j:=3) (by decide) hL
   clear hd hcl
   unfold b6q
   obtain rfl:=h.f1 d1
   obtain rfl:=h.f2 d2
   have hi':(i:Int)<2:=by omega
   go_simp
   exact hK _ _ ⟨_,_,_,_,_,_,_,_,_,_,_,rfl,⟨h.f0,fun _=>rfl,fun _=>rfl,fun _=>rfl,h.f4,h.f5,h.f6,h.f7,h.f8,h.f9,h.cx,fun e=>c0l h11 e,h.sz⟩⟩
  |4,_,ho,hL,hd,hK =>
   obtain rfl:b6p=o:=Option.some.inj ho
   have dd_:L 3=true:=by simpa[Region.binds,b6p] using hd
   have d3:=dd_
   clear dd_
   have h11:L 11=false:=c1q hcl (j:=4) (by decide) hL
   clear hd hcl
   unfold b6p
   obtain rfl:=h.f3 d3
   have hc:=a6P (c7e (h.cx h11)) i hi
   go_simp
   exact hK _ _ ⟨_,_,_,_,_,_,_,_,_,_,_,rfl,⟨h.f0,h.f1,h.f2,fun _=>rfl,fun _=>rfl,h.f5,h.f6,h.f7,h.f8,h.f9,h.cx,fun e=>c0l h11 e,h.sz⟩⟩
  |5,_,ho,hL,hd,hK =>
   obtain rfl:b6o=o:=Option.some.inj ho
   have dd_:L 4=true:=by simpa[Region.binds,b6o] using hd
   have d4:=dd_
   clear dd_
   have h11:L 11=false:=c1q hcl (j:=5) (by decide) hL
   clear hd hcl
   unfold b6o
   obtain rfl:=h.f4 d4
   go_simp
   exact hK _ _ ⟨_,_,_,_,_,_,_,_,_,_,_,rfl,⟨h.f0,h.f1,h.f2,h.f3,fun _=>rfl,fun _=>rfl,h.f6,h.f7,h.f8,h.f9,h.cx,fun e=>c0l h11 e,h.sz⟩⟩
  |6,_,ho,hL,hd,hK =>
   obtain rfl:b6n=o:=Option.some.inj ho
   have dd_:L 5=true:=by simpa[Region.binds,b6n] using hd
   have d5:=dd_
   clear dd_
   have h11:L 11=false:=c1q hcl (j:=6) (by decide) hL
   clear hd hcl
   unfold b6n
   obtain rfl:=h.f5 d5
   go_simp
   exact hK _ _ ⟨_,_,_,_,_,_,_,_,_,_,_,rfl,⟨h.f0,h.f1,h.f2,h.f3,h.f4,fun _=>rfl,fun _=>rfl,h.f7,h.f8,h.f9,h.cx,fun e=>c0l h11 e,h.sz⟩⟩
  |7,_,ho,hL,hd,hK =>
   obtain rfl:c0b=o:=Option.some.inj ho
   have h11:L 11=false:=c1q hcl (j:=7) (by decide) hL
   clear hd hcl
   unfold c0b
   refine a2k (by rfl) 21 _ _ (by rfl) _ (by simp[Act.eval]) (c5r _ _) (a6O 1048320 W (c6Z (h.cx h11)) (by omega) (by omega)) ?_
   rintro e w7 ⟨rfl,hb7⟩
   refine⟨_,rfl,?_⟩
   have hb7s:=hb7.size
   exact hK _ _ ⟨_,_,_,_,_,_,_,_,_,_,_,rfl,⟨h.f0,h.f1,h.f2,h.f3,h.f4,h.f5,h.f6,fun _=>rfl,h.f8,h.f9,fun e=>⟨fun e0=>((h.cx e).1 e0).later hb7,fun e0=>((h.cx e).2 e0).imp fun b hb=>⟨hb.1,hb.2.1,hb.2.2.later hb7⟩⟩,fun e=>c0l h11 e,Nat.le_trans h.sz hb7s⟩⟩
  |8,_,ho,hL,hd,hK =>
   obtain rfl:b6m=o:=Option.some.inj ho
   have dd_:L 6=true/\L 7=true:=by simpa[Region.binds,b6m] using hd
   have d6:=dd_.1
   have d7:=dd_.2
   clear dd_
   have h11:L 11=false:=c1q hcl (j:=8) (by decide) hL
   clear hd hcl
   unfold b6m
   obtain rfl:=h.f6 d6
   obtain rfl:=h.f7 d7
   have z:=Txt.a0I 1048320 (by omega) (by omega)
   have sz1:¬ (9223372036854775807<5+1+3+(Txt.a0x 1048320).size):=by omega
   have sz2:¬ (9223372036854775807<9+(Txt.a0x 1048320).size):=by omega
   have sz3:¬ (9223372036854775807<5+(a1A i).size+3+(Txt.a0x 1048320).size):=by omega
   go_simp
   exact hK _ _ ⟨_,_,_,_,_,_,_,_,_,_,_,rfl,⟨h.f0,h.f1,h.f2,h.f3,h.f4,h.f5,fun _=>rfl,fun _=>rfl,fun _=>rfl,h.f9,h.cx,fun e=>c0l h11 e,h.sz⟩⟩
  |9,_,ho,hL,hd,hK =>
   obtain rfl:b6l=o:=Option.some.inj ho
   have dd_:L 0=true/\L 8=true/\L 7=true:=by simpa[Region.binds,b6l] using hd
   have d0:=dd_.1
   have d8:=dd_.2.1
   clear dd_
   have h11:L 11=false:=c1q hcl (j:=9) (by decide) hL
   clear hd hcl
   unfold b6l
   obtain rfl:=h.f0 d0
   obtain rfl:=h.f8 d8
   refine a2k (by rfl) 20 _ _ (by rfl) _ (by simp[Act.eval]) (c6D _ _) (c7A (h.cx h11) RD hs hu) ?_
   rintro e w7 ⟨a1,a2,a3,a4,n1,n2,n3,n4,c1,c2,c3,c4,rfl,hb7,hb7s⟩
   refine⟨_,rfl,?_⟩
   exact hK _ _ ⟨_,_,_,_,_,_,_,_,_,_,_,rfl,⟨fun _=>rfl,h.f1,h.f2,h.f3,h.f4,h.f5,h.f6,h.f7,fun _=>rfl,fun _=>⟨a1,a2,a3,a4,n1,n2,n3,n4,c1,c2,c3,c4,rfl⟩,fun e=>hb7,fun e=>c0l h11 e,Nat.le_trans h.sz hb7s⟩⟩
  |10,_,ho,hL,hd,hK =>
   obtain rfl:b4Q=o:=Option.some.inj ho
   have h11:L 11=false:=c1q hcl (j:=10) (by decide) hL
   clear hd hcl
   unfold b4Q
   go_simp
   exact hK _ _ ⟨_,_,_,_,_,_,_,_,_,_,_,rfl,⟨h.f0,h.f1,h.f2,h.f3,h.f4,h.f5,h.f6,h.f7,h.f8,h.f9,fun e=>⟨fun e0=>(nomatch e0),fun _=>⟨W.heap.size,rfl,h.sz,((h.cx e).1 hL).alloc a0f⟩⟩,fun e=>c0l h11 e,by have:=h.sz;simp;omega⟩⟩
  |11,_,ho,hL,hd,hK =>
   obtain rfl:b1E=o:=Option.some.inj ho
   have dd_:L 0=true/\L 1=true/\L 2=true/\L 3=true/\L 4=true/\L 5=true/\L 6=true/\L 7=true/\L 8=true/\L 9=true/\L 10=true:=by
    simp[Region.binds,b1E] at hd
    simp[hd]
   have d9:=dd_.2.2.2.2.2.2.2.2.2.1
   have d10:=dd_.2.2.2.2.2.2.2.2.2.2
   clear dd_
   clear hd hcl
   unfold b1E
   obtain⟨a1,a2,a3,a4,n1,n2,n3,n4,c1,c2,c3,c4,rfl⟩:=h.f9 d9
   obtain⟨b,rfl,hb,hcx⟩:=(h.cx hL).2 d10
   have hz:=hcx.kb (List.mem_cons_self ..)
   obtain⟨y0,y1,y2,y3,y4,y5,y6,yf⟩:=Q7.of hz
   have ko:=a2R W b (.int .i64 0) (.int .i64 0) (.int .i64 (a1Q (a1A i) s.es 0 1048320)) (.slice a1 n1 c1) (.slice a2 n2 c2) (.slice a3 n3 c3) (.slice a4 n4 c4)
   have hfin:=hcx.put h10 (Nat.le_trans hXY hb) (by omega) (fun q hq=>by have:q=(Nb,a1B):=List.mem_singleton.1 hq;subst this;show Nb≠b;omega) hR hb ko (c4E hz 0 0 (a1Q (a1A i) s.es 0 1048320) (.slice a1 n1 c1) (.slice a2 n2 c2) (.slice a3 n3 c3) (.slice a4 n4 c4))
   clear ko hz
   go_simp
   exact hK _ _ ⟨_,_,_,_,_,_,_,_,_,_,_,rfl,⟨h.f0,h.f1,h.f2,h.f3,h.f4,h.f5,h.f6,h.f7,h.f8,fun _=>⟨a1,a2,a3,a4,n1,n2,n3,n4,c1,c2,c3,c4,rfl⟩,fun e=>(nomatch e),fun _=>⟨b,_,_,_,_,rfl,hfin⟩,Nat.le_trans h.sz (a2R W b (.int .i64 0) (.int .i64 0) (.int .i64 (a1Q (a1A i) s.es 0 1048320)) (.slice a1 n1 c1) (.slice a2 n2 c2) (.slice a3 n3 c3) (.slice a4 n4 c4)).size⟩⟩
  |n+12,hj,_,_,_,_=>exact absurd hj (by omega)
structure Own(X:World)(b p:Nat)(ks:List (Nat × Obj))(es:List (Value × List (Ent × Value))):Prop where
 h10:10<=X.heap.size
 x:X.heap.size<=b
 p:p≠b
 ks:∀ q∈ks,q.1≠b
 es:b5K b es
theorem CX.swap{X W:World}{p dk:Nat}{s:St}{ks:List (Nat × Obj)}{es:List (Value × List (Ent × Value))}{a b:Nat × Obj}(h:CX X W p dk s (a :: b :: ks) es):CX X W p dk s (b :: a :: ks) es:=h.less (fun q hq=>by simp only[List.mem_cons] at hq ⊢;rcases hq with h|h|h <;> simp[h]) (fun q hq=>hq)
theorem CX.put'{X W W':World}{p dk:Nat}{s:St}{ks:List (Nat × Obj)}{es:List (Value × List (Ent × Value))}{b:Nat}{o o':Obj}(h:CX X W p dk s ((b,o) :: ks) es)(a:Own X b p ks es)(k:Off [b] W W')(hb:W'.heap[b]?=some o'):CX X W' p dk s ((b,o') :: ks) es:=h.put a.h10 a.x a.p a.ks a.es (Nat.le_refl _) k hb
theorem CX.next{X W:World}{p dk:Nat}{s:St}{ks:List (Nat × Obj)}{es:List (Value × List (Ent × Value))}{F a:Nat}{t:ByteArray}(h:CX X W p dk s ((F,a8o t a) :: ks) es)(o:Own X F p ks es)(ha:a<=t.size)(hs:t.size<=9223372036854775807)(n:Int)(h1:1<=n)(h2:n<=1000):
  Calls Tryz.prog 25 #[.pointer (some ⟨F,0,none⟩),.int .i64 n] W fun e W'=>∃ (v:Int) (a':Nat),e=.returned (.int .i64 v)/\0<=v/\v<n/\a'<=t.size/\CX X W' p dk s ((F,a8o t a') :: ks) es:=by
 have hf:FW W F t W:=⟨⟨a,h.kb (List.mem_cons_self ..),ha,hs⟩,h.env,Off.refl _ _,Nat.le_trans o.h10 o.x⟩
 refine (a1h hf n h1 h2).mono ?_
 rintro e W' ⟨v,rfl,v0,v1,k⟩
 obtain⟨a',fd⟩:=k.fd
 exact⟨v,a',rfl,v0,v1,fd.le,h.put' o k.off fd.b⟩
theorem a1y{W:World}{b:Nat}{nm:ByteArray}{u fr til:Int}(h:W.heap[b]?=some (a1P nm u fr til)):W.cell? ⟨b,0,none⟩=some (.string nm)/\W.cell? ⟨b,1,none⟩=some (.int .i64 u)/\W.cell? ⟨b,2,none⟩=some (.int .i64 fr)/\W.cell? ⟨b,3,none⟩=some (.int .i64 til)/\∀ o,W.frozen? ⟨b,o,none⟩=false:=b1X h
theorem a6T{s:St}(h:Inv s){nm:ByteArray}{l:List (Ent × Value)}(hl:l.map (·.1)=a2x nm 0 1048320 s.es):Few l:=by
 have h1:=Desk.c2P h nm
 rw[<- hl,List.length_map] at h1
 refine⟨by omega,fun p hp=>?_⟩
 have hm:p.1∈a2x nm 0 1048320 s.es:=by rw[<- hl];exact List.mem_map.2 ⟨p,hp,rfl⟩
 have e:=h.en p.1 (Desk.b6I h nm hm).1
 have:=e.u1
 have:=e.u9
 have:=e.sl
 exact⟨by omega,by omega,by omega⟩
theorem b0A{s:St}(h:Inv s)(nm:ByteArray){a b:Int}(hab:a<b):a1Q nm s.es a b<=a0h nm s.ts:=by
 obtain⟨_,x,_,_,e⟩:=Desk.a6H (name:=nm) h.mid.pos hab
 have e':Desk.a0o nm x s.es=a1Q nm s.es a b:=e
 have:=h.wi nm x
 omega
theorem b4N{s:St}(h:Inv s)(nm:ByteArray){a b:Int}(hab:a<b):0<=a1Q nm s.es a b:=by
 obtain⟨_,x,_,_,e⟩:=Desk.a6H (name:=nm) h.mid.pos hab
 have e':Desk.a0o nm x s.es=a1Q nm s.es a b:=e
 have:=Desk.a6v (name:=nm) (x:=x) h.mid.pos
 omega
theorem b1Y{X W:World}{p dk:Nat}{s:St}{ks:List (Nat × Obj)}{es:List (Value × List (Ent × Value))}(h:CX X W p dk s ks es)(A B:Int)(nm:ByteArray)(hn:nm=⟨#[97]⟩\/nm=⟨#[98]⟩)(hm:Nm nm)(hu0:a0h nm s.ts≠0)(hu:a0h nm (a3Z A B).ts=a0h nm s.ts)(u fr til:Int)(u0:0<=u)(u1:u<=9)(hlt:fr<til):
  Calls Tryz.prog 26 #[.pointer (some ⟨p,0,none⟩),.agg #[.int .i64 A,.int .i64 B],.agg #[.string nm,.int .i64 u,.int .i64 fr,.int .i64 til]] W fun e W'=>e=.returned (.tuple #[.bool (Desk.a1e s.ts s.es nm u [(fr,til)]),.bool true])/\CX X W' p dk s ks es:=by
 have HC:=a0b ((h.alloc (a1T A B)).alloc (a1P nm u fr til))
 have hp0:=b4N h.inv nm hlt
 have hp1:=b0A h.inv nm hlt
 have hp9:=(Desk.a4g h.inv.tu nm).2
 have FT:Hid (Desk.a1e s.ts s.es nm u [(fr,til)]=decide (a1Q nm s.es fr til+u<=a0h nm s.ts)):=by
  show _=_
  rw[Desk.c0N h.inv nm u0 hlt,Desk.a5y h.inv nm hlt]
 have HI:=a0b h.inv
 have HL:=a0b hlt
 have k1:IntKind.i64.wrap (a1Q nm s.es fr til+u)=a1Q nm s.es fr til+u:=a0G (by omega) (by omega)
 rw[FT.out]
 clear h hp0 hp1 hp9 FT hlt
 go_enter Tryz.func26,Tryz.ntmps26
 go_upto_region 1 with fail
 change Code.wp _ _ _ _ ((W.alloc (a1T A B)).alloc (a1P nm u fr til))
 have e1:(W.alloc (a1T A B)).heap.size=W.heap.size+1:=by simp
 rw[e1] at HC
 clear e1
 generalize (W.alloc (a1T A B)).alloc (a1P nm u fr til)=Z at HC ⊢
 generalize W.heap.size=Rb at HC ⊢
 obtain⟨c0,c1,c2,c3,_⟩:=a1y (HC.out.kb (List.mem_cons_self ..))
 go_upto_region 4 with (first
  |(go_at_call 19;refine (CX.entries HC.out nm hm hu0).mono ?_;rintro e w4 ⟨l,la,lc,rfl,hents,hc4⟩;have HE:=a0b hents;replace HC:=a0b hc4;clear hc4 hents c0 c1 c2 c3))
 have PK:=a0b (fun W' (k:Below w4.drew.heap.size w4.drew W')=>b3i W' (.slice la l.length lc) l ((HC.out.drew.later k).ev (List.mem_cons_self ..)) (a6T HI.out HE.out) fr til)
 have EP:Hid (b0g (a1m l) fr til=a1Q nm s.es fr til):=by
  show _=_
  unfold a1m
  rw[HE.out]
  exact Desk.a5y HI.out nm HL.out
 rw[EP.out] at PK
 have UN:=a0b (fun W'=>a7B A B nm hn W')
 rw[hu] at UN
 generalize hpn:a1Q nm s.es fr til=pn at PK k1
 generalize hun:a0h nm s.ts=un at UN
 have HPN:=a0b hpn
 have HUN:=a0b hun
 clear hpn hun EP hu hu0
 have HD:=a0b HC.out.drew
 have SS:Hid (∀ W',Below w4.drew.heap.size w4.drew W'->W'.cell? ⟨Rb+1,0,none⟩=some (.string nm)/\W'.cell? ⟨Rb+1,1,none⟩=some (.int .i64 u)/\W'.cell? ⟨Rb+1,2,none⟩=some (.int .i64 fr)/\W'.cell? ⟨Rb+1,3,none⟩=some (.int .i64 til)/\W'.cell? ⟨Rb,0,none⟩=some (.int .i64 A)/\W'.cell? ⟨Rb,1,none⟩=some (.int .i64 B)):=fun W' k=>by
  obtain⟨c0,c1,c2,c3,_⟩:=a1y ((HD.out.later k).kb (List.mem_cons_self ..))
  have hr:=(HD.out.later k).kb (b:=Rb) (o:=a1T A B) (List.mem_cons_of_mem _ (List.mem_cons_self ..))
  unfold a1T at hr
  obtain⟨x,y,_⟩:=b0q hr
  exact⟨c0,c1,c2,c3,x,y⟩
 have S0:=SS.out _ (Below.refl _ _)
 obtain⟨s0,s1,s2,s3,s4,s5⟩:=S0
 go_region_held3 (fun w'=>w'.cell? ⟨Rb+1,0,none⟩=some (.string nm)/\w'.cell? ⟨Rb+1,1,none⟩=some (.int .i64 u)/\w'.cell? ⟨Rb+1,2,none⟩=some (.int .i64 fr)/\w'.cell? ⟨Rb+1,3,none⟩=some (.int .i64 til)/\w'.cell? ⟨Rb,0,none⟩=some (.int .i64 A)/\w'.cell? ⟨Rb,1,none⟩=some (.int .i64 B))
  (first
   |with_reducible exact SS.out _ HB6.out
   |with_reducible exact SS.out _ HB5.out
   |exact⟨s0,s1,s2,s3,s4,s5⟩)
  (first
   |(go_at_call 22;refine (PK.out _ (Below.refl _ _)).mono ?_;rintro e w5 ⟨rfl,hb5⟩;have HB5:=a0b hb5;clear hb5)
   |(go_at_call 23;refine (UN.out _).mono ?_;rintro e w6 ⟨rfl,hb6⟩;have HB6:=a0b (a0j HB5.out hb6 (Nat.le_refl _));clear hb6))
 have HF:Hid (CX X w6 p dk s ks es):=(HD.out.later HB6.out).less (fun q hq=>List.mem_cons_of_mem _ (List.mem_cons_of_mem _ hq)) (fun q hq=>List.mem_cons_of_mem _ hq)
 clear HB5 HB6 SS HD HC PK UN
 go_wp2_with fail
 go_ret2
 exact⟨by rw[HPN.out,HUN.out];rfl,HF.out⟩
open Desk (Ent)
theorem b1y(L:List (Int × Int))(u v:Value)(w:World)(hu:SV w u L)(hv:SV w v L)(hl:L.length<=1000000):
  Calls Tryz.prog 35 #[u,v] w fun e w'=>e=.returned (.bool true)/\Below w.heap.size w w':=by
 obtain⟨a,ca,rfl⟩:=hu.form
 obtain⟨b,cb,rfl⟩:=hv.form
 have HU:=a0b hu
 have HV:=a0b hv
 clear hu hv
 have hb:((L.length:Int) != (L.length:Int))=false:=by simp
 go_enter Tryz.func35,Tryz.ntmps35
 go_wp2_with fail
 go_loopw [5] (fun v wr=>∃ k:Nat,k<=L.length/\v=.int .i64 k/\Below w.heap.size w wr) (fun v _=>L.length-(intOf v).toNat)
 case atStart=>exact⟨0,Nat.zero_le _,rfl,Below.refl _ _⟩
 case round =>
  obtain⟨k,hk,rfl,hbl⟩:=hrel
  have HB:=a0b hbl
  clear hbl
  by_cases hlt:k<L.length
  ·have hlt':(k:Int)<(L.length:Int):=by omega
   obtain⟨g,cap,e,a0,a1⟩:=(HU.out.later HB.out).cell k hlt
   simp only[Value.slice.injEq,true_and] at e
   obtain⟨rfl,rfl⟩:=e
   obtain⟨g2,cap2,e,b0,b1⟩:=(HV.out.later HB.out).cell k hlt
   simp only[Value.slice.injEq,true_and] at e
   obtain⟨rfl,rfl⟩:=e
   generalize L[k].1=x at *
   generalize L[k].2=y at *
   go_upto_region 6 with fail
   go_big_region
   have HBd:=a0b (HB.out.drew)
   clear HB
   go_wp2_with fail
   go_roundw
   case rel=>exact⟨k+1,by omega,by go_num,HBd.out⟩
   case measure=>simp[intOf];omega
  ·have hlt':¬ (k:Int)<(L.length:Int):=by omega
   go_wp2_with fail
   go_ret
   exact⟨rfl,HB.out⟩
theorem a9Q{B:Nat}{w w':World}(h:Below B w w')(n:Nat):Below B w (w'.drewN n):=⟨h.os,h.tape,h.output,h.size,h.block⟩
theorem a8V(l m:List (Ent × Value))(u v:Value)(w:World)(hu:EV w u l)(hv:EV w v m)(he:l.map (·.1)=m.map (·.1))(hl:l.length<=1000)(hs:∀ p∈l,p.1.a0e.length<=1000):
  Calls Tryz.prog 28 #[u,v] w fun e w'=>e=.returned (.bool true)/\Below w.heap.size w w':=by
 obtain⟨a,ca,rfl⟩:=hu.form
 obtain⟨b,cb,rfl⟩:=hv.form
 have hlen:m.length=l.length:=by have:=congrArg List.length he;simpa using this.symm
 have AT:Hid (∀ (k:Nat) (h:k<l.length) (h':k<m.length),m[k].1=l[k].1):=fun k h h'=>by
  have:=congrArg (fun x=>x[k]?) he
  simp only[List.getElem?_map,List.getElem?_eq_getElem h,List.getElem?_eq_getElem h',Option.map_some] at this
  exact (Option.some.inj this).symm
 have HU:=a0b hu
 have HV:=a0b hv
 have HS:=a0b hs
 rw[hlen]
 clear hu hv he hs
 have hb:((l.length:Int) != (l.length:Int))=false:=by simp
 go_enter Tryz.func28,Tryz.ntmps28
 go_wp2_with fail
 go_loopw [5,6] (fun v _ wr=>∃ k:Nat,k<=l.length/\v=.int .i64 k/\Below w.heap.size w wr) (fun v _ _=>l.length-(intOf v).toNat)
 case atStart=>exact⟨0,Nat.zero_le _,rfl,Below.refl _ _⟩
 case round =>
  obtain⟨k,hk,rfl,hbl⟩:=hrel
  have HB:=a0b hbl
  clear hbl
  by_cases hlt:k<l.length
  ·have hlt':(k:Int)<(l.length:Int):=by omega
   have hmt:k<m.length:=by omega
   obtain⟨g,cap,e,a0,a1,a2,a3,a4,a5⟩:=(HU.out.later HB.out).cell k hlt
   simp only[Value.slice.injEq,true_and] at e
   obtain⟨rfl,rfl⟩:=e
   obtain⟨g2,cap2,e,b0,b1,b2,b3,b4,b5⟩:=(HV.out.later HB.out).cell k hmt
   simp only[Value.slice.injEq,true_and] at e
   obtain⟨rfl,rfl⟩:=e
   have s1:=(HU.out.later HB.out).sp l[k] (List.getElem_mem hlt)
   have s2:=(HV.out.later HB.out).sp m[k] (List.getElem_mem hmt)
   rw[AT.out k hlt hmt] at b0 b1 b2 b3 b5 s2
   have SP:=a0b (fun W' (q:Below wr.heap.size wr W')=>b1y l[k].1.a0e l[k].2 m[k].2 W' (s1.later q) (s2.later q) (by have:=HS.out l[k] (List.getElem_mem hlt);omega))
   obtain⟨f1,f2,e1⟩:=s1.form
   obtain⟨f3,f4,e2⟩:=s2.form
   rw[e1] at a4 SP
   rw[e2] at b4 SP
   clear s1 s2 e1 e2
   generalize l[k].1=x at *
   have n0:(x.id != x.id)=false:=by simp
   have n1:(x.kind != x.kind)=false:=by simp
   have n3:(x.a0c != x.a0c)=false:=by simp
   have n5:(x.a0Z != x.a0Z)=false:=by simp
   have HBd:=a0b (HB.out.drew)
   have SS:Hid (∀ W',Below wr.drew.heap.size wr.drew W'->W'.cell? ⟨g,k*6,none⟩=some (.int .i64 x.id)/\W'.cell? ⟨g,k*6+1,none⟩=some (.int .i64 x.kind)/\W'.cell? ⟨g,k*6+2,none⟩=some (.string x.a0k)/\W'.cell? ⟨g,k*6+3,none⟩=some (.int .i64 x.a0c)/\W'.cell? ⟨g,k*6+4,none⟩=some (.slice f1 x.a0e.length f2)/\W'.cell? ⟨g,k*6+5,none⟩=some (.int .i64 x.a0Z)/\W'.cell? ⟨g2,k*6,none⟩=some (.int .i64 x.id)/\W'.cell? ⟨g2,k*6+1,none⟩=some (.int .i64 x.kind)/\W'.cell? ⟨g2,k*6+2,none⟩=some (.string x.a0k)/\W'.cell? ⟨g2,k*6+3,none⟩=some (.int .i64 x.a0c)/\W'.cell? ⟨g2,k*6+4,none⟩=some (.slice f3 x.a0e.length f4)/\W'.cell? ⟨g2,k*6+5,none⟩=some (.int .i64 x.a0Z)):=fun W' q=>⟨a0a q a0,a0a q a1,a0a q a2,a0a q a3,a0a q a4,a0a q a5,a0a q b0,a0a q b1,a0a q b2,a0a q b3,a0a q b4,a0a q b5⟩
   clear HB
   go_upto_region 6 with fail
   go_region_held3 (fun W'=>W'.cell? ⟨g,k*6,none⟩=some (.int .i64 x.id)/\W'.cell? ⟨g,k*6+1,none⟩=some (.int .i64 x.kind)/\W'.cell? ⟨g,k*6+2,none⟩=some (.string x.a0k)/\W'.cell? ⟨g,k*6+3,none⟩=some (.int .i64 x.a0c)/\W'.cell? ⟨g,k*6+4,none⟩=some (.slice f1 x.a0e.length f2)/\W'.cell? ⟨g,k*6+5,none⟩=some (.int .i64 x.a0Z)/\W'.cell? ⟨g2,k*6,none⟩=some (.int .i64 x.id)/\W'.cell? ⟨g2,k*6+1,none⟩=some (.int .i64 x.kind)/\W'.cell? ⟨g2,k*6+2,none⟩=some (.string x.a0k)/\W'.cell? ⟨g2,k*6+3,none⟩=some (.int .i64 x.a0c)/\W'.cell? ⟨g2,k*6+4,none⟩=some (.slice f3 x.a0e.length f4)/\W'.cell? ⟨g2,k*6+5,none⟩=some (.int .i64 x.a0Z))
    (first
     |with_reducible exact SS.out _ HB6.out
     |exact⟨a0,a1,a2,a3,a4,a5,b0,b1,b2,b3,b4,b5⟩)
    (first
     |(go_at_call 35;refine (SP.out _ (a0q _)).mono ?_;rintro e w6 ⟨rfl,hb6⟩;have HB6:=a0b hb6;clear hb6))
   have HF:Hid (Below w.heap.size w w6):=a0j HBd.out HB6.out (Nat.le_refl _)
   obtain⟨c0,c1,c2,c3,c4,c5,d0,d1,d2,d3,d4,d5⟩:=SS.out _ HB6.out
   clear HB6 HBd SS SP a0 a1 a2 a3 a4 a5 b0 b1 b2 b3 b4 b5
   have n2:(x.a0k.toList != x.a0k.toList)=false:=by simp
   have n2':(x.a0k.toList==x.a0k.toList)=true:=by simp
   go_upto_region 7 with fail
   go_quiet (fail)
   go_wp2_with fail
   go_roundw
   case rel=>exact⟨k+1,by omega,by go_num,a9Q HF.out _⟩
   case measure=>simp[intOf];omega
  ·have hlt':¬ (k:Int)<(l.length:Int):=by omega
   go_wp2_with fail
   go_ret
   exact⟨rfl,HB.out⟩
theorem b3D{W:World}{b:Nat}{x:Ent}{v:Value}(h:W.heap[b]?=some (a4J x v)):W.cell? ⟨b,0,none⟩=some (.int .i64 x.id)/\W.cell? ⟨b,1,none⟩=some (.int .i64 x.kind)/\W.cell? ⟨b,2,none⟩=some (.string x.a0k)/\W.cell? ⟨b,3,none⟩=some (.int .i64 x.a0c)/\W.cell? ⟨b,4,none⟩=some v/\W.cell? ⟨b,5,none⟩=some (.int .i64 x.a0Z):=by
 unfold a4J at h
 refine⟨?_,?_,?_,?_,?_,?_⟩ <;> (simp only[World.cell?,h];rfl)
theorem b8S{s:St}(hs:Inv s){nm:ByteArray}{u fr til:Int}(hi:Inv (Desk.a2t s ⟨0,1,nm,u,[(fr,til)],0⟩).1){l1 l2:List (Ent × Value)}(h1:l1.map (·.1)=a2x nm 0 1048320 s.es)(h2:l2.map (·.1)=a2x nm 0 1048320 (Desk.a2t s ⟨0,1,nm,u,[(fr,til)],0⟩).1.es):
  l2.length=l1.length+1/\(∃ k,∃ h:k<l2.length,l2[k].1.id=s.given+1)/\∀ (k:Nat) (h:k<l2.length),l2[k].1.id=s.given+1->l2[k].1=⟨s.given+1,1,nm,u,[(fr,til)],0⟩:=by
 have pm:=Desk.c0u (s:=s) (e:=⟨0,1,nm,u,[(fr,til)],0⟩) hi (by show (1:Int)≠3;decide)
 rw[<- h2,<- h1] at pm
 have hl:=pm.length_eq
 simp only[List.length_map,List.length_cons] at hl
 have hin:(⟨s.given+1,1,nm,u,[(fr,til)],0⟩:Ent)∈l2.map (·.1):=pm.mem_iff.2 (List.mem_cons_self ..)
 refine⟨hl,?_,fun k h e=>?_⟩
 ·obtain⟨q,hq,eq⟩:=List.mem_map.1 hin
  obtain⟨k,hk,ek⟩:=List.getElem_of_mem hq
  exact⟨k,hk,by rw[ek,eq]⟩
 ·have hm:l2[k].1∈l2.map (·.1):=List.mem_map.2 ⟨_,List.getElem_mem h,rfl⟩
  rcases List.mem_cons.1 (pm.mem_iff.1 hm) with c|c
  ·exact c
  ·exfalso
   rw[h1] at c
   have hi0:=hs.idb _ (Desk.b6I hs nm c).1
   omega
theorem b5a(a b:Int)(raw:Value)(ss:List ByteArray)(more:ByteArray)(w:World)(he:Env w)(hraw:TV w raw ss)(hm:more.size<=9223372036854775807)(ha1:-9223372036854775808<=a)(ha2:a<=9223372036854775807)(hb1:-9223372036854775808<=b)(hb2:b<=9223372036854775807):
  Calls Tryz.prog 6 #[.int .i64 a,.int .i64 b,raw,.string more] w fun e w'=>e=.returned (.bool true)/\Below w.heap.size w w':=by
 obtain⟨rav,racap,rfl⟩:=hraw.form
 have RM:=a0b (c2p a b w ha1 ha2 hb1 hb2)
 obtain⟨x1,x2⟩:=a6G (c:=a) (n:=4) (by omega)
 obtain⟨y1,y2⟩:=a6G (c:=b) (n:=9) (by omega)
 have A1:1<=1+a2s a 4:=by omega
 have A2:1+a2s a 4<=9:=by omega
 have B1:1<=1+a2s b 9:=by omega
 have B2:1+a2s b 9<=9:=by omega
 have HE:=a0b he
 have HR:=a0b hraw
 generalize 1+a2s a 4=A at *
 generalize 1+a2s b 9=B at *
 clear x1 x2 y1 y2 he hraw ha1 ha2 hb1 hb2
 go_enter Tryz.func6,Tryz.ntmps6
 go_upto_region 2 with (first
  |(go_at_call 16;refine RM.out.mono ?_;rintro e w1 ⟨rfl,hb1⟩))
 change Code.wp _ _ _ _ (w1.alloc (a1T A B))
 have hX:Below w.heap.size w (w1.alloc (a1T A B)):=hb1.trans (((Below.refl w1.heap.size w1).alloc (Nat.le_refl _) _).mono hb1.size)
 have hro:=a0p w1 (a1T A B)
 have hrl:w1.heap.size<(w1.alloc (a1T A B)).heap.size:=by simp
 have HX:=a0b hX
 have hX10:=Nat.le_trans HE.out.size hX.size
 have RO:Hid (∀ W',Below (w1.alloc (a1T A B)).heap.size (w1.alloc (a1T A B)) W'->W'.cell? ⟨w1.heap.size,0,none⟩=some (.int .i64 A)/\W'.cell? ⟨w1.heap.size,1,none⟩=some (.int .i64 B)):=fun W' k=>by
  have h:=(k.block w1.heap.size hrl).trans hro
  unfold a1T at h
  obtain⟨x,y,_⟩:=b0q h
  exact⟨x,y⟩
 have BG:=a0b (c1y _ (HE.out.later hX) A B ⟨A1,A2⟩ ⟨B1,B2⟩)
 have HT:=a0b (HR.out.below hX)
 clear hX hro hrl RM hb1 HR HE
 generalize w1.alloc (a1T A B)=X at *
 generalize w1.heap.size=Rb at *
 obtain⟨ra,rb⟩:=RO.out X (Below.refl _ _)
 go_upto_region 5 with (first
  |(go_at_call 17;refine BG.out.mono ?_;rintro e w2 ⟨p,dk,r,col,rfl,D2⟩;have HD:=a0b (CX.of D2);clear D2 BG ra rb))
 go_upto_region 8 with (first
  |(go_at_call 18;refine (CX.played HD.out HT.out).mono ?_;rintro e w3 ⟨s,rfl,hAf,hD3⟩;have HAf:=a0b hAf;replace HD:=a0b hD3;clear hAf hD3))
 go_upto_region 10 with fail
 change Code.wp _ _ _ _ (w3.alloc a1B)
 replace HD:=a0b (HD.out.alloc a1B)
 generalize w3.alloc a1B=W3 at HD ⊢
 generalize w3.heap.size=Nb at HD ⊢
 clear HT
 have UA:Hid (∀ i,a0h (a1A i) s.ts=a0h (a1A i) (a3Z A B).ts/\a0h (a1A i) s.ts≠0):=fun i=>by
  have h:=HAf.out.ts (a1A i) (b2x A1 B1 i)
  exact⟨h,by rw[h];exact b2x A1 B1 i⟩
 have hgv:s.given<=30:=by have:=HAf.out.gv;have e:(a3Z A B).given=0:=rfl;omega
 clear HAf
 have PU:Hid (∀ i,a1Q (a1A i) s.es 0 1048320<=a0h (a1A i) (a3Z A B).ts):=fun i=>by
  rw[<- (UA.out i).1]
  exact b0A HD.out.inv (a1A i) (by omega)
 have RDS:Hid (∀ i,Reads ((((⟨#[112,101,97,107,32]⟩:ByteArray)++a1A i)++(⟨#[32,48,32]⟩:ByteArray))++Txt.a0x 1048320) (.iface 170 (.agg #[.string (a1A i),.int .i64 0,.int .i64 1048320]))):=fun i=>b7Z (a3x i) ⟨by omega,by omega⟩ ⟨by omega,by omega⟩ (by
  have z0:(Txt.a0x 0).data.toList=[48]:=by decide +kernel
  rw[z0]
  rcases a7y i with e|e <;> (rw[e];simp only[Txt.a1X,List.append_assoc];rfl))
 have h10:10<=X.heap.size:=hX10
 go_loopw [14,15,16,17,18] (fun vi _ _ _ _ wr=>∃ i:Nat,i<=2/\vi=.int .i64 i/\CX X wr p dk s [(Nb,a1B)] []) (fun vi _ _ _ _ _=>2-(intOf vi).toNat)
 case atStart=>exact⟨0,by omega,rfl,HD.out⟩
 case round =>
  obtain⟨i,hi,rfl,hcx⟩:=hrel
  have HC:=a0b hcx
  clear hcx HD
  by_cases hlt:i<2
  ·have hlt':(i:Int)<2:=by omega
   have cn:=a6P (HC.out.kb (List.mem_cons_self ..)) i hlt
   go_upto_region 13 with (first
    |(go_at_call 19;refine (CX.entries HC.out (a1A i) (a3x i) (UA.out i).2).mono ?_;rintro e w4 ⟨l,la,lc,rfl,hents,hc4⟩;have HE:=a0b hents;replace HC:=a0b hc4;clear hc4 hents cn))
   refine c1T hlt h10 (RDS.out i) (UA.out i).2 HC.out ?_
   intro u59 u60 u61 u62 u63 u64 u65 u66 u67 u68 b v1 v2 v3 v4 W4 hc5
   replace HC:=a0b hc5
   clear hc5
   have PK:=a0b (b3i W4 (.slice la l.length lc) l (HC.out.ev (List.mem_cons_self ..)) (a6T HC.out.inv HE.out) 0 1048320)
   have EP:Hid (b0g (a1m l) 0 1048320=a1Q (a1A i) s.es 0 1048320):=by
    show _=_
    unfold a1m
    rw[HE.out]
    exact Desk.a5y HC.out.inv (a1A i) (by omega)
   rw[EP.out] at PK
   go_upto_region 15 with (first
    |(go_at_call 22;refine PK.out.mono ?_;rintro e w5 ⟨rfl,hb5⟩;replace HC:=a0b (HC.out.later hb5);clear hb5 PK))
   obtain⟨e0,_,e2,_⟩:=a2T (HC.out.kb (List.mem_cons_self ..))
   have cn:=a6P (HC.out.kb (List.mem_cons_of_mem _ (List.mem_cons_self ..))) i hlt
   obtain⟨ra,rb⟩:=RO.out w5 HC.out.bl
   have hle:¬ (a0h (a1A i) (a3Z A B).ts<a1Q (a1A i) s.es 0 1048320):=by have:=PU.out i;omega
   have UN:=a0b (fun W'=>a7B A B (a1A i) (a7y i) W')
   generalize a0h (a1A i) (a3Z A B).ts=un at hle UN
   generalize a1Q (a1A i) s.es 0 1048320=pn at *
   have HBd:=a0b HC.out.drew
   have SS:Hid (∀ W',Below w5.drew.heap.size w5.drew W'->W'.cell? ⟨b,0,none⟩=some (.int .i64 0)/\W'.cell? ⟨b,2,none⟩=some (.int .i64 pn)/\W'.cell? ⟨Rb,0,none⟩=some (.int .i64 A)/\W'.cell? ⟨Rb,1,none⟩=some (.int .i64 B)/\W'.cell? ⟨Nb,i,none⟩=some (.string (a1A i))):=fun W' k=>⟨a0a k e0,a0a k e2,a0a k ra,a0a k rb,a0a k cn⟩
   have hpn:(pn != pn)=false:=by simp
   have hd:decide (un<pn)=false:=decide_eq_false hle
   clear hle
   go_region_held3 (fun w'=>w'.cell? ⟨b,0,none⟩=some (.int .i64 0)/\w'.cell? ⟨b,2,none⟩=some (.int .i64 pn)/\w'.cell? ⟨Rb,0,none⟩=some (.int .i64 A)/\w'.cell? ⟨Rb,1,none⟩=some (.int .i64 B)/\w'.cell? ⟨Nb,i,none⟩=some (.string (a1A i)))
    (first
     |with_reducible exact SS.out _ HB6.out
     |exact⟨e0,e2,ra,rb,cn⟩)
    (first
     |(go_at_call 23;refine (UN.out _).mono ?_;rintro e w6 ⟨rfl,hb6⟩;have HB6:=a0b hb6;clear hb6))
   have HF:Hid (CX X w6 p dk s [(Nb,a1B)] []):=(HBd.out.later HB6.out).less (fun q hq=>List.mem_cons_of_mem _ hq) (by simp)
   clear HBd HB6 SS HC UN EP HE hd hpn e0 e2 ra rb cn
   go_wp2_with fail
   go_roundw
   case rel=>exact⟨i+1,by omega,by go_num,HF.out⟩
   case measure=>simp[intOf];omega
  ·have hlt':¬ (i:Int)<2:=by omega
   clear RDS PU
   go_upto_region 18 with fail
   change Code.wp _ _ _ _ (wr.alloc (a8o more 0))
   have AK:=a0b (b0I (b6W HC.out.env more hm))
   have HL:=a0b (And.intro HC.out.pl HC.out.bl.size)
   have hNb:=(Array.getElem?_eq_some_iff.1 (HC.out.kb (List.mem_cons_self ..))).1
   go_upto_region 19 with (first
    |(go_at_call 24;refine AK.out.mono ?_;rintro e w7 ⟨nm,u,fr,til,rfl,hak,hfw⟩))
   change Code.wp _ _ _ _ (w7.alloc (a1P nm u fr til))
   obtain⟨fa,hfd⟩:=hfw.fd
   have hlt7:wr.heap.size<w7.heap.size:=(Array.getElem?_eq_some_iff.1 hfd.b).1
   have HX7:Hid (CX X (w7.alloc (a1P nm u fr til)) p dk s [(w7.heap.size,a1P nm u fr til),(wr.heap.size,a8o more fa),(Nb,a1B)] []):=by
    have hz:=HC.out.alloc (a8o more 0)
    have h2:=hz.put' ⟨h10,HL.out.2,by have:=HL.out.1;omega,fun q hq=>by have:q=(Nb,a1B):=List.mem_singleton.1 hq;subst this;show Nb≠_;omega,fun q hq=>by cases hq⟩ hfw.off hfd.b
    exact h2.alloc _
   have OF:Hid (∀ o o',Own X wr.heap.size p [(w7.heap.size,o),(Nb,o')] []):=fun o o'=>⟨h10,HL.out.2,by have:=HL.out.1;omega,fun q hq=>by
    rcases List.mem_cons.1 hq with rfl|hq
    ·show w7.heap.size≠_;omega
    ·have:q=(Nb,o'):=List.mem_singleton.1 hq
     subst this
     show Nb≠_;omega,fun q hq=>by cases hq⟩
   have hfa:=hfd.le
   have OX:Hid (∀ o o',Own X w7.heap.size p [(wr.heap.size,o),(Nb,o')] []):=fun o o'=>⟨h10,Nat.le_trans HL.out.2 (by omega),by have:=HL.out.1;omega,fun q hq=>by
    rcases List.mem_cons.1 hq with rfl|hq
    ·show wr.heap.size≠_;omega
    ·have:q=(Nb,o'):=List.mem_singleton.1 hq
     subst this
     show Nb≠_;omega,fun q hq=>by cases hq⟩
   have HK:=a0b hak
   clear AK HC hfd hfw hak hlt7 hNb HL
   generalize w7.alloc (a1P nm u fr til)=V at HX7 ⊢
   generalize w7.heap.size=xb at *
   generalize wr.heap.size=F at *
   replace HX7:=a0b HX7.out.swap
   go_upto_region 20 with (first
    |(go_at_call 25;refine (CX.next HX7.out (OF.out _ _) hfa hm 2 (by omega) (by omega)).mono ?_;rintro e w8 ⟨v8,fb,rfl,p0,p1,hfb,hc8⟩;obtain⟨n8,rfl⟩:=Int.eq_ofNat_of_zero_le p0;have cn:=a6P (hc8.kb (b:=Nb) (List.mem_cons_of_mem _ (List.mem_cons_of_mem _ (List.mem_cons_self ..)))) n8 (by omega);obtain⟨c0,_,_,_,cf⟩:=a1y (hc8.kb (b:=xb) (List.mem_cons_of_mem _ (List.mem_cons_self ..)));have HX8:=a0b hc8;clear hc8))
   have HX9:=a0b ((HX8.out.swap.put' (OX.out _ _) (Off.set0 xb w8 0 (.string (a1A n8))) (a2A (HX8.out.kb (b:=xb) (List.mem_cons_of_mem _ (List.mem_cons_self ..))) _)).swap)
   have hn8:n8<2:=by omega
   clear HX7 HX8 cn c0 cf p0 p1 hfa
   generalize w8.setCell ⟨xb,0,none⟩ (.string (a1A n8))=V9 at HX9 ⊢
   change Hid (CX X V9 p dk s [(F,a8o more fb),(xb,a1P (a1A n8) u fr til),(Nb,a1B)] []) at HX9
   have u1:=HK.out.u1
   have u3:=HK.out.u3
   have f0:=HK.out.f0
   have f1:=HK.out.f1
   clear HK
   have HXd:=a0b HX9.out.drew
   have c2:=(a1y (HXd.out.kb (b:=xb) (List.mem_cons_of_mem _ (List.mem_cons_self ..)))).2.2.1
   have kf:IntKind.i64.wrap (fr+1)=fr+1:=a0G (by omega) (by omega)
   go_region_held3 (fun w'=>w'.cell? ⟨xb,2,none⟩=some (.int .i64 fr))
    (first
     |exact c2b
     |exact AS _
     |exact c2)
    (first
     |(go_at_call 25;refine (CX.next HXd.out (OF.out _ _) hfb hm 50 (by omega) (by omega)).mono ?_;rintro e w10 ⟨v10,fc,rfl,p0,p1,hfc,hc10⟩;obtain⟨_,_,c2b,c3b,cfb⟩:=a1y (hc10.kb (b:=xb) (List.mem_cons_of_mem _ (List.mem_cons_self ..)));have kg:IntKind.i64.wrap (fr+1+v10)=fr+1+v10:=a0G (by omega) (by omega);have HX10:=a0b hc10;clear hc10;have AS:=fun x=>(a1y (a2A (i:=3) (HX10.out.kb (b:=xb) (List.mem_cons_of_mem _ (List.mem_cons_self ..))) (.int .i64 x))).2.2.1))
   have HX11:=a0b (HX10.out.swap.put' (OX.out _ _) (Off.set0 xb w10 3 (.int .i64 (fr+1+v10))) (a2A (HX10.out.kb (b:=xb) (List.mem_cons_of_mem _ (List.mem_cons_self ..))) _))
   have t0:fr<fr+1+v10:=by omega
   clear HX9 HXd HX10 c2 c2b c3b cfb kf kg AS p0 p1 hfb OF OX
   generalize w10.setCell ⟨xb,3,none⟩ (.int .i64 (fr+1+v10))=V11 at HX11 ⊢
   change Hid (CX X V11 p dk s [(xb,a1P (a1A n8) u fr (fr+1+v10)),(F,a8o more fc),(Nb,a1B)] []) at HX11
   generalize fr+1+v10=ti at t0 HX11 ⊢
   go_upto_region 21 with fail
   obtain⟨c0,c1,c2,c3,_⟩:=a1y (HX11.out.kb (List.mem_cons_self ..))
   obtain⟨ra,rb⟩:=RO.out V11 HX11.out.bl
   have UN:=a0b (fun W'=>a7B A B (a1A n8) (a7y n8) W')
   generalize hun:a0h (a1A n8) (a3Z A B).ts=un at UN
   have HUN:=a0b hun
   clear hun
   have HXd:=a0b HX11.out.drew
   have SS:Hid (∀ W',Below V11.drew.heap.size V11.drew W'->W'.cell? ⟨xb,0,none⟩=some (.string (a1A n8))/\W'.cell? ⟨xb,1,none⟩=some (.int .i64 u)/\W'.cell? ⟨xb,3,none⟩=some (.int .i64 ti)/\W'.cell? ⟨Rb,0,none⟩=some (.int .i64 A)/\W'.cell? ⟨Rb,1,none⟩=some (.int .i64 B)):=fun W' k=>⟨a0a k c0,a0a k c1,a0a k c3,a0a k ra,a0a k rb⟩
   have DN:Hid (∀ W',CX X W' p dk s [] []->Below w.heap.size w W'):=fun W' k=>HX.out.trans (k.bl.mono HX.out.size)
   by_cases hti:1048320<ti
   ·have hd:decide (1048320<ti)=true:=decide_eq_true hti
    clear hti
    have HF:Hid (∀ n,Below w.heap.size w (V11.drewN n)):=fun n=>DN.out _ ((HX11.out.later (a9Q (Below.refl _ _) n)).less (by simp) (by simp))
    clear SS HXd HX11 UN DN
    go_quiet (fail)
    go_wp2_with fail
    go_ret
    exact⟨rfl,HF.out _⟩
   ·have hd:decide (1048320<ti)=false:=decide_eq_false hti
    by_cases huu:un<u
    ·have hd2:decide (un<u)=true:=decide_eq_true huu
     clear huu
     go_region_held3 (fun W'=>W'.cell? ⟨xb,0,none⟩=some (.string (a1A n8))/\W'.cell? ⟨xb,1,none⟩=some (.int .i64 u)/\W'.cell? ⟨xb,3,none⟩=some (.int .i64 ti)/\W'.cell? ⟨Rb,0,none⟩=some (.int .i64 A)/\W'.cell? ⟨Rb,1,none⟩=some (.int .i64 B))
      (first
       |with_reducible exact SS.out _ HB12.out
       |exact⟨c0,c1,c3,ra,rb⟩)
      (first
       |(go_at_call 23;refine (UN.out _).mono ?_;rintro e w12 ⟨rfl,hb12⟩;have HB12:=a0b hb12;clear hb12))
     have HF:=a0b (DN.out _ ((HXd.out.later HB12.out).less (by simp) (by simp)))
     clear SS HB12 HXd HX11 UN DN
     go_wp2_with fail
     go_ret
     exact⟨rfl,HF.out⟩
    ·have hd2:decide (un<u)=false:=decide_eq_false huu
     go_region_held3 (fun W'=>W'.cell? ⟨xb,0,none⟩=some (.string (a1A n8))/\W'.cell? ⟨xb,1,none⟩=some (.int .i64 u)/\W'.cell? ⟨xb,3,none⟩=some (.int .i64 ti)/\W'.cell? ⟨Rb,0,none⟩=some (.int .i64 A)/\W'.cell? ⟨Rb,1,none⟩=some (.int .i64 B))
      (first
       |with_reducible exact SS.out _ HB12.out
       |exact⟨c0,c1,c3,ra,rb⟩)
      (first
       |(go_at_call 23;refine (UN.out _).mono ?_;rintro e w12 ⟨rfl,hb12⟩;have HB12:=a0b hb12;clear hb12))
     have HC:=a0b ((HXd.out.later HB12.out).less (ks':=[(xb,a1P (a1A n8) u fr ti)]) (es':=[]) (by simp) (by simp))
     clear SS HB12 HXd HX11 UN c0 c1 c2 c3 ra rb hd hd2
     rename_i hHeld
     clear hHeld
     obtain⟨c0,c1,c2,c3,_⟩:=a1y (HC.out.kb (List.mem_cons_self ..))
     obtain⟨ra,rb⟩:=RO.out w12 HC.out.bl
     have hus:a0h (a1A n8) (a3Z A B).ts=a0h (a1A n8) s.ts:=(UA.out n8).1.symm
     have u2:u<=a0h (a1A n8) s.ts:=by rw[<- hus,HUN.out];omega
     have FI:=a0b (b1Y HC.out A B (a1A n8) (a7y n8) (a3x n8) (UA.out n8).2 hus u fr ti (by omega) (by omega) t0)
     have BS:=a0b (Desk.c1u HC.out.inv (nm:=a1A n8) (u:=u) (fr:=fr) (til:=ti) (by omega) (by omega) u2 f0 t0 (by omega) (by omega))
     clear hus u2 HUN huu
     go_upto_region 24 with (first
      |(go_at_call 26;refine FI.out.mono ?_;rintro e w13 ⟨rfl,hc13⟩;replace HC:=a0b hc13;clear hc13 FI c0 c1 c2 c3 ra rb))
     have c0:=(a1y (HC.out.kb (List.mem_cons_self ..))).1
     go_upto_region 25 with (first
      |(go_at_call 19;refine (CX.entries HC.out (a1A n8) (a3x n8) (UA.out n8).2).mono ?_;rintro e w14 ⟨l1,la,lc,rfl,hents,hc14⟩;have HE1:=a0b hents;replace HC:=a0b hc14;clear hc14 hents c0))
     obtain⟨c0,c1,c2,c3,_⟩:=a1y (HC.out.kb (List.mem_cons_self ..))
     have zk:=b3U (nm:=a1A n8) (u:=u) (fr:=fr) (til:=ti) (by rw[(a3x n8).s];omega) ⟨by omega,by omega⟩ ⟨by omega,by omega⟩ ⟨by omega,by omega⟩
     have TX:=a0b (b5S w14 HC.out.env (a1A n8) u fr ti (by rw[(a3x n8).s];omega) ⟨by omega,by omega⟩ ⟨by omega,by omega⟩ ⟨by omega,by omega⟩)
     have RB:Hid (Reads ((⟨#[98,111,111,107,32]⟩:ByteArray)++c5B (a1A n8) u fr ti) (.iface 148 (.agg #[.string (a1A n8),.int .i64 u,.int .i64 fr,.int .i64 ti]))):=b8N (a3x n8) ⟨by omega,by omega⟩ ⟨by omega,by omega⟩ ⟨by omega,by omega⟩ (by rw[c3J];rfl)
     have LB:Hid (Desk.a1O (.enter 1 (a1A n8) u fr ti 0)):=⟨.inl ⟨rfl,rfl⟩,by omega,by omega,by omega,by omega,by omega,by omega⟩
     have LVB:Hid (LV (.iface 148 (.agg #[.string (a1A n8),.int .i64 u,.int .i64 fr,.int .i64 ti])) (.enter 1 (a1A n8) u fr ti 0)):=.book (a1A n8) (by rw[(a3x n8).s];omega) u fr ti
     generalize hk:c5B (a1A n8) u fr ti=kS at TX RB zk
     clear hk
     have HIS:=a0b HC.out.inv
     cases hfit:Desk.a1e s.ts s.es (a1A n8) u [(fr,ti)]
     ·have ST:=a0b (BS.out.2 hfit)
      clear BS
      go_upto_region 26 with (first
       |(go_at_call 27;refine TX.out.mono ?_;rintro e w15 ⟨rfl,hb15⟩;replace HC:=a0b (HC.out.later hb15);clear hb15 TX)
       |(go_at_call 20;refine (CX.line HC.out RB.out LVB.out LB.out ST.out).mono ?_;rintro e w16 ⟨l9,a1,a2,a3,a4,m2,d1,d2,d3,d4,rfl,_,hc16,_⟩;dsimp only[Desk.Rep.error,List.length_nil];replace HC:=a0b hc16;clear hc16))
      change Code.wp _ _ _ _ (w16.alloc (a5w 8 0 0 (.slice a1 l9.length d1) (.slice a2 m2 d2) (.slice a3 0 d3) (.slice a4 0 d4)))
      replace HC:=a0b ((HC.out.alloc (a5w 8 0 0 (.slice a1 l9.length d1) (.slice a2 m2 d2) (.slice a3 0 d3) (.slice a4 0 d4))).less (es':=[(.slice la l1.length lc,l1)]) (fun q hq=>hq) (fun q hq=>List.mem_cons_of_mem _ hq))
      clear ST RB LB LVB c0 c1 c2 c3
      generalize w16.alloc (a5w 8 0 0 (.slice a1 l9.length d1) (.slice a2 m2 d2) (.slice a3 0 d3) (.slice a4 0 d4))=V17 at HC ⊢
      generalize w16.heap.size=yb at HC ⊢
      have c0:=(a1y (HC.out.kb (b:=xb) (List.mem_cons_of_mem _ (List.mem_cons_self ..)))).1
      go_upto_region 29 with (first
       |(go_at_call 19;refine (CX.entries HC.out (a1A n8) (a3x n8) (UA.out n8).2).mono ?_;rintro e w18 ⟨l2,lb,ld,rfl,hents,hc18⟩;have HE2:=a0b hents;replace HC:=a0b hc18;clear hc18 hents c0))
      have SE:=a0b (a8V l1 l2 _ _ w18 (HC.out.ev (List.mem_cons_of_mem _ (List.mem_cons_self ..))) (HC.out.ev (List.mem_cons_self ..)) (HE1.out.trans HE2.out.symm) (by have:=(a6T HC.out.inv HE1.out).1;omega) (fun q hq=>((a6T HC.out.inv HE1.out).2 q hq).2.2))
      go_upto_region 31 with (first
       |(go_at_call 28;refine SE.out.mono ?_;rintro e w19 ⟨rfl,hb19⟩;replace HC:=a0b (HC.out.later hb19);clear hb19 SE))
      obtain⟨e0,_,e2,_⟩:=a2T (HC.out.kb (List.mem_cons_self ..))
      have HF:=a0b (DN.out _ (HC.out.less (by simp) (by simp)))
      clear HC DN
      go_wp2_with fail
      go_ret
      exact⟨rfl,HF.out⟩
     ·have ST:=a0b (BS.out.1 hfit)
      clear BS
      go_upto_region 26 with (first
       |(go_at_call 27;refine TX.out.mono ?_;rintro e w15 ⟨rfl,hb15⟩;replace HC:=a0b (HC.out.later hb15);clear hb15 TX)
       |(go_at_call 20;refine (CX.line HC.out RB.out LVB.out LB.out ST.out).mono ?_;rintro e w16 ⟨l9,a1,a2,a3,a4,m2,d1,d2,d3,d4,rfl,_,hc16,_⟩;dsimp only[Desk.a2t,Desk.Rep.num,List.length_nil];replace HC:=a0b hc16;clear hc16))
      change Code.wp _ _ _ _ (w16.alloc (a5w 0 0 (s.given+1) (.slice a1 l9.length d1) (.slice a2 m2 d2) (.slice a3 0 d3) (.slice a4 0 d4)))
      replace HC:=a0b ((HC.out.alloc (a5w 0 0 (s.given+1) (.slice a1 l9.length d1) (.slice a2 m2 d2) (.slice a3 0 d3) (.slice a4 0 d4))).less (es':=[(.slice la l1.length lc,l1)]) (fun q hq=>hq) (fun q hq=>List.mem_cons_of_mem _ hq))
      change Hid (CX X (w16.alloc (a5w 0 0 (s.given+1) (.slice a1 l9.length d1) (.slice a2 m2 d2) (.slice a3 0 d3) (.slice a4 0 d4))) p dk (Desk.a2t s ⟨0,1,a1A n8,u,[(fr,ti)],0⟩).1 [(w16.heap.size,a5w 0 0 (s.given+1) (.slice a1 l9.length d1) (.slice a2 m2 d2) (.slice a3 0 d3) (.slice a4 0 d4)),(xb,a1P (a1A n8) u fr ti)] [(.slice la l1.length lc,l1)]) at HC
      clear ST RB LB LVB c0 c1 c2 c3
      generalize w16.alloc (a5w 0 0 (s.given+1) (.slice a1 l9.length d1) (.slice a2 m2 d2) (.slice a3 0 d3) (.slice a4 0 d4))=V17 at HC ⊢
      generalize w16.heap.size=yb at HC ⊢
      have c0:=(a1y (HC.out.kb (b:=xb) (List.mem_cons_of_mem _ (List.mem_cons_self ..)))).1
      have UJ:Hid (a0h (a1A n8) (Desk.a2t s ⟨0,1,a1A n8,u,[(fr,ti)],0⟩).1.ts≠0):=(UA.out n8).2
      go_upto_region 29 with (first
       |(go_at_call 19;refine (CX.entries HC.out (a1A n8) (a3x n8) UJ.out).mono ?_;rintro e w18 ⟨l2,lb,ld,rfl,hents,hc18⟩;have HE2:=a0b hents;replace HC:=a0b hc18;clear hc18 hents c0))
      have PM:=a0b (b8S HIS.out HC.out.inv HE1.out HE2.out)
      have hlen:=PM.out.1
      have hl60:=(a6T HC.out.inv HE2.out).1
      go_upto_region 33 with fail
      have HCs:=a0b (HC.out.less (ks':=[(yb,a5w 0 0 (s.given+1) (.slice a1 l9.length d1) (.slice a2 m2 d2) (.slice a3 0 d3) (.slice a4 0 d4)),(xb,a1P (a1A n8) u fr ti)]) (es':=[(.slice lb l2.length ld,l2)]) (fun q hq=>hq) (fun q hq=>by rw[List.mem_singleton.1 hq];exact List.mem_cons_self ..))
      clear HC HE1 HE2 UJ
      generalize (Desk.a2t s ⟨0,1,a1A n8,u,[(fr,ti)],0⟩).1=s1 at HCs
      have e1s:((l2.length:Int)==(l1.length:Int)+1)=true:=by rw[beq_iff_eq];omega
      have kl:IntKind.i64.wrap ((l1.length:Int)+1)=(l1.length:Int)+1:=a0G (by omega) (by omega)
      have e3s:((a1A n8).toList==(a1A n8).toList)=true:=by simp
      have e4s:(u==u)=true:=by simp
      have e5s:(fr==fr)=true:=by simp
      have e6s:(ti==ti)=true:=by simp
      go_loopw [28,29] (fun vi _ wr'=>∃ j:Nat,j<=l2.length/\vi=.int .i64 j/\(∀ (k:Nat) (h:k<l2.length),k<j->l2[k].1.id≠s.given+1)/\CX X wr' p dk s1 [(yb,a5w 0 0 (s.given+1) (.slice a1 l9.length d1) (.slice a2 m2 d2) (.slice a3 0 d3) (.slice a4 0 d4)),(xb,a1P (a1A n8) u fr ti)] [(.slice lb l2.length ld,l2)]) (fun vi _ _=>l2.length-(intOf vi).toNat)
      case atStart=>exact⟨0,Nat.zero_le _,rfl,fun k h h0=>absurd h0 (by omega),HCs.out⟩
      case round =>
       obtain⟨j,hj,rfl,hno,hcx⟩:=hrel
       have HC:=a0b hcx
       have HNO:=a0b hno
       clear hcx hno HCs
       by_cases hjl:j<l2.length
       ·have hjl':(j:Int)<(l2.length:Int):=by omega
        have hev:=HC.out.ev (List.mem_cons_self ..)
        obtain⟨g,cap,e,x0,x1,x2,x3,x4,x5⟩:=hev.cell j hjl
        simp only[Value.slice.injEq,true_and] at e
        obtain⟨rfl,rfl⟩:=e
        have hsp:=hev.sp l2[j] (List.getElem_mem hjl)
        obtain⟨q1,q2,eq⟩:=hsp.form
        rw[eq] at x4
        have HSP:=a0b hsp
        clear hev hsp
        by_cases hid:l2[j].1.id=s.given+1
        ·have hx:=PM.out.2.2 j hjl hid
         have hsp:=HSP.out
         rw[hx] at hsp x0 x1 x2 x3 x4 x5
         obtain⟨g3,cap3,e,y0,y1⟩:=hsp.cell 0 (by simp)
         rw[eq,hx] at e
         clear hid hx eq HSP hsp HNO
         simp only[List.length_cons,List.length_nil] at x4 e
         simp only[Value.slice.injEq,true_and] at e
         obtain⟨rfl,rfl⟩:=e
         have y0':wr.cell? ⟨g3,0,none⟩=some (.int .i64 fr):=y0
         have y1':wr.cell? ⟨g3,1,none⟩=some (.int .i64 ti):=y1
         clear y0 y1
         go_upto_region 36 with fail
         change Code.wp _ _ _ _ (wr.alloc (a4J ⟨s.given+1,1,a1A n8,u,[(fr,ti)],0⟩ (.slice (some ⟨g3,0,none⟩) 1 q2)))
         have kbn:Below wr.heap.size wr (wr.alloc (a4J ⟨s.given+1,1,a1A n8,u,[(fr,ti)],0⟩ (.slice (some ⟨g3,0,none⟩) 1 q2))):=(Below.refl _ _).alloc (Nat.le_refl _) _
         replace HC:=a0b (HC.out.alloc (a4J ⟨s.given+1,1,a1A n8,u,[(fr,ti)],0⟩ (.slice (some ⟨g3,0,none⟩) 1 q2)))
         have z0:=a0a kbn y0'
         have z1:=a0a kbn y1'
         clear kbn y0' y1' x0 x1 x2 x3 x4 x5
         generalize wr.alloc (a4J ⟨s.given+1,1,a1A n8,u,[(fr,ti)],0⟩ (.slice (some ⟨g3,0,none⟩) 1 q2))=V19 at HC z0 z1 ⊢
         generalize wr.heap.size=eb at HC ⊢
         obtain⟨o0,o1,o2,o3,o4,o5⟩:=b3D (HC.out.kb (List.mem_cons_self ..))
         obtain⟨e0,_,e2,_⟩:=a2T (HC.out.kb (b:=yb) (List.mem_cons_of_mem _ (List.mem_cons_self ..)))
         obtain⟨c0,c1,c2,c3,_⟩:=a1y (HC.out.kb (b:=xb) (List.mem_cons_of_mem _ (List.mem_cons_of_mem _ (List.mem_cons_self ..))))
         have HF:Hid (∀ n,Below w.heap.size w (V19.drewN n)):=fun n=>HX.out.trans (((HC.out.later (a9Q (Below.refl _ _) n)).bl).mono HX.out.size)
         have e7s:(s.given+1==s.given+1)=true:=by simp
         clear HC PM
         go_upto_region 37 with fail
         go_quiet (fail)
         go_wp2_with fail
         go_ret
         exact⟨rfl,HF.out _⟩
        ·have hidb:(l2[j].1.id==s.given+1)=false:=by simpa using hid
         have HN:Hid (∀ (k:Nat) (h:k<l2.length),k<j+1->l2[k].1.id≠s.given+1):=fun k h hk=>by
          by_cases ek:k=j
          ·subst ek;exact hid
          ·exact HNO.out k h (by omega)
         go_upto_region 36 with fail
         change Code.wp _ _ _ _ (wr.alloc (a4J l2[j].1 (.slice q1 l2[j].1.a0e.length q2)))
         have hob:=a0p wr (a4J l2[j].1 (.slice q1 l2[j].1.a0e.length q2))
         replace HC:=a0b (HC.out.alloc (a4J l2[j].1 (.slice q1 l2[j].1.a0e.length q2)))
         obtain⟨o0,_⟩:=b3D hob
         have e2:=(a2T (HC.out.kb (b:=yb) (List.mem_cons_of_mem _ (List.mem_cons_self ..)))).2.2.1
         have HF:=a0b (HC.out.less (ks':=[(yb,a5w 0 0 (s.given+1) (.slice a1 l9.length d1) (.slice a2 m2 d2) (.slice a3 0 d3) (.slice a4 0 d4)),(xb,a1P (a1A n8) u fr ti)]) (fun q hq=>List.mem_cons_of_mem _ hq) (fun q hq=>hq))
         clear HC hob x0 x1 x2 x3 x4 x5 hid HNO HSP eq
         generalize wr.alloc (a4J l2[j].1 (.slice q1 l2[j].1.a0e.length q2))=V19 at HF o0 e2 ⊢
         generalize wr.heap.size=eb at o0 ⊢
         generalize l2[j].1.id=idj at o0 hidb
         go_wp2_with fail
         go_roundw
         case rel=>exact⟨j+1,by omega,by go_num,HN.out,HF.out⟩
         case measure=>simp[intOf];omega
       ·exfalso
        obtain⟨k,h,e⟩:=PM.out.2.1
        exact HNO.out k h (by omega) e
end Go.Proofs.YtjfkfiffakbagaaGreatDoor
namespace Go.Proofs.YtjfkfiffakbagaaGreatDoor.Laid
def val:DataW Unit->Value
 |.lit (.int k n)=>.int k n
 |.lit (.string b)=>.string ⟨b.toArray⟩
 |_=>.bool false
def row:DataW Unit->List Value
 |.agg l=>l.map val
 |_=>[]
def rows:DataW Unit->List Value
 |.agg l=>l.flatMap row
 |_=>[]
def text:DataW Unit->Value
 |.iface _ (.ptr (.agg [d]))=>val d
 |_=>.bool false
def put(l:List Value):Obj->Obj
 |.cells _ t frozen=>.cells l.toArray t frozen
 |o=>o
def c6N(w:World):World :=
 { w with heap:=(((((((((w.heap.modify 0 (put (row Rows.laid_bookings_calendar_monthDays))).modify 1 (put (row Rows.laid_internal_strconv_uint64pow10))).modify 5 (put [.iface 365 (.pointer (some ⟨w.heap.size,0,none⟩))])).modify 6 (put [.iface 365 (.pointer (some ⟨w.heap.size+1,0,none⟩))])).modify 2 (put (row Rows.laid_bookings_lines_weekdays))).modify 3 (put (row Rows.laid_math_bits_deBruijn32tab))).modify 4 (put (row Rows.laid_math_bits_deBruijn64tab))).modify 8 (put (row Rows.laid_unicode_utf8_first))).modify 9 (put (rows Rows.laid_unicode_utf8_acceptRanges))).push (.cells #[text Rows.laid_strconv_ErrSyntax] 367) |>.push (.cells #[text Rows.laid_strconv_ErrRange] 367) }
theorem met(os:Os):laidMet Tryz.prog Rows.datesRow.laid ((c6N (World.holding Tryz.prog os ⟨#[],#[],[]⟩)).forCall (fun _ _=>0) ⟨#[],#[.slice none 0 0],[]⟩).memory :=
 laidMet_of_run' 8 (by kernel_rfl) (by kernel_rfl)
end Go.Proofs.YtjfkfiffakbagaaGreatDoor.Laid
namespace Go.Proofs.YtjfkfiffakbagaaGreatDoor.datesLaw
open Go.ChangeShapes Go.WideShapes Go.ChangeAt Go.RowKit
theorem own:ownKnob Tryz.prog.godebug=none:=by kernel_rfl
theorem c5b:laidOutB Tryz.prog=true:=by kernel_rfl
def b9r:String:=Rows.datesRow.named.getD 0 Rows.datesRow.func
theorem b8y:Tryz.prog.globalNamed b9r=some 0:=by kernel_rfl
theorem c3e:(Tryz.prog.globals[0]?).map (·.type)=some 199:=by kernel_rfl
theorem c3A:Tryz.prog.cellsOf 199=12:=by kernel_rfl
theorem c3D:Tryz.prog.cellsOf 3=1:=by kernel_rfl
theorem b7n:Tryz.prog.cellsOf 9=1:=by kernel_rfl
theorem table{W:World}(h:laidMetH Tryz.prog Rows.datesRow.laid W):Lib.TabIs Tryz.prog W b9r .i64 [31,28,31,30,31,30,31,31,30,31,30,31] :=
 Lib.tabIs_of_head b8y c3e Tryz.underlying199 Tryz.underlying3 c3D c3A h
theorem tab{W:World}(h:laidMetH Tryz.prog Rows.datesRow.laid W):Tab W :=
 ⟨(table h).cell b8y 0 (by decide),(table h).cell b8y 1 (by decide),(table h).cell b8y 2 (by decide),(table h).cell b8y 3 (by decide),(table h).cell b8y 4 (by decide),(table h).cell b8y 5 (by decide),(table h).cell b8y 6 (by decide),(table h).cell b8y 7 (by decide),(table h).cell b8y 8 (by decide),(table h).cell b8y 9 (by decide),(table h).cell b8y 10 (by decide),(table h).cell b8y 11 (by decide)⟩
end Go.Proofs.YtjfkfiffakbagaaGreatDoor.datesLaw
