/-
  Parts of the proof, one behind the other.
-/
import Derived.Test.YtjfkfiffakbagaaGreatDoorL19
import Derived.BigQuiet
set_option maxRecDepth 100000
set_option maxHeartbeats 8000000
namespace Go.Proofs.YtjfkfiffakbagaaGreatDoor
open Go.RowKit
open Desk (Ent St Ids kept a0C a0Q a1C a2e ofB a0y a2c Mid a1H a0z Inv a0h a2x a1q Rep b0g a1Q)
structure KB(W:World)(col:Nat->Option Col)(b:Nat)(o:Obj):Prop where
 h:W.heap[b]?=some o
 c:col b=none
theorem KB.later{W W':World}{col:Nat->Option Col}{b:Nat}{o:Obj}(h:KB W col b o)(k:Below W.heap.size W W'):KB W' col b o:=⟨(k.block b (Array.getElem?_eq_some_iff.1 h.h).1).trans h.h,h.c⟩
theorem KB.step{W W':World}{col col':Nat->Option Col}{b:Nat}{o:Obj}(h:KB W col b o)(st:Step anyS W.heap.size col col' W W'):KB W' col' b o:=by
 obtain⟨x,y⟩:=st.still h.h h.c
 exact⟨x,y⟩
def CX(X W:World)(p dk:Nat)(s:St)(ks:List (Nat × Obj))(es:List (Value × List (Ent × Value))):Prop :=
 ∃ (r:Raw) (col:Nat->Option Col),DG X W p dk s r col/\(∀ q∈ks,KB W col q.1 q.2)/\∀ q∈es,a3j W 0 col q.1 q.2
theorem CX.of{X W:World}{p dk:Nat}{s:St}{r:Raw}{col:Nat->Option Col}(h:DG X W p dk s r col):CX X W p dk s [] []:=⟨r,col,h,by simp,by simp⟩
theorem CX.later{X W W':World}{p dk:Nat}{s:St}{ks:List (Nat × Obj)}{es:List (Value × List (Ent × Value))}(h:CX X W p dk s ks es)(k:Below W.heap.size W W'):CX X W' p dk s ks es:=by
 obtain⟨r,col,d,b,e⟩:=h
 exact⟨r,col,d.later k,fun q hq=>(b q hq).later k,fun q hq=>(e q hq).step (S:=anyS) (B:=W.heap.size) (Step.below k) (Nat.le_refl _)⟩
theorem CX.drew{X W:World}{p dk:Nat}{s:St}{ks:List (Nat × Obj)}{es:List (Value × List (Ent × Value))}(h:CX X W p dk s ks es):CX X W.drew p dk s ks es:=h.later (a0q W)
theorem CX.alloc{X W:World}{p dk:Nat}{s:St}{ks:List (Nat × Obj)}{es:List (Value × List (Ent × Value))}(h:CX X W p dk s ks es)(o:Obj):CX X (W.alloc o) p dk s ((W.heap.size,o) :: ks) es:=by
 obtain⟨r,col,d,b,e⟩:=h
 have k:Below W.heap.size W (W.alloc o):=(Below.refl _ _).alloc (Nat.le_refl _) _
 refine⟨r,col,d.later k,fun q hq=>?_,fun q hq=>(e q hq).step (S:=anyS) (B:=W.heap.size) (Step.below k) (Nat.le_refl _)⟩
 rcases List.mem_cons.1 hq with rfl|hq
 ·exact⟨a0p W o,d.none (Nat.le_refl _)⟩
 ·exact (b q hq).later k
theorem CX.env{X W:World}{p dk:Nat}{s:St}{ks:List (Nat × Obj)}{es:List (Value × List (Ent × Value))}(h:CX X W p dk s ks es):Env W:=by
 obtain⟨r,col,d,_⟩:=h
 exact d.bd.env
theorem CX.inv{X W:World}{p dk:Nat}{s:St}{ks:List (Nat × Obj)}{es:List (Value × List (Ent × Value))}(h:CX X W p dk s ks es):Inv s:=by
 obtain⟨r,col,d,_⟩:=h
 exact d.inv
theorem CX.bl{X W:World}{p dk:Nat}{s:St}{ks:List (Nat × Obj)}{es:List (Value × List (Ent × Value))}(h:CX X W p dk s ks es):Below X.heap.size X W:=by
 obtain⟨r,col,d,_⟩:=h
 exact d.bl
theorem CX.kb{X W:World}{p dk:Nat}{s:St}{ks:List (Nat × Obj)}{es:List (Value × List (Ent × Value))}(h:CX X W p dk s ks es){b:Nat}{o:Obj}(hq:(b,o)∈ks):W.heap[b]?=some o:=by
 obtain⟨r,col,_,k,_⟩:=h
 exact (k _ hq).h
theorem CX.ev{X W:World}{p dk:Nat}{s:St}{ks:List (Nat × Obj)}{es:List (Value × List (Ent × Value))}(h:CX X W p dk s ks es){v:Value}{l:List (Ent × Value)}(hq:(v,l)∈es):EV W v l:=by
 obtain⟨r,col,_,_,e⟩:=h
 exact (e _ hq).ev
theorem CX.less{X W:World}{p dk:Nat}{s:St}{ks ks':List (Nat × Obj)}{es es':List (Value × List (Ent × Value))}(h:CX X W p dk s ks es)(hk:∀ q∈ks',q∈ks)(he:∀ q∈es',q∈es):CX X W p dk s ks' es':=by
 obtain⟨r,col,d,b,e⟩:=h
 exact⟨r,col,d,fun q hq=>b q (hk q hq),fun q hq=>e q (he q hq)⟩
theorem CX.step{X W W':World}{p dk:Nat}{s':St}{ks:List (Nat × Obj)}{es:List (Value × List (Ent × Value))}{r':Raw}{col col':Nat->Option Col}(b:∀ q∈ks,KB W col q.1 q.2)(e:∀ q∈es,a3j W 0 col q.1 q.2)(d:DG X W' p dk s' r' col')(st:Step anyS W.heap.size col col' W W'):CX X W' p dk s' ks es :=
 ⟨r',col',d,fun q hq=>(b q hq).step st,fun q hq=>(e q hq).step st (Nat.le_refl _)⟩
theorem a3j.low{w:World}{B:Nat}{col:Nat->Option Col}{v:Value}{l:List (Ent × Value)}(h:a3j w B col v l):a3j w 0 col v l :=
 ⟨a9c h.own (Nat.zero_le _),h.no,fun p hp=>⟨⟨a9c (h.sp p hp).1.own (Nat.zero_le _),(h.sp p hp).1.no⟩,(h.sp p hp).2⟩⟩
def CDo(X W:World)(p dk:Nat)(ks:List (Nat × Obj))(es:List (Value × List (Ent × Value)))(q:St × Rep)(e:Ending)(W':World):Prop :=
 ∃ (l:List (Ent × Value)) (a1 a2 a3 a4:Option Addr) (n2 c1 c2 c3 c4:Nat),e=.returned (.agg #[.int .i64 q.2.err,.int .i64 q.2.at_,.int .i64 q.2.n,.slice a1 l.length c1,.slice a2 n2 c2,.slice a3 q.2.granted.length c3,.slice a4 q.2.ended.length c4]) /\
  l.map (·.1)=q.2.entries/\CX X W' p dk q.1 ks ((.slice a1 l.length c1,l) :: es)/\W.heap.size<=W'.heap.size
theorem c6J{X W:World}{p dk:Nat}{ks:List (Nat × Obj)}{es:List (Value × List (Ent × Value))}{col:Nat->Option Col}(b:∀ q∈ks,KB W col q.1 q.2)(e:∀ q∈es,a3j W 0 col q.1 q.2){q:St × Rep}{en:Ending}{W':World}(h:b4e X W p dk col q en W'):CDo X W p dk ks es q en W':=by
 obtain⟨l,a1,a2,a3,a4,n2,c1,c2,c3,c4,r',col',rfl,P⟩:=h
 refine⟨l,a1,a2,a3,a4,n2,c1,c2,c3,c4,rfl,P.c7n,⟨r',col',P.dg,fun q hq=>(b q hq).step P.st,fun q hq=>?_⟩,P.st.size⟩
 rcases List.mem_cons.1 hq with rfl|hq
 ·exact P.row.low
 ·exact (e q hq).step P.st (Nat.le_refl _)
theorem CX.line{X W:World}{p dk:Nat}{s:St}{ks:List (Nat × Obj)}{es:List (Value × List (Ent × Value))}(h:CX X W p dk s ks es){t:ByteArray}{v:Value}{l:Desk.a7U}(hr:Reads t v)(hv:LV v l)(hl:Desk.a1O l){q:St × Rep}(hq:a1q s l=q):
  Calls Tryz.prog 20 #[.pointer (some ⟨p,0,none⟩),.string t] W fun e W'=>CDo X W p dk ks es q e W':=by
 obtain⟨r,col,d,b,e⟩:=h
 exact (b2g d hr hv hl hq).mono fun _ _ k=>c6J b e k
theorem CX.entries{X W:World}{p dk:Nat}{s:St}{ks:List (Nat × Obj)}{es:List (Value × List (Ent × Value))}(h:CX X W p dk s ks es)(nm:ByteArray)(hn:Nm nm)(hu:a0h nm s.ts≠0):
  Calls Tryz.prog 19 #[.pointer (some ⟨p,0,none⟩),.string nm] W fun e W'=>∃ (l:List (Ent × Value)) (a:Option Addr) (c:Nat),e=.returned (.tuple #[.slice a l.length c,.bool true])/\l.map (·.1)=a2x nm 0 1048320 s.es/\CX X W' p dk s ks ((.slice a l.length c,l) :: es):=by
 obtain⟨r,col,d,b,e⟩:=h
 refine (b5i d nm hn hu).mono ?_
 rintro en W' ⟨l,a,c,r',col',rfl,he,row,dg,st⟩
 refine⟨l,a,c,rfl,he,r',col',dg,fun q hq=>(b q hq).step st,fun q hq=>?_⟩
 rcases List.mem_cons.1 hq with rfl|hq
 ·exact row.low
 ·exact (e q hq).step st (Nat.le_refl _)
theorem CX.played{X W:World}{p dk:Nat}{s:St}{ks:List (Nat × Obj)}{es:List (Value × List (Ent × Value))}(h:CX X W p dk s ks es){v:Value}{ss:List ByteArray}(hv:TV X v ss):
  Calls Tryz.prog 18 #[.pointer (some ⟨p,0,none⟩),v] W fun e W'=>∃ s':St,e=.returned (.bool true)/\b2q s s' 30/\CX X W' p dk s' ks es:=by
 obtain⟨r,col,d,b,e⟩:=h
 refine (b7X d hv).mono ?_
 rintro en W' ⟨s',r',col',rfl,ha,dg,st⟩
 exact⟨s',rfl,ha,CX.step b e dg st⟩
def b5K(N:Nat)(es:List (Value × List (Ent × Value))):Prop:=∀ q∈es,(∀ c,q.1.ownBlock=some c->c<N)/\∀ x∈q.2,∀ c,x.2.ownBlock=some c->c<N
theorem CX.rows{X W:World}{p dk:Nat}{s:St}{ks:List (Nat × Obj)}{es:List (Value × List (Ent × Value))}(h:CX X W p dk s ks es):b5K W.heap.size es:=by
 obtain⟨r,col,_,_,e⟩:=h
 exact fun q hq=>⟨fun c hc=>((e q hq).own.lt c hc).2,fun x hx c hc=>(((e q hq).sp x hx).1.own.lt c hc).2⟩
theorem a3j.offK{w w':World}{B:Nat}{col:Nat->Option Col}{v:Value}{l:List (Ent × Value)}(h:a3j w B col v l){b:Nat}(k:Off [b] w w')(h1:∀ c,v.ownBlock=some c->c≠b)(h2:∀ x∈l,∀ c,x.2.ownBlock=some c->c≠b):a3j w' B col v l :=
 ⟨a1i h.own k (fun c hc=>by simp;exact h1 c hc),h.no,fun x hx=>⟨⟨a1i (h.sp x hx).1.own k (fun c hc=>by simp;exact h2 x hx c hc),(h.sp x hx).1.no⟩,(h.sp x hx).2⟩⟩
theorem CX.put{X W W':World}{p dk:Nat}{s:St}{ks:List (Nat × Obj)}{es:List (Value × List (Ent × Value))}{b N:Nat}{o o':Obj}(h:CX X W p dk s ((b,o) :: ks) es)(h10:10<=X.heap.size)(hX:X.heap.size<=b)(hp:p≠b)(hn:∀ q∈ks,q.1≠b)(hr:b5K N es)(hN:N<=b)(k:Off [b] W W')(hb:W'.heap[b]?=some o'):CX X W' p dk s ((b,o') :: ks) es:=by
 obtain⟨r,col,d,kk,ee⟩:=h
 have hc:=(kk (b,o) (List.mem_cons_self ..)).c
 refine⟨r,col,?_,fun q hq=>?_,fun q hq=>(ee q hq).offK k (fun c hc=>by have:=(hr q hq).1 c hc;omega) (fun x hx c hc=>by have:=(hr q hq).2 x hx c hc;omega)⟩
 ·have kb:∀ N,N<=X.heap.size->Below N W W':=fun N hN=>⟨k.os,k.tape,k.output,k.size,fun x hx=>k.block x (Nat.lt_of_lt_of_le hx (Nat.le_trans hN d.bl.size)) (by simp;omega)⟩
  exact⟨⟨(k.block p (Array.getElem?_eq_some_iff.1 d.bd.pc).1 (by simp;exact hp)).trans d.bd.pc,d.bd.pn,⟨d.bd.ds.dk.off k (fun x hx=>by have:x=b:=List.mem_singleton.1 hx;subst this;exact hc),d.bd.ds.of,d.bd.ds.wl,d.bd.ds.hl,d.bd.ds.inv⟩,d.bd.env.ten (kb 10 h10),d.bd.gl⟩,d.bl.trans (kb _ (Nat.le_refl _)),d.lo⟩
 ·rcases List.mem_cons.1 hq with rfl|hq
  ·exact⟨hb,hc⟩
  ·have h2:=kk q (List.mem_cons_of_mem _ hq)
   exact⟨(k.block q.1 (Array.getElem?_eq_some_iff.1 h2.h).1 (by simp;exact hn q hq)).trans h2.h,h2.c⟩
theorem CX.pl{X W:World}{p dk:Nat}{s:St}{ks:List (Nat × Obj)}{es:List (Value × List (Ent × Value))}(h:CX X W p dk s ks es):p<W.heap.size:=by
 obtain⟨r,col,d,_⟩:=h
 exact (Array.getElem?_eq_some_iff.1 d.bd.pc).1
def a1B:Obj:=.cells #[.string ⟨#[97]⟩,.string ⟨#[98]⟩] 9 (0,0)
def a1A(i:Nat):ByteArray:=if i=0 then ⟨#[97]⟩ else ⟨#[98]⟩
theorem a7y(i:Nat):a1A i=⟨#[97]⟩\/a1A i=⟨#[98]⟩:=by unfold a1A;split <;> simp
theorem a3x(i:Nat):Nm (a1A i):=by
 rcases a7y i with e|e <;> rw[e]
 ·exact c7k
 ·exact c7j
theorem a6P{W:World}{b:Nat}(hb:W.heap[b]?=some a1B)(i:Nat)(hi:i<2):W.cell? ⟨b,i,none⟩=some (.string (a1A i)):=by
 unfold a1B at hb
 match i,hi with
 |0,_=>simp only[World.cell?,hb];rfl
 |1,_=>simp only[World.cell?,hb];rfl
 |n+2,hi=>omega
theorem b2x{a b:Int}(ha:1<=a)(hb:1<=b)(i:Nat):a0h (a1A i) (a3Z a b).ts≠0:=by
 rcases a7y i with e|e <;> rw[e]
 ·have:=b9b a b;unfold nmA at this;rw[this];omega
 ·have:=b9a a b;unfold nmC at this;rw[this];omega
theorem c5r(args:Array Value)(w:World):(callFunc 21 args).run Tryz.prog w=.ok (.enter 21 args) w:=enters_of Tryz.func21 (by kernel_rfl) rfl args w
theorem c6D(args:Array Value)(w:World):(callFunc 20 args).run Tryz.prog w=.ok (.enter 20 args) w:=enters_of Tryz.func20 (by kernel_rfl) rfl args w
theorem c4E{W:World}{Q:Nat}(h:W.heap[Q]?=some a0f)(e a n:Int)(v1 v2 v3 v4:Value):(a2w W Q (.int .i64 e) (.int .i64 a) (.int .i64 n) v1 v2 v3 v4).heap[Q]?=some (a5w e a n v1 v2 v3 v4):=by
 unfold a2w
 exact a2A (a2A (a2A (a2A (a2A (a2A (a2A h _) _) _) _) _) _) _
structure Own(X:World)(b p:Nat)(ks:List (Nat × Obj))(es:List (Value × List (Ent × Value))):Prop where
 h10:10<=X.heap.size
 x:X.heap.size<=b
 p:p≠b
 ks:∀ q∈ks,q.1≠b
 es:b5K b es
theorem CX.swap{X W:World}{p dk:Nat}{s:St}{ks:List (Nat × Obj)}{es:List (Value × List (Ent × Value))}{a b:Nat × Obj}(h:CX X W p dk s (a :: b :: ks) es):CX X W p dk s (b :: a :: ks) es:=h.less (fun q hq=>by simp only[List.mem_cons] at hq ⊢;rcases hq with h|h|h <;> simp[h]) (fun q hq=>hq)
theorem CX.put'{X W W':World}{p dk:Nat}{s:St}{ks:List (Nat × Obj)}{es:List (Value × List (Ent × Value))}{b:Nat}{o o':Obj}(h:CX X W p dk s ((b,o) :: ks) es)(a:Own X b p ks es)(k:Off [b] W W')(hb:W'.heap[b]?=some o'):CX X W' p dk s ((b,o') :: ks) es:=h.put a.h10 a.x a.p a.ks a.es (Nat.le_refl _) k hb
theorem CX.next{X W:World}{p dk:Nat}{s:St}{ks:List (Nat × Obj)}{es:List (Value × List (Ent × Value))}{F a:Nat}{t:ByteArray}(h:CX X W p dk s ((F,a8o t a) :: ks) es)(o:Own X F p ks es)(ha:a<=t.size)(hs:t.size<=9223372036854775807)(n:Int)(h1:1<=n)(h2:n<=1000):
  Calls Tryz.prog 25 #[.pointer (some ⟨F,0,none⟩),.int .i64 n] W fun e W'=>∃ (v:Int) (a':Nat),e=.returned (.int .i64 v)/\0<=v/\v<n/\a'<=t.size/\CX X W' p dk s ((F,a8o t a') :: ks) es:=by
 have hf:FW W F t W:=⟨⟨a,h.kb (List.mem_cons_self ..),ha,hs⟩,h.env,Off.refl _ _,Nat.le_trans o.h10 o.x⟩
 refine (a1h hf n h1 h2).mono ?_
 rintro e W' ⟨v,rfl,v0,v1,k⟩
 obtain⟨a',fd⟩:=k.fd
 exact⟨v,a',rfl,v0,v1,fd.le,h.put' o k.off fd.b⟩
theorem a1y{W:World}{b:Nat}{nm:ByteArray}{u fr til:Int}(h:W.heap[b]?=some (a1P nm u fr til)):W.cell? ⟨b,0,none⟩=some (.string nm)/\W.cell? ⟨b,1,none⟩=some (.int .i64 u)/\W.cell? ⟨b,2,none⟩=some (.int .i64 fr)/\W.cell? ⟨b,3,none⟩=some (.int .i64 til)/\∀ o,W.frozen? ⟨b,o,none⟩=false:=b1X h
theorem a6T{s:St}(h:Inv s){nm:ByteArray}{l:List (Ent × Value)}(hl:l.map (·.1)=a2x nm 0 1048320 s.es):Few l:=by
 have h1:=Desk.c2P h nm
 rw[<- hl,List.length_map] at h1
 refine⟨by omega,fun p hp=>?_⟩
 have hm:p.1∈a2x nm 0 1048320 s.es:=by rw[<- hl];exact List.mem_map.2 ⟨p,hp,rfl⟩
 have e:=h.en p.1 (Desk.b6I h nm hm).1
 have:=e.u1
 have:=e.u9
 have:=e.sl
 exact⟨by omega,by omega,by omega⟩
theorem b0A{s:St}(h:Inv s)(nm:ByteArray){a b:Int}(hab:a<b):a1Q nm s.es a b<=a0h nm s.ts:=by
 obtain⟨_,x,_,_,e⟩:=Desk.a6H (name:=nm) h.mid.pos hab
 have e':Desk.a0o nm x s.es=a1Q nm s.es a b:=e
 have:=h.wi nm x
 omega
theorem b4N{s:St}(h:Inv s)(nm:ByteArray){a b:Int}(hab:a<b):0<=a1Q nm s.es a b:=by
 obtain⟨_,x,_,_,e⟩:=Desk.a6H (name:=nm) h.mid.pos hab
 have e':Desk.a0o nm x s.es=a1Q nm s.es a b:=e
 have:=Desk.a6v (name:=nm) (x:=x) h.mid.pos
 omega
theorem noB{b:Bool} {α:Prop}(h:b=false)(e:b=true):α:=by subst h;cases e
def CA(X W:World)(p dk:Nat)(s:St)(K0:List (Nat × Obj))(es:List (Value × List (Ent × Value)))(Y0:Nat)(al:Bool)(u:Value):Prop :=
 (al=false->CX X W p dk s K0 es)/\(al=true->∃ b,u=.pointer (some ⟨b,0,none⟩)/\Y0<=b/\CX X W p dk s ((b,a0f) :: K0) es)
section
variable {X W W':World}{p dk:Nat}{s:St}{K0:List (Nat × Obj)}{es:List (Value × List (Ent × Value))}{Y0:Nat}{al:Bool}{u:Value}
theorem CA.any(h:CA X W p dk s K0 es Y0 al u):CX X W p dk s K0 es:=by
 cases al
 ·exact h.1 rfl
 ·obtain⟨b,_,_,c⟩:=h.2 rfl
  exact c.less (fun q hq=>List.mem_cons_of_mem _ hq) (fun q hq=>hq)
theorem CA.later(h:CA X W p dk s K0 es Y0 al u)(k:Below W.heap.size W W'):CA X W' p dk s K0 es Y0 al u :=
 ⟨fun e=>(h.1 e).later k,fun e=>(h.2 e).imp fun _ hb=>⟨hb.1,hb.2.1,hb.2.2.later k⟩⟩
theorem CA.alloc(h:CA X W p dk s K0 es Y0 false u)(hY:Y0<=W.heap.size):CA X (W.alloc a0f) p dk s K0 es Y0 true (.pointer (some ⟨W.heap.size,0,none⟩)) :=
 ⟨fun e=>(nomatch e),fun _=>⟨W.heap.size,rfl,hY,(h.1 rfl).alloc a0f⟩⟩
theorem CA.line(h:CA X W p dk s K0 es Y0 al u){t:ByteArray}{v:Value}{l:Desk.a7U}(hr:Reads t v)(hv:LV v l)(hl:Desk.a1O l){s':St}{rep:Rep}(hq:a1q s l=(s',rep)):
  Calls Tryz.prog 20 #[.pointer (some ⟨p,0,none⟩),.string t] W fun e W'=>∃ (a1 a2 a3 a4:Option Addr) (n1 n2 c1 c2 c3 c4:Nat),e=.returned (.agg #[.int .i64 rep.err,.int .i64 rep.at_,.int .i64 rep.n,.slice a1 n1 c1,.slice a2 n2 c2,.slice a3 rep.granted.length c3,.slice a4 rep.ended.length c4])/\CA X W' p dk s' K0 es Y0 al u/\W.heap.size<=W'.heap.size:=by
 cases al
 ·refine ((h.1 rfl).line hr hv hl hq).mono ?_
  rintro en W' ⟨l,a1,a2,a3,a4,n2,c1,c2,c3,c4,rfl,_,cx,sz⟩
  exact⟨a1,a2,a3,a4,_,n2,c1,c2,c3,c4,rfl,⟨fun _=>cx.less (fun _ hq=>hq) (fun _ hq=>List.mem_cons_of_mem _ hq),fun e=>(nomatch e)⟩,sz⟩
 ·obtain⟨b,hb1,hb2,c⟩:=h.2 rfl
  refine (c.line hr hv hl hq).mono ?_
  rintro en W' ⟨l,a1,a2,a3,a4,n2,c1,c2,c3,c4,rfl,_,cx,sz⟩
  exact⟨a1,a2,a3,a4,_,n2,c1,c2,c3,c4,rfl,⟨fun e=>(nomatch e),fun _=>⟨b,hb1,hb2,cx.less (fun _ hq=>hq) (fun _ hq=>List.mem_cons_of_mem _ hq)⟩⟩,sz⟩
end
structure f5w(X:World)(p:Nat)(K0:List (Nat × Obj))(es:List (Value × List (Ent × Value)))(Y0:Nat):Prop where
 h10:10<=X.heap.size
 x:X.heap.size<=Y0
 p:p<Y0
 k:∀ q∈K0,q.1<Y0
 e:b5K Y0 es
theorem CX.low{X W:World}{p dk:Nat}{s:St}{K0:List (Nat × Obj)}{es:List (Value × List (Ent × Value))}(h:CX X W p dk s K0 es)(h10:10<=X.heap.size):f5w X p K0 es W.heap.size :=
 ⟨h10,h.bl.size,h.pl,fun _ hq=>(Array.getElem?_eq_some_iff.1 (h.kb hq)).1,h.rows⟩
theorem CA.put{X W:World}{p dk:Nat}{s:St}{K0:List (Nat × Obj)}{es:List (Value × List (Ent × Value))}{Y0 b:Nat}(c:CX X W p dk s ((b,a0f) :: K0) es)(o:f5w X p K0 es Y0)(hb:Y0<=b)(e a n:Int)(v1 v2 v3 v4:Value):CX X (a2w W b (.int .i64 e) (.int .i64 a) (.int .i64 n) v1 v2 v3 v4) p dk s ((b,a5w e a n v1 v2 v3 v4) :: K0) es :=
 c.put o.h10 (Nat.le_trans o.x hb) (by have:=o.p;omega) (fun q hq=>by have:=o.k q hq;omega) o.e hb (a2R W b _ _ _ _ _ _ _) (c4E (c.kb (List.mem_cons_self ..)) e a n v1 v2 v3 v4)
def e8r : Oper := { dst := some 69, op := Op.move (Operand.tmp 10), type := 30, pos := "keeps.go:152", after := #[], guard := none }
def e8q : Oper := { dst := some 70, op := Op.fieldAddr 49 (Operand.tmp 14) 0, type := 0, pos := "keeps.go:152", after := #[], guard := none }
def e4G : Oper := { dst := some 71, op := Op.load 9 (Operand.tmp 70), type := 9, pos := "keeps.go:152", after := #[{ on := 1, ground := Ground.data }], guard := none }
def e4F : Oper := { dst := some 72, op := Op.binOp BinOp.add 9 (Operand.const (Value.string { data := #[102, 105, 110, 100, 32] })) (Operand.tmp 71) 9, type := 9, pos := "keeps.go:152", after := #[{ on := 2, ground := Ground.data }], guard := none }
def e4E : Oper := { dst := some 73, op := Op.binOp BinOp.add 9 (Operand.tmp 72) (Operand.const (Value.string { data := #[32] })) 9, type := 9, pos := "keeps.go:152", after := #[{ on := 3, ground := Ground.data }], guard := none }
def e8p : Oper := { dst := some 74, op := Op.fieldAddr 49 (Operand.tmp 14) 1, type := 0, pos := "keeps.go:152", after := #[], guard := none }
def e4D : Oper := { dst := some 75, op := Op.load 3 (Operand.tmp 74), type := 3, pos := "keeps.go:152", after := #[{ on := 5, ground := Ground.data }], guard := none }
def e4C : Oper := { dst := some 76, op := Op.call { callee := Callee.value (Operand.func 21), args := #[Operand.tmp 75], argTypes := #[3] }, type := 9, pos := "keeps.go:152", after := #[{ on := 6, ground := Ground.data }], guard := none }
def e4B : Oper := { dst := some 77, op := Op.binOp BinOp.add 9 (Operand.tmp 73) (Operand.tmp 76) 9, type := 9, pos := "keeps.go:152", after := #[{ on := 4, ground := Ground.data }, { on := 7, ground := Ground.data }], guard := none }
def e4A : Oper := { dst := some 78, op := Op.binOp BinOp.add 9 (Operand.tmp 77) (Operand.const (Value.string { data := #[32] })) 9, type := 9, pos := "keeps.go:152", after := #[{ on := 8, ground := Ground.data }], guard := none }
def e2Z : Oper := { dst := some 79, op := Op.move (Operand.tmp 15), type := 3, pos := "keeps.go:152", after := #[], guard := none }
def d9J : Oper := { dst := some 80, op := Op.call { callee := Callee.value (Operand.func 21), args := #[Operand.tmp 79], argTypes := #[3] }, type := 9, pos := "keeps.go:152", after := #[{ on := 10, ground := Ground.data }, { on := 7, ground := Ground.chain }], guard := none }
def d9I : Oper := { dst := some 81, op := Op.binOp BinOp.add 9 (Operand.tmp 78) (Operand.tmp 80) 9, type := 9, pos := "keeps.go:152", after := #[{ on := 9, ground := Ground.data }, { on := 11, ground := Ground.data }], guard := none }
def d9H : Oper := { dst := some 82, op := Op.binOp BinOp.add 9 (Operand.tmp 81) (Operand.const (Value.string { data := #[32] })) 9, type := 9, pos := "keeps.go:152", after := #[{ on := 12, ground := Ground.data }], guard := none }
def e2Y : Oper := { dst := some 83, op := Op.move (Operand.tmp 16), type := 3, pos := "keeps.go:152", after := #[], guard := none }
def d9G : Oper := { dst := some 84, op := Op.call { callee := Callee.value (Operand.func 21), args := #[Operand.tmp 83], argTypes := #[3] }, type := 9, pos := "keeps.go:152", after := #[{ on := 14, ground := Ground.data }, { on := 11, ground := Ground.chain }], guard := none }
def d9F : Oper := { dst := some 85, op := Op.binOp BinOp.add 9 (Operand.tmp 82) (Operand.tmp 84) 9, type := 9, pos := "keeps.go:152", after := #[{ on := 13, ground := Ground.data }, { on := 15, ground := Ground.data }], guard := none }
def d9E : Oper := { dst := some 86, op := Op.binOp BinOp.add 9 (Operand.tmp 85) (Operand.const (Value.string { data := #[32] })) 9, type := 9, pos := "keeps.go:152", after := #[{ on := 16, ground := Ground.data }], guard := none }
def e2X : Oper := { dst := some 87, op := Op.move (Operand.tmp 17), type := 3, pos := "keeps.go:152", after := #[], guard := none }
def d9D : Oper := { dst := some 88, op := Op.call { callee := Callee.value (Operand.func 21), args := #[Operand.tmp 87], argTypes := #[3] }, type := 9, pos := "keeps.go:152", after := #[{ on := 18, ground := Ground.data }, { on := 15, ground := Ground.chain }], guard := none }
def d9C : Oper := { dst := some 89, op := Op.binOp BinOp.add 9 (Operand.tmp 86) (Operand.tmp 88) 9, type := 9, pos := "keeps.go:152", after := #[{ on := 17, ground := Ground.data }, { on := 19, ground := Ground.data }], guard := none }
def d9B : Oper := { dst := some 90, op := Op.call { callee := Callee.value (Operand.func 20), args := #[Operand.tmp 69, Operand.tmp 89], argTypes := #[30, 9] }, type := 40, pos := "keeps.go:152", after := #[{ on := 0, ground := Ground.data }, { on := 20, ground := Ground.data }, { on := 19, ground := Ground.chain }], guard := none }
def e2W : Oper := { dst := some 18, op := Op.alloc 40, type := 0, pos := "keeps.go:152", after := #[], guard := none }
def d9A : Oper := { dst := none, op := Op.store 40 (Operand.tmp 18) (Operand.tmp 90), type := 0, pos := "keeps.go:152", after := #[{ on := 22, ground := Ground.data }, { on := 21, ground := Ground.data }, { on := 21, ground := Ground.chain }, { on := 0, ground := Ground.phase }, { on := 1, ground := Ground.phase }, { on := 2, ground := Ground.phase }, { on := 3, ground := Ground.phase }, { on := 4, ground := Ground.phase }, { on := 5, ground := Ground.phase }, { on := 6, ground := Ground.phase }, { on := 7, ground := Ground.phase }, { on := 8, ground := Ground.phase }, { on := 9, ground := Ground.phase }, { on := 10, ground := Ground.phase }, { on := 11, ground := Ground.phase }, { on := 12, ground := Ground.phase }, { on := 13, ground := Ground.phase }, { on := 14, ground := Ground.phase }, { on := 15, ground := Ground.phase }, { on := 16, ground := Ground.phase }, { on := 17, ground := Ground.phase }, { on := 18, ground := Ground.phase }, { on := 19, ground := Ground.phase }, { on := 20, ground := Ground.phase }, { on := 21, ground := Ground.phase }, { on := 22, ground := Ground.phase }], guard := none }
def e8f:Array Oper:=#[e8r,e8q,e4G,e4F,e4E,e8p,e4D,e4C,e4B,e4A,e2Z,d9J,d9I,d9H,e2Y,d9G,d9F,d9E,e2X,d9D,d9C,d9B,e2W,d9A]
structure f5L(X:World)(p dk xb:Nat)(s s2:St)(nm:ByteArray)(u lo fr ti N x2 x3:Int)(Y0:Nat)(L:Nat->Bool)(u18 u69 u70 u71 u72 u73 u74 u75 u76 u77 u78 u79 u80 u81 u82 u83 u84 u85 u86 u87 u88 u89 u90:Value)(W:World):Prop where
 f0:L 0=true->u69=.pointer (some ⟨p,0,none⟩)
 f1:L 1=true->u70=.pointer (some ⟨xb,0,none⟩)
 f2:L 2=true->u71=.string nm
 f3:L 3=true->u72=.string ((⟨#[102,105,110,100,32]⟩:ByteArray)++nm)
 f4:L 4=true->u73=.string (((⟨#[102,105,110,100,32]⟩:ByteArray)++nm)++(⟨#[32]⟩:ByteArray))
 f5:L 5=true->u74=.pointer (some ⟨xb,1,none⟩)
 f6:L 6=true->u75=.int .i64 u
 f7:L 7=true->u76=.string (Txt.a0x u)
 f8:L 8=true->u77=.string ((((⟨#[102,105,110,100,32]⟩:ByteArray)++nm)++(⟨#[32]⟩:ByteArray))++Txt.a0x u)
 f9:L 9=true->u78=.string (((((⟨#[102,105,110,100,32]⟩:ByteArray)++nm)++(⟨#[32]⟩:ByteArray))++Txt.a0x u)++(⟨#[32]⟩:ByteArray))
 f10:L 10=true->u79=.int .i64 lo
 f11:L 11=true->u80=.string (Txt.a0x lo)
 f12:L 12=true->u81=.string ((((((⟨#[102,105,110,100,32]⟩:ByteArray)++nm)++(⟨#[32]⟩:ByteArray))++Txt.a0x u)++(⟨#[32]⟩:ByteArray))++Txt.a0x lo)
 f13:L 13=true->u82=.string (((((((⟨#[102,105,110,100,32]⟩:ByteArray)++nm)++(⟨#[32]⟩:ByteArray))++Txt.a0x u)++(⟨#[32]⟩:ByteArray))++Txt.a0x lo)++(⟨#[32]⟩:ByteArray))
 f14:L 14=true->u83=.int .i64 fr
 f15:L 15=true->u84=.string (Txt.a0x fr)
 f16:L 16=true->u85=.string ((((((((⟨#[102,105,110,100,32]⟩:ByteArray)++nm)++(⟨#[32]⟩:ByteArray))++Txt.a0x u)++(⟨#[32]⟩:ByteArray))++Txt.a0x lo)++(⟨#[32]⟩:ByteArray))++Txt.a0x fr)
 f17:L 17=true->u86=.string (((((((((⟨#[102,105,110,100,32]⟩:ByteArray)++nm)++(⟨#[32]⟩:ByteArray))++Txt.a0x u)++(⟨#[32]⟩:ByteArray))++Txt.a0x lo)++(⟨#[32]⟩:ByteArray))++Txt.a0x fr)++(⟨#[32]⟩:ByteArray))
 f18:L 18=true->u87=.int .i64 ti
 f19:L 19=true->u88=.string (Txt.a0x ti)
 f20:L 20=true->u89=.string ((((((((((⟨#[102,105,110,100,32]⟩:ByteArray)++nm)++(⟨#[32]⟩:ByteArray))++Txt.a0x u)++(⟨#[32]⟩:ByteArray))++Txt.a0x lo)++(⟨#[32]⟩:ByteArray))++Txt.a0x fr)++(⟨#[32]⟩:ByteArray))++Txt.a0x ti)
 f21:L 21=true->∃ (a1 a2 a3 a4:Option Addr) (n1 n2 n3 n4 c1 c2 c3 c4:Nat),u90=.agg #[.int .i64 0,.int .i64 0,.int .i64 N,.slice a1 n1 c1,.slice a2 n2 c2,.slice a3 n3 c3,.slice a4 n4 c4]
 cx:L 23=false->CA X W p dk (bif L 21 then s2 else s) [(xb,a1P nm u x2 x3)] [] Y0 (L 22) u18
 fin:L 23=true->∃ (b:Nat) (v1 v2 v3 v4:Value),u18=.pointer (some ⟨b,0,none⟩)/\CX X W p dk s2 ((b,a5w 0 0 N v1 v2 v3 v4) :: [(xb,a1P nm u x2 x3)]) []
 sz:Y0<=W.heap.size
theorem d1l{L:Nat->Bool}(h:a9X .any e8f L){j:Nat}(hj:j<23)(hL:L j=false):L 23=false:=by
 cases e:L 23
 ·rfl
 ·have q:((#[{ on:=22,ground:=Ground.data },{ on:=21,ground:=Ground.data },{ on:=21,ground:=Ground.chain },{ on:=0,ground:=Ground.phase },{ on:=1,ground:=Ground.phase },{ on:=2,ground:=Ground.phase },{ on:=3,ground:=Ground.phase },{ on:=4,ground:=Ground.phase },{ on:=5,ground:=Ground.phase },{ on:=6,ground:=Ground.phase },{ on:=7,ground:=Ground.phase },{ on:=8,ground:=Ground.phase },{ on:=9,ground:=Ground.phase },{ on:=10,ground:=Ground.phase },{ on:=11,ground:=Ground.phase },{ on:=12,ground:=Ground.phase },{ on:=13,ground:=Ground.phase },{ on:=14,ground:=Ground.phase },{ on:=15,ground:=Ground.phase },{ on:=16,ground:=Ground.phase },{ on:=17,ground:=Ground.phase },{ on:=18,ground:=Ground.phase },{ on:=19,ground:=Ground.phase },{ on:=20,ground:=Ground.phase },{ on:=21,ground:=Ground.phase },{ on:=22,ground:=Ground.phase }]:Array Edge).all fun e=>!Region.binds .any e || L e.on)=true:=h 23 _ rfl e
  simp[Region.binds] at q
  exfalso
  match j,hj with
  |0,_=>simp[q] at hL
  |1,_=>simp[q] at hL
  |2,_=>simp[q] at hL
  |3,_=>simp[q] at hL
  |4,_=>simp[q] at hL
  |5,_=>simp[q] at hL
  |6,_=>simp[q] at hL
  |7,_=>simp[q] at hL
  |8,_=>simp[q] at hL
  |9,_=>simp[q] at hL
  |10,_=>simp[q] at hL
  |11,_=>simp[q] at hL
  |12,_=>simp[q] at hL
  |13,_=>simp[q] at hL
  |14,_=>simp[q] at hL
  |15,_=>simp[q] at hL
  |16,_=>simp[q] at hL
  |17,_=>simp[q] at hL
  |18,_=>simp[q] at hL
  |19,_=>simp[q] at hL
  |20,_=>simp[q] at hL
  |21,_=>simp[q] at hL
  |22,_=>simp[q] at hL
  |n+23,hj=>omega
theorem f3r{X:World}{p dk xb:Nat}{s s2:St}{nm:ByteArray}{u lo fr ti N x2 x3:Int}{t0 t1 t2 t3 t4 t5 t6 t7 t8 t9 t11 t12 t13 t19 t20 t21 t22 t23 t24 t25 t26 t27 t28 t29 t30 t31 t32 t33 t34 t35 t36 t37 t38 t39 t40 t41 t42 t43 t44 t45 t46 t47 t48 t49 t50 t51 t52 t53 t54 t55 t56 t57 t58 t59 t60 t61 t62 t63 t64 t65 t66 t67 t68 t91 t92 t93 t94 t95 t96 t97 t98 t99 t100 t101 t102 t103 t104 t105 t106 t107 t108 t109 t110 t111 t112 t113 t114 t115 t116 t117 t118 t119 t120 t121 t122 t123 t124 t125 t126 t127 t128 t129 t130 t131 t132 t133 t134 t135 t136 t137 t138 t139 t140 t141 t142 t143 t144 t145 t146 t147 t148 t149 t150 t151 t152 t153 t154 t155 t156 t157 t158 t159 t160 t161 t162 t163 t164 t165 t166 t167 t168 t169 t170 t171 t172 t173 t174 t175 t176 t177 t178 t179 t180 t181 t182 t183 t184 t185 t186 t187 t188 t189 t190 t18 t69 t70 t71 t72 t73 t74 t75 t76 t77 t78 t79 t80 t81 t82 t83 t84 t85 t86 t87 t88 t89 t90:Value}(zs:nm.size<=10/\(Txt.a0x u).size<=7/\(Txt.a0x lo).size<=7/\(Txt.a0x fr).size<=7/\(Txt.a0x ti).size<=7)(bs:(0<=u/\u<=9999999)/\(0<=lo/\lo<=9999999)/\(0<=fr/\fr<=9999999)/\(0<=ti/\ti<=9999999))(h10:10<=X.heap.size)(RD:Reads ((((((((((⟨#[102,105,110,100,32]⟩:ByteArray)++nm)++(⟨#[32]⟩:ByteArray))++Txt.a0x u)++(⟨#[32]⟩:ByteArray))++Txt.a0x lo)++(⟨#[32]⟩:ByteArray))++Txt.a0x fr)++(⟨#[32]⟩:ByteArray))++Txt.a0x ti) (.iface 172 (.agg #[.string nm,.int .i64 u,.int .i64 lo,.int .i64 fr,.int .i64 ti])))(RV:LV (.iface 172 (.agg #[.string nm,.int .i64 u,.int .i64 lo,.int .i64 fr,.int .i64 ti])) (.find nm u lo fr ti))(RL:Desk.a1O (.find nm u lo fr ti))(RQ:a1q s (.find nm u lo fr ti)=(s2,⟨0,0,N,[],[],[],[]⟩)){Q:Exit->Act->World->Prop}{Y:World}(hY:CX X Y p dk s [(xb,a1P nm u x2 x3)] [])(KK:∀ (u69 u70 u71 u72 u73 u74 u75 u76 u77 u78 u79 u80 u81 u82 u83 u84 u85 u86 u87 u88 u89 u90:Value)(b:Nat)(v1 v2 v3 v4:Value)(W:World),CX X W p dk s2 ((b,a5w 0 0 N v1 v2 v3 v4) :: [(xb,a1P nm u x2 x3)]) []->Q .normal { tmps:=#[t0,t1,t2,t3,t4,t5,t6,t7,t8,t9,.pointer (some ⟨p,0,none⟩),t11,t12,t13,.pointer (some ⟨xb,0,none⟩),.int .i64 lo,.int .i64 fr,.int .i64 ti,(.pointer (some ⟨b,0,none⟩)),t19,t20,t21,t22,t23,t24,t25,t26,t27,t28,t29,t30,t31,t32,t33,t34,t35,t36,t37,t38,t39,t40,t41,t42,t43,t44,t45,t46,t47,t48,t49,t50,t51,t52,t53,t54,t55,t56,t57,t58,t59,t60,t61,t62,t63,t64,t65,t66,t67,t68,u69,u70,u71,u72,u73,u74,u75,u76,u77,u78,u79,u80,u81,u82,u83,u84,u85,u86,u87,u88,u89,u90,t91,t92,t93,t94,t95,t96,t97,t98,t99,t100,t101,t102,t103,t104,t105,t106,t107,t108,t109,t110,t111,t112,t113,t114,t115,t116,t117,t118,t119,t120,t121,t122,t123,t124,t125,t126,t127,t128,t129,t130,t131,t132,t133,t134,t135,t136,t137,t138,t139,t140,t141,t142,t143,t144,t145,t146,t147,t148,t149,t150,t151,t152,t153,t154,t155,t156,t157,t158,t159,t160,t161,t162,t163,t164,t165,t166,t167,t168,t169,t170,t171,t172,t173,t174,t175,t176,t177,t178,t179,t180,t181,t182,t183,t184,t185,t186,t187,t188,t189,t190],defers:=[] } W):
  (Code.region 14 e8f true).wp Tryz.prog Q { tmps:=#[t0,t1,t2,t3,t4,t5,t6,t7,t8,t9,.pointer (some ⟨p,0,none⟩),t11,t12,t13,.pointer (some ⟨xb,0,none⟩),.int .i64 lo,.int .i64 fr,.int .i64 ti,t18,t19,t20,t21,t22,t23,t24,t25,t26,t27,t28,t29,t30,t31,t32,t33,t34,t35,t36,t37,t38,t39,t40,t41,t42,t43,t44,t45,t46,t47,t48,t49,t50,t51,t52,t53,t54,t55,t56,t57,t58,t59,t60,t61,t62,t63,t64,t65,t66,t67,t68,t69,t70,t71,t72,t73,t74,t75,t76,t77,t78,t79,t80,t81,t82,t83,t84,t85,t86,t87,t88,t89,t90,t91,t92,t93,t94,t95,t96,t97,t98,t99,t100,t101,t102,t103,t104,t105,t106,t107,t108,t109,t110,t111,t112,t113,t114,t115,t116,t117,t118,t119,t120,t121,t122,t123,t124,t125,t126,t127,t128,t129,t130,t131,t132,t133,t134,t135,t136,t137,t138,t139,t140,t141,t142,t143,t144,t145,t146,t147,t148,t149,t150,t151,t152,t153,t154,t155,t156,t157,t158,t159,t160,t161,t162,t163,t164,t165,t166,t167,t168,t169,t170,t171,t172,t173,t174,t175,t176,t177,t178,t179,t180,t181,t182,t183,t184,t185,t186,t187,t188,t189,t190],defers:=[] } Y:=by
 have LK:=hY.low h10
 refine a6t (by kernel_rfl) ?ord (fun L a W=>∃ u18 u69 u70 u71 u72 u73 u74 u75 u76 u77 u78 u79 u80 u81 u82 u83 u84 u85 u86 u87 u88 u89 u90:Value,a={ tmps:=#[t0,t1,t2,t3,t4,t5,t6,t7,t8,t9,.pointer (some ⟨p,0,none⟩),t11,t12,t13,.pointer (some ⟨xb,0,none⟩),.int .i64 lo,.int .i64 fr,.int .i64 ti,u18,t19,t20,t21,t22,t23,t24,t25,t26,t27,t28,t29,t30,t31,t32,t33,t34,t35,t36,t37,t38,t39,t40,t41,t42,t43,t44,t45,t46,t47,t48,t49,t50,t51,t52,t53,t54,t55,t56,t57,t58,t59,t60,t61,t62,t63,t64,t65,t66,t67,t68,u69,u70,u71,u72,u73,u74,u75,u76,u77,u78,u79,u80,u81,u82,u83,u84,u85,u86,u87,u88,u89,u90,t91,t92,t93,t94,t95,t96,t97,t98,t99,t100,t101,t102,t103,t104,t105,t106,t107,t108,t109,t110,t111,t112,t113,t114,t115,t116,t117,t118,t119,t120,t121,t122,t123,t124,t125,t126,t127,t128,t129,t130,t131,t132,t133,t134,t135,t136,t137,t138,t139,t140,t141,t142,t143,t144,t145,t146,t147,t148,t149,t150,t151,t152,t153,t154,t155,t156,t157,t158,t159,t160,t161,t162,t163,t164,t165,t166,t167,t168,t169,t170,t171,t172,t173,t174,t175,t176,t177,t178,t179,t180,t181,t182,t183,t184,t185,t186,t187,t188,t189,t190],defers:=[] }/\f5L X p dk xb s s2 nm u lo fr ti N x2 x3 Y.heap.size L u18 u69 u70 u71 u72 u73 u74 u75 u76 u77 u78 u79 u80 u81 u82 u83 u84 u85 u86 u87 u88 u89 u90 W) ?start ?step ?done
 case ord =>
  have hall:((List.range 24).all fun j=>match e8f[j]? with|some o=>(o.after.all fun e=>!Region.binds .any e || decide (e.on<j))|none=>true)=true:=by decide +kernel
  intro j o ho
  have hj:j<24:=(Array.getElem?_eq_some_iff.1 ho).1
  have:=List.all_eq_true.1 hall j (List.mem_range.2 hj)
  rw[ho] at this
  exact this
 case start =>
  exact⟨_,_,_,_,_,_,_,_,_,_,_,_,_,_,_,_,_,_,_,_,_,_,_,rfl,⟨fun e=>(nomatch e),fun e=>(nomatch e),fun e=>(nomatch e),fun e=>(nomatch e),fun e=>(nomatch e),fun e=>(nomatch e),fun e=>(nomatch e),fun e=>(nomatch e),fun e=>(nomatch e),fun e=>(nomatch e),fun e=>(nomatch e),fun e=>(nomatch e),fun e=>(nomatch e),fun e=>(nomatch e),fun e=>(nomatch e),fun e=>(nomatch e),fun e=>(nomatch e),fun e=>(nomatch e),fun e=>(nomatch e),fun e=>(nomatch e),fun e=>(nomatch e),fun e=>(nomatch e),fun _=>⟨fun _=>hY.drew,fun e=>(nomatch e)⟩,fun e=>(nomatch e),Nat.le_refl _⟩⟩
 case done =>
  rintro L a W hall ⟨u18,u69,u70,u71,u72,u73,u74,u75,u76,u77,u78,u79,u80,u81,u82,u83,u84,u85,u86,u87,u88,u89,u90,rfl,h⟩
  obtain⟨b,v1,v2,v3,v4,rfl,hc⟩:=h.fin (hall 23 (by decide))
  exact KK u69 u70 u71 u72 u73 u74 u75 u76 u77 u78 u79 u80 u81 u82 u83 u84 u85 u86 u87 u88 u89 u90 b v1 v2 v3 v4 W hc
 case step =>
  rintro L a W j o hcl ⟨u18,u69,u70,u71,u72,u73,u74,u75,u76,u77,u78,u79,u80,u81,u82,u83,u84,u85,u86,u87,u88,u89,u90,rfl,h⟩ ho hL hd K hK
  have hj:j<24:=(Array.getElem?_eq_some_iff.1 ho).1
  match j,hj,ho,hL,hd,hK with
  |0,_,ho,hL,hd,hK =>
   obtain rfl:e8r=o:=Option.some.inj ho
   have hS:L 23=false:=d1l hcl (j:=0) (by decide) hL
   clear hd hcl
   unfold e8r
   go_simp
   exact hK _ _ ⟨_,_,_,_,_,_,_,_,_,_,_,_,_,_,_,_,_,_,_,_,_,_,_,rfl,⟨fun _=>rfl,h.f1,h.f2,h.f3,h.f4,h.f5,h.f6,h.f7,h.f8,h.f9,h.f10,h.f11,h.f12,h.f13,h.f14,h.f15,h.f16,h.f17,h.f18,h.f19,h.f20,h.f21,h.cx,fun e=>noB hS e,h.sz⟩⟩
  |1,_,ho,hL,hd,hK =>
   obtain rfl:e8q=o:=Option.some.inj ho
   have hS:L 23=false:=d1l hcl (j:=1) (by decide) hL
   clear hd hcl
   unfold e8q
   go_simp
   exact hK _ _ ⟨_,_,_,_,_,_,_,_,_,_,_,_,_,_,_,_,_,_,_,_,_,_,_,rfl,⟨h.f0,fun _=>rfl,h.f2,h.f3,h.f4,h.f5,h.f6,h.f7,h.f8,h.f9,h.f10,h.f11,h.f12,h.f13,h.f14,h.f15,h.f16,h.f17,h.f18,h.f19,h.f20,h.f21,h.cx,fun e=>noB hS e,h.sz⟩⟩
  |2,_,ho,hL,hd,hK =>
   obtain rfl:e4G=o:=Option.some.inj ho
   have dd_:L 1=true:=by simpa[Region.binds,e4G] using hd
   have d1:=dd_
   clear dd_
   have hS:L 23=false:=d1l hcl (j:=2) (by decide) hL
   clear hd hcl
   unfold e4G
   obtain rfl:=h.f1 d1
   have hc:=(a1y ((h.cx hS).any.kb (b:=xb) (List.mem_cons_self ..))).1
   go_simp
   exact hK _ _ ⟨_,_,_,_,_,_,_,_,_,_,_,_,_,_,_,_,_,_,_,_,_,_,_,rfl,⟨h.f0,fun _=>rfl,fun _=>rfl,h.f3,h.f4,h.f5,h.f6,h.f7,h.f8,h.f9,h.f10,h.f11,h.f12,h.f13,h.f14,h.f15,h.f16,h.f17,h.f18,h.f19,h.f20,h.f21,h.cx,fun e=>noB hS e,h.sz⟩⟩
  |3,_,ho,hL,hd,hK =>
   obtain rfl:e4F=o:=Option.some.inj ho
   have dd_:L 2=true:=by simpa[Region.binds,e4F] using hd
   have d2:=dd_
   clear dd_
   have hS:L 23=false:=d1l hcl (j:=3) (by decide) hL
   clear hd hcl
   unfold e4F
   obtain rfl:=h.f2 d2
   obtain⟨z1,z2,z3,z4,z5⟩:=zs
   have sz:¬ (9223372036854775807<5+nm.size):=by omega
   go_simp
   exact hK _ _ ⟨_,_,_,_,_,_,_,_,_,_,_,_,_,_,_,_,_,_,_,_,_,_,_,rfl,⟨h.f0,h.f1,fun _=>rfl,fun _=>rfl,h.f4,h.f5,h.f6,h.f7,h.f8,h.f9,h.f10,h.f11,h.f12,h.f13,h.f14,h.f15,h.f16,h.f17,h.f18,h.f19,h.f20,h.f21,h.cx,fun e=>noB hS e,h.sz⟩⟩
  |4,_,ho,hL,hd,hK =>
   obtain rfl:e4E=o:=Option.some.inj ho
   have dd_:L 3=true:=by simpa[Region.binds,e4E] using hd
   have d3:=dd_
   clear dd_
   have hS:L 23=false:=d1l hcl (j:=4) (by decide) hL
   clear hd hcl
   unfold e4E
   obtain rfl:=h.f3 d3
   obtain⟨z1,z2,z3,z4,z5⟩:=zs
   have sz:¬ (9223372036854775807<5+nm.size+1):=by omega
   go_simp
   exact hK _ _ ⟨_,_,_,_,_,_,_,_,_,_,_,_,_,_,_,_,_,_,_,_,_,_,_,rfl,⟨h.f0,h.f1,h.f2,fun _=>rfl,fun _=>rfl,h.f5,h.f6,h.f7,h.f8,h.f9,h.f10,h.f11,h.f12,h.f13,h.f14,h.f15,h.f16,h.f17,h.f18,h.f19,h.f20,h.f21,h.cx,fun e=>noB hS e,h.sz⟩⟩
  |5,_,ho,hL,hd,hK =>
   obtain rfl:e8p=o:=Option.some.inj ho
   have hS:L 23=false:=d1l hcl (j:=5) (by decide) hL
   clear hd hcl
   unfold e8p
   go_simp
   exact hK _ _ ⟨_,_,_,_,_,_,_,_,_,_,_,_,_,_,_,_,_,_,_,_,_,_,_,rfl,⟨h.f0,h.f1,h.f2,h.f3,h.f4,fun _=>rfl,h.f6,h.f7,h.f8,h.f9,h.f10,h.f11,h.f12,h.f13,h.f14,h.f15,h.f16,h.f17,h.f18,h.f19,h.f20,h.f21,h.cx,fun e=>noB hS e,h.sz⟩⟩
  |6,_,ho,hL,hd,hK =>
   obtain rfl:e4D=o:=Option.some.inj ho
   have dd_:L 5=true:=by simpa[Region.binds,e4D] using hd
   have d5:=dd_
   clear dd_
   have hS:L 23=false:=d1l hcl (j:=6) (by decide) hL
   clear hd hcl
   unfold e4D
   obtain rfl:=h.f5 d5
   have hc:=(a1y ((h.cx hS).any.kb (b:=xb) (List.mem_cons_self ..))).2.1
   go_simp
   exact hK _ _ ⟨_,_,_,_,_,_,_,_,_,_,_,_,_,_,_,_,_,_,_,_,_,_,_,rfl,⟨h.f0,h.f1,h.f2,h.f3,h.f4,fun _=>rfl,fun _=>rfl,h.f7,h.f8,h.f9,h.f10,h.f11,h.f12,h.f13,h.f14,h.f15,h.f16,h.f17,h.f18,h.f19,h.f20,h.f21,h.cx,fun e=>noB hS e,h.sz⟩⟩
  |7,_,ho,hL,hd,hK =>
   obtain rfl:e4C=o:=Option.some.inj ho
   have dd_:L 6=true:=by simpa[Region.binds,e4C] using hd
   have d6:=dd_
   clear dd_
   have hS:L 23=false:=d1l hcl (j:=7) (by decide) hL
   clear hd hcl
   unfold e4C
   obtain rfl:=h.f6 d6
   refine a2k (by rfl) 21 _ _ (by rfl) _ (by simp[Act.eval]) (c5r _ _) (a6O u W (h.cx hS).any.env (by omega) (by omega)) ?_
   rintro e w7 ⟨rfl,hb7⟩
   refine⟨_,rfl,?_⟩
   exact hK _ _ ⟨_,_,_,_,_,_,_,_,_,_,_,_,_,_,_,_,_,_,_,_,_,_,_,rfl,⟨h.f0,h.f1,h.f2,h.f3,h.f4,h.f5,fun _=>rfl,fun _=>rfl,h.f8,h.f9,h.f10,h.f11,h.f12,h.f13,h.f14,h.f15,h.f16,h.f17,h.f18,h.f19,h.f20,h.f21,fun e=>(h.cx e).later hb7,fun e=>noB hS e,Nat.le_trans h.sz hb7.size⟩⟩
  |8,_,ho,hL,hd,hK =>
   obtain rfl:e4B=o:=Option.some.inj ho
   have dd_:L 4=true/\L 7=true:=by simpa[Region.binds,e4B] using hd
   have d4:=dd_.1
   have d7:=dd_.2
   clear dd_
   have hS:L 23=false:=d1l hcl (j:=8) (by decide) hL
   clear hd hcl
   unfold e4B
   obtain rfl:=h.f4 d4
   obtain rfl:=h.f7 d7
   obtain⟨z1,z2,z3,z4,z5⟩:=zs
   have sz:¬ (9223372036854775807<5+nm.size+1+(Txt.a0x u).size):=by omega
   go_simp
   exact hK _ _ ⟨_,_,_,_,_,_,_,_,_,_,_,_,_,_,_,_,_,_,_,_,_,_,_,rfl,⟨h.f0,h.f1,h.f2,h.f3,fun _=>rfl,h.f5,h.f6,fun _=>rfl,fun _=>rfl,h.f9,h.f10,h.f11,h.f12,h.f13,h.f14,h.f15,h.f16,h.f17,h.f18,h.f19,h.f20,h.f21,h.cx,fun e=>noB hS e,h.sz⟩⟩
  |9,_,ho,hL,hd,hK =>
   obtain rfl:e4A=o:=Option.some.inj ho
   have dd_:L 8=true:=by simpa[Region.binds,e4A] using hd
   have d8:=dd_
   clear dd_
   have hS:L 23=false:=d1l hcl (j:=9) (by decide) hL
   clear hd hcl
   unfold e4A
   obtain rfl:=h.f8 d8
   obtain⟨z1,z2,z3,z4,z5⟩:=zs
   have sz:¬ (9223372036854775807<5+nm.size+1+(Txt.a0x u).size+1):=by omega
   go_simp
   exact hK _ _ ⟨_,_,_,_,_,_,_,_,_,_,_,_,_,_,_,_,_,_,_,_,_,_,_,rfl,⟨h.f0,h.f1,h.f2,h.f3,h.f4,h.f5,h.f6,h.f7,fun _=>rfl,fun _=>rfl,h.f10,h.f11,h.f12,h.f13,h.f14,h.f15,h.f16,h.f17,h.f18,h.f19,h.f20,h.f21,h.cx,fun e=>noB hS e,h.sz⟩⟩
  |10,_,ho,hL,hd,hK =>
   obtain rfl:e2Z=o:=Option.some.inj ho
   have hS:L 23=false:=d1l hcl (j:=10) (by decide) hL
   clear hd hcl
   unfold e2Z
   go_simp
   exact hK _ _ ⟨_,_,_,_,_,_,_,_,_,_,_,_,_,_,_,_,_,_,_,_,_,_,_,rfl,⟨h.f0,h.f1,h.f2,h.f3,h.f4,h.f5,h.f6,h.f7,h.f8,h.f9,fun _=>rfl,h.f11,h.f12,h.f13,h.f14,h.f15,h.f16,h.f17,h.f18,h.f19,h.f20,h.f21,h.cx,fun e=>noB hS e,h.sz⟩⟩
  |11,_,ho,hL,hd,hK =>
   obtain rfl:d9J=o:=Option.some.inj ho
   have dd_:L 10=true/\L 7=true:=by simpa[Region.binds,d9J] using hd
   have d7:=dd_.2
   have d10:=dd_.1
   clear dd_
   have hS:L 23=false:=d1l hcl (j:=11) (by decide) hL
   clear hd hcl
   unfold d9J
   obtain rfl:=h.f7 d7
   obtain rfl:=h.f10 d10
   refine a2k (by rfl) 21 _ _ (by rfl) _ (by simp[Act.eval]) (c5r _ _) (a6O lo W (h.cx hS).any.env (by omega) (by omega)) ?_
   rintro e w7 ⟨rfl,hb7⟩
   refine⟨_,rfl,?_⟩
   exact hK _ _ ⟨_,_,_,_,_,_,_,_,_,_,_,_,_,_,_,_,_,_,_,_,_,_,_,rfl,⟨h.f0,h.f1,h.f2,h.f3,h.f4,h.f5,h.f6,fun _=>rfl,h.f8,h.f9,fun _=>rfl,fun _=>rfl,h.f12,h.f13,h.f14,h.f15,h.f16,h.f17,h.f18,h.f19,h.f20,h.f21,fun e=>(h.cx e).later hb7,fun e=>noB hS e,Nat.le_trans h.sz hb7.size⟩⟩
  |12,_,ho,hL,hd,hK =>
   obtain rfl:d9I=o:=Option.some.inj ho
   have dd_:L 9=true/\L 11=true:=by simpa[Region.binds,d9I] using hd
   have d9:=dd_.1
   have d11:=dd_.2
   clear dd_
   have hS:L 23=false:=d1l hcl (j:=12) (by decide) hL
   clear hd hcl
   unfold d9I
   obtain rfl:=h.f9 d9
   obtain rfl:=h.f11 d11
   obtain⟨z1,z2,z3,z4,z5⟩:=zs
   have sz:¬ (9223372036854775807<5+nm.size+1+(Txt.a0x u).size+1+(Txt.a0x lo).size):=by omega
   go_simp
   exact hK _ _ ⟨_,_,_,_,_,_,_,_,_,_,_,_,_,_,_,_,_,_,_,_,_,_,_,rfl,⟨h.f0,h.f1,h.f2,h.f3,h.f4,h.f5,h.f6,h.f7,h.f8,fun _=>rfl,h.f10,fun _=>rfl,fun _=>rfl,h.f13,h.f14,h.f15,h.f16,h.f17,h.f18,h.f19,h.f20,h.f21,h.cx,fun e=>noB hS e,h.sz⟩⟩
  |13,_,ho,hL,hd,hK =>
   obtain rfl:d9H=o:=Option.some.inj ho
   have dd_:L 12=true:=by simpa[Region.binds,d9H] using hd
   have d12:=dd_
   clear dd_
   have hS:L 23=false:=d1l hcl (j:=13) (by decide) hL
   clear hd hcl
   unfold d9H
   obtain rfl:=h.f12 d12
   obtain⟨z1,z2,z3,z4,z5⟩:=zs
   have sz:¬ (9223372036854775807<5+nm.size+1+(Txt.a0x u).size+1+(Txt.a0x lo).size+1):=by omega
   go_simp
   exact hK _ _ ⟨_,_,_,_,_,_,_,_,_,_,_,_,_,_,_,_,_,_,_,_,_,_,_,rfl,⟨h.f0,h.f1,h.f2,h.f3,h.f4,h.f5,h.f6,h.f7,h.f8,h.f9,h.f10,h.f11,fun _=>rfl,fun _=>rfl,h.f14,h.f15,h.f16,h.f17,h.f18,h.f19,h.f20,h.f21,h.cx,fun e=>noB hS e,h.sz⟩⟩
  |14,_,ho,hL,hd,hK =>
   obtain rfl:e2Y=o:=Option.some.inj ho
   have hS:L 23=false:=d1l hcl (j:=14) (by decide) hL
   clear hd hcl
   unfold e2Y
   go_simp
   exact hK _ _ ⟨_,_,_,_,_,_,_,_,_,_,_,_,_,_,_,_,_,_,_,_,_,_,_,rfl,⟨h.f0,h.f1,h.f2,h.f3,h.f4,h.f5,h.f6,h.f7,h.f8,h.f9,h.f10,h.f11,h.f12,h.f13,fun _=>rfl,h.f15,h.f16,h.f17,h.f18,h.f19,h.f20,h.f21,h.cx,fun e=>noB hS e,h.sz⟩⟩
  |15,_,ho,hL,hd,hK =>
   obtain rfl:d9G=o:=Option.some.inj ho
   have dd_:L 14=true/\L 11=true:=by simpa[Region.binds,d9G] using hd
   have d11:=dd_.2
   have d14:=dd_.1
   clear dd_
   have hS:L 23=false:=d1l hcl (j:=15) (by decide) hL
   clear hd hcl
   unfold d9G
   obtain rfl:=h.f11 d11
   obtain rfl:=h.f14 d14
   refine a2k (by rfl) 21 _ _ (by rfl) _ (by simp[Act.eval]) (c5r _ _) (a6O fr W (h.cx hS).any.env (by omega) (by omega)) ?_
   rintro e w7 ⟨rfl,hb7⟩
   refine⟨_,rfl,?_⟩
   exact hK _ _ ⟨_,_,_,_,_,_,_,_,_,_,_,_,_,_,_,_,_,_,_,_,_,_,_,rfl,⟨h.f0,h.f1,h.f2,h.f3,h.f4,h.f5,h.f6,h.f7,h.f8,h.f9,h.f10,fun _=>rfl,h.f12,h.f13,fun _=>rfl,fun _=>rfl,h.f16,h.f17,h.f18,h.f19,h.f20,h.f21,fun e=>(h.cx e).later hb7,fun e=>noB hS e,Nat.le_trans h.sz hb7.size⟩⟩
  |16,_,ho,hL,hd,hK =>
   obtain rfl:d9F=o:=Option.some.inj ho
   have dd_:L 13=true/\L 15=true:=by simpa[Region.binds,d9F] using hd
   have d13:=dd_.1
   have d15:=dd_.2
   clear dd_
   have hS:L 23=false:=d1l hcl (j:=16) (by decide) hL
   clear hd hcl
   unfold d9F
   obtain rfl:=h.f13 d13
   obtain rfl:=h.f15 d15
   obtain⟨z1,z2,z3,z4,z5⟩:=zs
   have sz:¬ (9223372036854775807<5+nm.size+1+(Txt.a0x u).size+1+(Txt.a0x lo).size+1+(Txt.a0x fr).size):=by omega
   go_simp
   exact hK _ _ ⟨_,_,_,_,_,_,_,_,_,_,_,_,_,_,_,_,_,_,_,_,_,_,_,rfl,⟨h.f0,h.f1,h.f2,h.f3,h.f4,h.f5,h.f6,h.f7,h.f8,h.f9,h.f10,h.f11,h.f12,fun _=>rfl,h.f14,fun _=>rfl,fun _=>rfl,h.f17,h.f18,h.f19,h.f20,h.f21,h.cx,fun e=>noB hS e,h.sz⟩⟩
  |17,_,ho,hL,hd,hK =>
   obtain rfl:d9E=o:=Option.some.inj ho
   have dd_:L 16=true:=by simpa[Region.binds,d9E] using hd
   have d16:=dd_
   clear dd_
   have hS:L 23=false:=d1l hcl (j:=17) (by decide) hL
   clear hd hcl
   unfold d9E
   obtain rfl:=h.f16 d16
   obtain⟨z1,z2,z3,z4,z5⟩:=zs
   have sz:¬ (9223372036854775807<5+nm.size+1+(Txt.a0x u).size+1+(Txt.a0x lo).size+1+(Txt.a0x fr).size+1):=by omega
   go_simp
   exact hK _ _ ⟨_,_,_,_,_,_,_,_,_,_,_,_,_,_,_,_,_,_,_,_,_,_,_,rfl,⟨h.f0,h.f1,h.f2,h.f3,h.f4,h.f5,h.f6,h.f7,h.f8,h.f9,h.f10,h.f11,h.f12,h.f13,h.f14,h.f15,fun _=>rfl,fun _=>rfl,h.f18,h.f19,h.f20,h.f21,h.cx,fun e=>noB hS e,h.sz⟩⟩
  |18,_,ho,hL,hd,hK =>
   obtain rfl:e2X=o:=Option.some.inj ho
   have hS:L 23=false:=d1l hcl (j:=18) (by decide) hL
   clear hd hcl
   unfold e2X
   go_simp
   exact hK _ _ ⟨_,_,_,_,_,_,_,_,_,_,_,_,_,_,_,_,_,_,_,_,_,_,_,rfl,⟨h.f0,h.f1,h.f2,h.f3,h.f4,h.f5,h.f6,h.f7,h.f8,h.f9,h.f10,h.f11,h.f12,h.f13,h.f14,h.f15,h.f16,h.f17,fun _=>rfl,h.f19,h.f20,h.f21,h.cx,fun e=>noB hS e,h.sz⟩⟩
  |19,_,ho,hL,hd,hK =>
   obtain rfl:d9D=o:=Option.some.inj ho
   have dd_:L 18=true/\L 15=true:=by simpa[Region.binds,d9D] using hd
   have d15:=dd_.2
   have d18:=dd_.1
   clear dd_
   have hS:L 23=false:=d1l hcl (j:=19) (by decide) hL
   clear hd hcl
   unfold d9D
   obtain rfl:=h.f15 d15
   obtain rfl:=h.f18 d18
   refine a2k (by rfl) 21 _ _ (by rfl) _ (by simp[Act.eval]) (c5r _ _) (a6O ti W (h.cx hS).any.env (by omega) (by omega)) ?_
   rintro e w7 ⟨rfl,hb7⟩
   refine⟨_,rfl,?_⟩
   exact hK _ _ ⟨_,_,_,_,_,_,_,_,_,_,_,_,_,_,_,_,_,_,_,_,_,_,_,rfl,⟨h.f0,h.f1,h.f2,h.f3,h.f4,h.f5,h.f6,h.f7,h.f8,h.f9,h.f10,h.f11,h.f12,h.f13,h.f14,fun _=>rfl,h.f16,h.f17,fun _=>rfl,fun _=>rfl,h.f20,h.f21,fun e=>(h.cx e).later hb7,fun e=>noB hS e,Nat.le_trans h.sz hb7.size⟩⟩
  |20,_,ho,hL,hd,hK =>
   obtain rfl:d9C=o:=Option.some.inj ho
   have dd_:L 17=true/\L 19=true:=by simpa[Region.binds,d9C] using hd
   have d17:=dd_.1
   have d19:=dd_.2
   clear dd_
   have hS:L 23=false:=d1l hcl (j:=20) (by decide) hL
   clear hd hcl
   unfold d9C
   obtain rfl:=h.f17 d17
   obtain rfl:=h.f19 d19
   obtain⟨z1,z2,z3,z4,z5⟩:=zs
   have sz:¬ (9223372036854775807<5+nm.size+1+(Txt.a0x u).size+1+(Txt.a0x lo).size+1+(Txt.a0x fr).size+1+(Txt.a0x ti).size):=by omega
   go_simp
   exact hK _ _ ⟨_,_,_,_,_,_,_,_,_,_,_,_,_,_,_,_,_,_,_,_,_,_,_,rfl,⟨h.f0,h.f1,h.f2,h.f3,h.f4,h.f5,h.f6,h.f7,h.f8,h.f9,h.f10,h.f11,h.f12,h.f13,h.f14,h.f15,h.f16,fun _=>rfl,h.f18,fun _=>rfl,fun _=>rfl,h.f21,h.cx,fun e=>noB hS e,h.sz⟩⟩
  |21,_,ho,hL,hd,hK =>
   obtain rfl:d9B=o:=Option.some.inj ho
   have dd_:L 0=true/\L 20=true/\L 19=true:=by simpa[Region.binds,d9B] using hd
   have d0:=dd_.1
   have d19:=dd_.2.2
   have d20:=dd_.2.1
   clear dd_
   have hS:L 23=false:=d1l hcl (j:=21) (by decide) hL
   clear hd hcl
   unfold d9B
   obtain rfl:=h.f0 d0
   obtain rfl:=h.f19 d19
   obtain rfl:=h.f20 d20
   have hcx:=h.cx hS
   rw[hL] at hcx
   refine a2k (by rfl) 20 _ _ (by rfl) _ (by simp[Act.eval]) (c6D _ _) (CA.line hcx RD RV RL RQ) ?_
   rintro e w7 ⟨a1,a2,a3,a4,n1,n2,c1,c2,c3,c4,rfl,hca,hsz⟩
   refine⟨_,rfl,?_⟩
   exact hK _ _ ⟨_,_,_,_,_,_,_,_,_,_,_,_,_,_,_,_,_,_,_,_,_,_,_,rfl,⟨fun _=>rfl,h.f1,h.f2,h.f3,h.f4,h.f5,h.f6,h.f7,h.f8,h.f9,h.f10,h.f11,h.f12,h.f13,h.f14,h.f15,h.f16,h.f17,h.f18,fun _=>rfl,fun _=>rfl,fun _=>⟨a1,a2,a3,a4,n1,n2,_,_,c1,c2,c3,c4,rfl⟩,fun _=>hca,fun e=>noB hS e,Nat.le_trans h.sz hsz⟩⟩
  |22,_,ho,hL,hd,hK =>
   obtain rfl:e2W=o:=Option.some.inj ho
   have hS:L 23=false:=d1l hcl (j:=22) (by decide) hL
   clear hd hcl
   unfold e2W
   have hcx:=h.cx hS
   rw[hL] at hcx
   go_simp
   exact hK _ _ ⟨_,_,_,_,_,_,_,_,_,_,_,_,_,_,_,_,_,_,_,_,_,_,_,rfl,⟨h.f0,h.f1,h.f2,h.f3,h.f4,h.f5,h.f6,h.f7,h.f8,h.f9,h.f10,h.f11,h.f12,h.f13,h.f14,h.f15,h.f16,h.f17,h.f18,h.f19,h.f20,h.f21,fun _=>hcx.alloc h.sz,fun e=>noB hS e,by have:=h.sz;simp;omega⟩⟩
  |23,_,ho,hL,hd,hK =>
   obtain rfl:d9A=o:=Option.some.inj ho
   have dd_:L 0=true/\L 1=true/\L 2=true/\L 3=true/\L 4=true/\L 5=true/\L 6=true/\L 7=true/\L 8=true/\L 9=true/\L 10=true/\L 11=true/\L 12=true/\L 13=true/\L 14=true/\L 15=true/\L 16=true/\L 17=true/\L 18=true/\L 19=true/\L 20=true/\L 21=true/\L 22=true:=by
    simp[Region.binds,d9A] at hd
    simp[hd]
   have d21:=dd_.2.2.2.2.2.2.2.2.2.2.2.2.2.2.2.2.2.2.2.2.2.1
   have d22:=dd_.2.2.2.2.2.2.2.2.2.2.2.2.2.2.2.2.2.2.2.2.2.2
   clear dd_
   clear hd hcl
   unfold d9A
   obtain⟨a1,a2,a3,a4,n1,n2,n3,n4,c1,c2,c3,c4,rfl⟩:=h.f21 d21
   have hcx:=h.cx hL
   rw[d21,d22] at hcx
   obtain⟨b,rfl,hb,hc⟩:=hcx.2 rfl
   obtain⟨y0,y1,y2,y3,y4,y5,y6,yf⟩:=Q7.of (hc.kb (List.mem_cons_self ..))
   have hfin:=CA.put hc LK hb 0 0 N (.slice a1 n1 c1) (.slice a2 n2 c2) (.slice a3 n3 c3) (.slice a4 n4 c4)
   have hsz7:=(a2R W b (.int .i64 0) (.int .i64 0) (.int .i64 N) (.slice a1 n1 c1) (.slice a2 n2 c2) (.slice a3 n3 c3) (.slice a4 n4 c4)).size
   go_simp
   exact hK _ _ ⟨_,_,_,_,_,_,_,_,_,_,_,_,_,_,_,_,_,_,_,_,_,_,_,rfl,⟨h.f0,h.f1,h.f2,h.f3,h.f4,h.f5,h.f6,h.f7,h.f8,h.f9,h.f10,h.f11,h.f12,h.f13,h.f14,h.f15,h.f16,h.f17,h.f18,h.f19,h.f20,fun _=>⟨a1,a2,a3,a4,n1,n2,n3,n4,c1,c2,c3,c4,rfl⟩,fun e=>(nomatch e),fun _=>⟨b,_,_,_,_,rfl,hfin⟩,Nat.le_trans h.sz hsz7⟩⟩
  |n+24,hj,_,_,_,_=>exact absurd hj (by omega)
open Desk (Ent St Ids kept a0C a0Q a1C a2e ofB a0y a2c Mid a1H a0z Inv a0h a2x a1q Rep b0g a1Q a9A a1e)
theorem e6K{t nm:ByteArray}{u lo fr til:Int}(hn:Nm nm)(hu:1<=u/\u<=9)(ho:1<=lo/\lo<=1048320)(hf:0<=fr/\fr<=1048320)(hl:0<=til/\til<=1048320)(ht:t.data.toList=b5h.data.toList++32 :: (nm.data.toList++32 :: ((Txt.a0x u).data.toList++32 :: ((Txt.a0x lo).data.toList++32 :: ((Txt.a0x fr).data.toList++32 :: (Txt.a0x til).data.toList))))):
  Reads t (.iface 172 (.agg #[.string nm,.int .i64 u,.int .i64 lo,.int .i64 fr,.int .i64 til])):=by
 obtain⟨u1,u2,u3⟩:=c5P hu.1 hu.2
 obtain⟨o1,o2,o3⟩:=f5e ho.1 ho.2
 obtain⟨f1,f2,f3⟩:=b1q hf.1 hf.2
 obtain⟨l1,l2,l3⟩:=b1q hl.1 hl.2
 have hw:Txt.a1v t=[b5h,nm,Txt.a0x u,Txt.a0x lo,Txt.a0x fr,Txt.a0x til]:=by
  refine Txt.a5p ?_ ?_
  ·rw[ht];simp only[List.map_cons,List.map_nil,Txt.a6Q,Txt.b3k]
  ·intro x hx
   simp only[List.mem_cons,List.not_mem_nil,or_false] at hx
   rcases hx with rfl|rfl|rfl|rfl|rfl|rfl
   ·exact a8t.2.2.2.2.2.2.2.2.1
   ·exact hn.w
   ·exact u3
   ·exact o3
   ·exact f3
   ·exact l3
 have hs:t.size<=160:=by
  have c:=Txt.a0I u (by omega) (by omega)
  have d:=Txt.a0I lo (by omega) (by omega)
  have a:=Txt.a0I fr (by omega) (by omega)
  have b:=Txt.a0I til (by omega) (by omega)
  rw[<- Txt.a1l] at a b c d ⊢
  rw[ht]
  have:=hn.s
  rw[<- Txt.a1l] at this
  simp only[List.length_append,List.length_cons]
  have:b5h.data.toList.length=4:=rfl
  omega
 generalize hW:[b5h,nm,Txt.a0x u,Txt.a0x lo,Txt.a0x fr,Txt.a0x til]=W at hw
 have t1:=takes (ws:=W) (n:=1) (x:=nm) (B:=nmB) (by rw[<- hW];rfl) hn.b
 have t2:=takes (ws:=W) (n:=2) (x:=Txt.a0x u) (B:=unB) (by rw[<- hW];rfl) u1
 have t3:=takes (ws:=W) (n:=3) (x:=Txt.a0x lo) (B:=miB) (by rw[<- hW];rfl) o1
 have t4:=takes (ws:=W) (n:=4) (x:=Txt.a0x fr) (B:=a0n) (by rw[<- hW];rfl) f1
 have t5:=takes (ws:=W) (n:=5) (x:=Txt.a0x til) (B:=a0n) (by rw[<- hW];rfl) l1
 have h:=a2H.find (ws:=W) (b1P (by rw[<- hW];rfl))
 simp only[a4T,a6y,t1.1,t2.1,t2.2,t3.1,t3.2,t4.1,t4.2,t5.1,t5.2,a8A (ws:=W) (n:=1) (by rw[<- hW];rfl) hn.b,u2,o2,f2,l2] at h
 exact a5G hw hs h (by rw[<- hW];rfl)
theorem e8X{s:St}(h:Inv s){nm:ByteArray}{u lo fr til:Int}(hu0:a0h nm s.ts≠0)(hu:u<=a0h nm s.ts)(hlt:fr<til):a1q s (.find nm u lo fr til)=(s,⟨0,0,a9A s.ts s.es nm u lo fr til,[],[],[],[]⟩):=by
 have e:Desk.a0g s (.find nm u lo fr til)=(s,⟨0,0,a9A s.ts s.es nm u lo fr til,[],[],[],[]⟩):=by
  have ha:Desk.a0S s.ts nm u=0:=by
   unfold Desk.a0S
   rw[if_neg hu0,if_neg (by omega)]
  simp only[Desk.a0g]
  rw[ha,if_neg (by simp),if_neg (by omega)]
  rfl
 rw[Desk.a8T h (by rw[e]),e]
theorem f1p{s:St}(h:Inv s){nm:ByteArray}{u lo fr til:Int}(hu:0<=u)(hl:1<=lo)(h0:0<=fr):
  -1<=a9A s.ts s.es nm u lo fr til/\(0<=a9A s.ts s.es nm u lo fr til->fr<=a9A s.ts s.es nm u lo fr til/\a9A s.ts s.es nm u lo fr til+lo<=til/\a1e s.ts s.es nm u [(a9A s.ts s.es nm u lo fr til,a9A s.ts s.es nm u lo fr til+lo)]=true) /\
  ∀ x,fr<=x->x+lo<=til->(a9A s.ts s.es nm u lo fr til<0\/x<=a9A s.ts s.es nm u lo fr til)->decide (a1Q nm s.es x (x+lo)+u<=a0h nm s.ts)=decide (x=a9A s.ts s.es nm u lo fr til):=by
 obtain⟨h1,h2⟩:=Desk.c3k (ts:=s.ts) (es:=s.es) (name:=nm) (a0c:=u) (long:=lo) (fr:=fr) (tq:=til) h.mid.pos hu h0 hl
 generalize a9A s.ts s.es nm u lo fr til=N at h1 h2 ⊢
 have key:∀ x,(a1Q nm s.es x (x+lo)+u<=a0h nm s.ts)↔a4X (fun y=>Desk.a0o nm y s.es) lo (a0h nm s.ts-u) x:=fun x=>by
  obtain⟨p1,y,y1,y2,y3⟩:=Desk.a6H (name:=nm) (a:=x) (b:=x+lo) h.mid.pos (by omega)
  have y3':Desk.a0o nm y s.es=a1Q nm s.es x (x+lo):=y3
  constructor
  ·intro c z z1 z2
   have:=p1 z z1 z2
   have:Desk.a0o nm z s.es<=a1Q nm s.es x (x+lo):=this
   show Desk.a0o nm z s.es<=_
   omega
  ·intro c
   have:=c y y1 y2
   have:Desk.a0o nm y s.es<=a0h nm s.ts-u:=this
   omega
 unfold Desk.c6U at h2
 by_cases hN:N<0
 ·rw[if_pos hN] at h2
  refine⟨h1,fun c=>absurd hN (by omega),fun x x1 x2 _=>?_⟩
  have hx:=mt (key x).1 (h2 x x1 x2)
  rw[decide_eq_false hx,decide_eq_false (by omega)]
 ·rw[if_neg hN] at h2
  obtain⟨r1,r2,r3,r4⟩:=h2
  refine⟨h1,fun _=>⟨r1,r2,?_⟩,fun x x1 x2 hx=>?_⟩
  ·rw[Desk.c0N h nm hu (by omega),Desk.a5y h nm (by omega)]
   exact decide_eq_true ((key N).2 r3)
  ·by_cases e:x=N
   ·subst e
    rw[decide_eq_true ((key x).2 r3),decide_eq_true rfl]
   ·rw[decide_eq_false (mt (key x).1 (r4 x x1 (by omega))),decide_eq_false e]
open Desk (Ent)
theorem b1y(L:List (Int × Int))(u v:Value)(w:World)(hu:SV w u L)(hv:SV w v L)(hl:L.length<=1000000):
  Calls Tryz.prog 35 #[u,v] w fun e w'=>e=.returned (.bool true)/\Below w.heap.size w w':=by
 obtain⟨a,ca,rfl⟩:=hu.form
 obtain⟨b,cb,rfl⟩:=hv.form
 have HU:=a0b hu
 have HV:=a0b hv
 clear hu hv
 have hb:((L.length:Int) != (L.length:Int))=false:=by simp
 go_enter Tryz.func35,Tryz.ntmps35
 go_wp2_with fail
 go_loopw [5] (fun v wr=>∃ k:Nat,k<=L.length/\v=.int .i64 k/\Below w.heap.size w wr) (fun v _=>L.length-(intOf v).toNat)
 case atStart=>exact⟨0,Nat.zero_le _,rfl,Below.refl _ _⟩
 case round =>
  obtain⟨k,hk,rfl,hbl⟩:=hrel
  have HB:=a0b hbl
  clear hbl
  by_cases hlt:k<L.length
  ·have hlt':(k:Int)<(L.length:Int):=by omega
   obtain⟨g,cap,e,a0,a1⟩:=(HU.out.later HB.out).cell k hlt
   simp only[Value.slice.injEq,true_and] at e
   obtain⟨rfl,rfl⟩:=e
   obtain⟨g2,cap2,e,b0,b1⟩:=(HV.out.later HB.out).cell k hlt
   simp only[Value.slice.injEq,true_and] at e
   obtain⟨rfl,rfl⟩:=e
   generalize L[k].1=x at *
   generalize L[k].2=y at *
   go_upto_region 6 with fail
   go_big_region
   have HBd:=a0b (HB.out.drew)
   clear HB
   go_wp2_with fail
   go_roundw
   case rel=>exact⟨k+1,by omega,by go_num,HBd.out⟩
   case measure=>simp[intOf];omega
  ·have hlt':¬ (k:Int)<(L.length:Int):=by omega
   go_wp2_with fail
   go_ret
   exact⟨rfl,HB.out⟩
theorem a9Q{B:Nat}{w w':World}(h:Below B w w')(n:Nat):Below B w (w'.drewN n):=⟨h.os,h.tape,h.output,h.size,h.block⟩
theorem a8V(l m:List (Ent × Value))(u v:Value)(w:World)(hu:EV w u l)(hv:EV w v m)(he:l.map (·.1)=m.map (·.1))(hl:l.length<=1000)(hs:∀ p∈l,p.1.a0e.length<=1000):
  Calls Tryz.prog 28 #[u,v] w fun e w'=>e=.returned (.bool true)/\Below w.heap.size w w':=by
 obtain⟨a,ca,rfl⟩:=hu.form
 obtain⟨b,cb,rfl⟩:=hv.form
 have hlen:m.length=l.length:=by have:=congrArg List.length he;simpa using this.symm
 have AT:Hid (∀ (k:Nat) (h:k<l.length) (h':k<m.length),m[k].1=l[k].1):=fun k h h'=>by
  have:=congrArg (fun x=>x[k]?) he
  simp only[List.getElem?_map,List.getElem?_eq_getElem h,List.getElem?_eq_getElem h',Option.map_some] at this
  exact (Option.some.inj this).symm
 have HU:=a0b hu
 have HV:=a0b hv
 have HS:=a0b hs
 rw[hlen]
 clear hu hv he hs
 have hb:((l.length:Int) != (l.length:Int))=false:=by simp
 go_enter Tryz.func28,Tryz.ntmps28
 go_wp2_with fail
 go_loopw [5,6] (fun v _ wr=>∃ k:Nat,k<=l.length/\v=.int .i64 k/\Below w.heap.size w wr) (fun v _ _=>l.length-(intOf v).toNat)
 case atStart=>exact⟨0,Nat.zero_le _,rfl,Below.refl _ _⟩
 case round =>
  obtain⟨k,hk,rfl,hbl⟩:=hrel
  have HB:=a0b hbl
  clear hbl
  by_cases hlt:k<l.length
  ·have hlt':(k:Int)<(l.length:Int):=by omega
   have hmt:k<m.length:=by omega
   obtain⟨g,cap,e,a0,a1,a2,a3,a4,a5⟩:=(HU.out.later HB.out).cell k hlt
   simp only[Value.slice.injEq,true_and] at e
   obtain⟨rfl,rfl⟩:=e
   obtain⟨g2,cap2,e,b0,b1,b2,b3,b4,b5⟩:=(HV.out.later HB.out).cell k hmt
   simp only[Value.slice.injEq,true_and] at e
   obtain⟨rfl,rfl⟩:=e
   have s1:=(HU.out.later HB.out).sp l[k] (List.getElem_mem hlt)
   have s2:=(HV.out.later HB.out).sp m[k] (List.getElem_mem hmt)
   rw[AT.out k hlt hmt] at b0 b1 b2 b3 b5 s2
   have SP:=a0b (fun W' (q:Below wr.heap.size wr W')=>b1y l[k].1.a0e l[k].2 m[k].2 W' (s1.later q) (s2.later q) (by have:=HS.out l[k] (List.getElem_mem hlt);omega))
   obtain⟨f1,f2,e1⟩:=s1.form
   obtain⟨f3,f4,e2⟩:=s2.form
   rw[e1] at a4 SP
   rw[e2] at b4 SP
   clear s1 s2 e1 e2
   generalize l[k].1=x at *
   have n0:(x.id != x.id)=false:=by simp
   have n1:(x.kind != x.kind)=false:=by simp
   have n3:(x.a0c != x.a0c)=false:=by simp
   have n5:(x.a0Z != x.a0Z)=false:=by simp
   have HBd:=a0b (HB.out.drew)
   have SS:Hid (∀ W',Below wr.drew.heap.size wr.drew W'->W'.cell? ⟨g,k*6,none⟩=some (.int .i64 x.id)/\W'.cell? ⟨g,k*6+1,none⟩=some (.int .i64 x.kind)/\W'.cell? ⟨g,k*6+2,none⟩=some (.string x.a0k)/\W'.cell? ⟨g,k*6+3,none⟩=some (.int .i64 x.a0c)/\W'.cell? ⟨g,k*6+4,none⟩=some (.slice f1 x.a0e.length f2)/\W'.cell? ⟨g,k*6+5,none⟩=some (.int .i64 x.a0Z)/\W'.cell? ⟨g2,k*6,none⟩=some (.int .i64 x.id)/\W'.cell? ⟨g2,k*6+1,none⟩=some (.int .i64 x.kind)/\W'.cell? ⟨g2,k*6+2,none⟩=some (.string x.a0k)/\W'.cell? ⟨g2,k*6+3,none⟩=some (.int .i64 x.a0c)/\W'.cell? ⟨g2,k*6+4,none⟩=some (.slice f3 x.a0e.length f4)/\W'.cell? ⟨g2,k*6+5,none⟩=some (.int .i64 x.a0Z)):=fun W' q=>⟨a0a q a0,a0a q a1,a0a q a2,a0a q a3,a0a q a4,a0a q a5,a0a q b0,a0a q b1,a0a q b2,a0a q b3,a0a q b4,a0a q b5⟩
   clear HB
   go_upto_region 6 with fail
   go_region_held3 (fun W'=>W'.cell? ⟨g,k*6,none⟩=some (.int .i64 x.id)/\W'.cell? ⟨g,k*6+1,none⟩=some (.int .i64 x.kind)/\W'.cell? ⟨g,k*6+2,none⟩=some (.string x.a0k)/\W'.cell? ⟨g,k*6+3,none⟩=some (.int .i64 x.a0c)/\W'.cell? ⟨g,k*6+4,none⟩=some (.slice f1 x.a0e.length f2)/\W'.cell? ⟨g,k*6+5,none⟩=some (.int .i64 x.a0Z)/\W'.cell? ⟨g2,k*6,none⟩=some (.int .i64 x.id)/\W'.cell? ⟨g2,k*6+1,none⟩=some (.int .i64 x.kind)/\W'.cell? ⟨g2,k*6+2,none⟩=some (.string x.a0k)/\W'.cell? ⟨g2,k*6+3,none⟩=some (.int .i64 x.a0c)/\W'.cell? ⟨g2,k*6+4,none⟩=some (.slice f3 x.a0e.length f4)/\W'.cell? ⟨g2,k*6+5,none⟩=some (.int .i64 x.a0Z))
    (first
     |with_reducible exact SS.out _ HB6.out
     |exact⟨a0,a1,a2,a3,a4,a5,b0,b1,b2,b3,b4,b5⟩)
    (first
     |(go_at_call 35;refine (SP.out _ (a0q _)).mono ?_;rintro e w6 ⟨rfl,hb6⟩;have HB6:=a0b hb6;clear hb6))
   have HF:Hid (Below w.heap.size w w6):=a0j HBd.out HB6.out (Nat.le_refl _)
   obtain⟨c0,c1,c2,c3,c4,c5,d0,d1,d2,d3,d4,d5⟩:=SS.out _ HB6.out
   clear HB6 HBd SS SP a0 a1 a2 a3 a4 a5 b0 b1 b2 b3 b4 b5
   have n2:(x.a0k.toList != x.a0k.toList)=false:=by simp
   have n2':(x.a0k.toList==x.a0k.toList)=true:=by simp
   go_upto_region 7 with fail
   go_quiet (fail)
   go_wp2_with fail
   go_roundw
   case rel=>exact⟨k+1,by omega,by go_num,a9Q HF.out _⟩
   case measure=>simp[intOf];omega
  ·have hlt':¬ (k:Int)<(l.length:Int):=by omega
   go_wp2_with fail
   go_ret
   exact⟨rfl,HB.out⟩
end Go.Proofs.YtjfkfiffakbagaaGreatDoor
