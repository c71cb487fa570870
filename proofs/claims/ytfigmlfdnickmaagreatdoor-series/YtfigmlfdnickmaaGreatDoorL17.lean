import Derived.Test.YtfigmlfdnickmaaGreatDoorL16
import Derived.RangeFuncKeeps
import Derived.RangeFuncBound
import Derived.RangeFuncLeaves
import Derived.Shelf.Abstract
import Derived.Shelf.RegionOpen
import Derived.OwnWalkIn
import Derived.TacticsInMore
import Derived.Deep.CutRange
import Derived.Deep.RegionWith
import Derived.Deep.RegionHeld3
set_option maxRecDepth 100000
set_option maxHeartbeats 8000000
variable{name:ByteArray}{e:Go.Proofs.YtfigmlfdnickmaaGreatDoor.Desk.Ent}{u:Int}{l:List (Go.Proofs.YtfigmlfdnickmaaGreatDoor.Desk.Ent × Go.Value)}{L:List (Int × Int)}{B b d i m n n₀:Nat}{col:Nat->Option Go.Proofs.YtfigmlfdnickmaaGreatDoor.Col}{r rw_:Go.Proofs.YtfigmlfdnickmaaGreatDoor.Raw}{s:Go.Proofs.YtfigmlfdnickmaaGreatDoor.Desk.St}{v:Go.Value}{w w' w3:Go.World}
namespace Go.Proofs.YtfigmlfdnickmaaGreatDoor
open Go.RowKit
open Desk (Ent St Ids kept a0C a0Q a1C a2e ofB a0y a2c Mid a1H a0z Inv)
theorem a9F{q:Rd.a0Y}(h:Desk.a0S s.ts name u≠0):Desk.a0g s (.series name u q)=(s,Desk.Rep.error (Desk.a0S s.ts name u)):=by
 have e:Desk.a2l s name u q=Desk.a0S s.ts name u:=by unfold Desk.a2l;rw[if_pos h]
 simp only[Desk.a0g];rw[e,if_pos h]
theorem a9E{q:Rd.a0Y}(hf:Rd.a6s q)(h:Desk.a0S s.ts name u=0)(h2:Rd.a0L q≠0):Desk.a0g s (.series name u q)=(s,Desk.Rep.error (Rd.a0L q)):=by
 have e1:=(Rd.a5K hf).1;have e:Desk.a2l s name u q=Rd.a0L q:=by unfold Desk.a2l;rw[if_neg (by omega),<- e1,if_pos h2]
 simp only[Desk.a0g];rw[e,if_pos h2]
theorem b5m{q:Rd.a0Y}(hf:Rd.a6s q)(h:Desk.a0S s.ts name u=0)(h2:Rd.a0L q=0):Desk.a0g s (.series name u q)=a1N s ⟨0,1,name,u,(a0U q).map (a4K q),0⟩:=by
 obtain⟨e1,e2⟩:=Rd.a5K hf;have e3:=(e2 (by rw[<- e1];exact h2)).1;have e4:(a0U q).map (a4K q)=Rd.a2M q (Rd.a0E q):=by unfold a0U;rw[if_pos h2,e3];rfl
 simp only[Desk.a0g];unfold Desk.a2l a1N;rw[if_neg (c:=Desk.a0S s.ts name u≠0) (by omega),<- e1,if_neg (c:=Rd.a0L q≠0) (by omega),e4]
 by_cases h3:s.given=60
 ·simp[h3]
 ·cases Desk.a1e s.ts s.es name u (Rd.a2M q (Rd.a0E q)) <;> simp[h3]
theorem b3B:∀ (i:Nat)(h:i<L.length),(L.flatMap spV)[i*2]?=some (.int .i64 L[i].1)/\(L.flatMap spV)[i*2+1]?=some (.int .i64 L[i].2):=by
 induction L with
 |nil=>intro i h;simp at h
 |cons a L ih =>
  intro i h
  cases i with
  |zero=>exact⟨rfl,rfl⟩
  |succ i =>
   obtain⟨h1,h2⟩:=ih i (by simpa using h);have e:(a :: L).flatMap spV=[.int .i64 a.1,.int .i64 a.2]++L.flatMap spV:=rfl;rw[e,show (i+1)*2=2+i*2 from by omega,show 2+i*2+1=2+(i*2+1) from by omega];constructor
   ·rw[List.getElem?_append_right (by simp)];simpa using h1
   ·rw[List.getElem?_append_right (by simp)];simpa using h2
theorem DSt.asksR(h:DSt w d s r col)(kb:Below w.heap.size w w3){g cap B0:Nat}(hi:i<r.tg.length)(hname:r.tg[i].name=name)(row:w3.ownsRow B0 60 2 (.slice (some ⟨g,0,none⟩) n cap) n (L.flatMap spV))(hn:n=L.length)(hB0:B<=B0)(hB:w.heap.size<=B)(ok:a1H s.now ⟨0,1,name,u,L,0⟩):
  b4h (w3.alloc (.cells #[.int .i64 0,.int .i64 1,.pointer (some ⟨r.tg[i].tb,0,none⟩),.int .i64 u,.slice (some ⟨g,0,none⟩) n cap,.int .i64 0] 200)) B d s r col ⟨⟨0,1,name,u,L,0⟩,w3.heap.size,g,cap,r.tg[i].tb⟩ i:=by
 have kz:Below w3.heap.size w3 (w3.alloc (.cells #[.int .i64 0,.int .i64 1,.pointer (some ⟨r.tg[i].tb,0,none⟩),.int .i64 u,.slice (some ⟨g,0,none⟩) n cap,.int .i64 0] 200)):=(zr _ _).alloc (zq _) _;have d1:=h.dk.later kb;have eb:=a0p w3 (.cells #[.int .i64 0,.int .i64 1,.pointer (some ⟨r.tg[i].tb,0,none⟩),.int .i64 u,.slice (some ⟨g,0,none⟩) n cap,.int .i64 0] 200);have gl:=row.lt g rfl;have hs:(w3.alloc (.cells #[.int .i64 0,.int .i64 1,.pointer (some ⟨r.tg[i].tb,0,none⟩),.int .i64 u,.slice (some ⟨g,0,none⟩) n cap,.int .i64 0] 200)).heap.size=w3.heap.size+1:=by simp
 have row2:=a1g row kz;generalize w3.alloc (.cells #[.int .i64 0,.int .i64 1,.pointer (some ⟨r.tg[i].tb,0,none⟩),.int .i64 u,.slice (some ⟨g,0,none⟩) n cap,.int .i64 0] 200)=Z at *;refine⟨⟨d1.later kz,h.of,h.wl,h.hl,h.inv⟩,⟨⟨?_,?_,?_,?_,fun j hj=>?_,?_⟩,?_,?_,fun o=>frozen_of_row _ _ _ _ _ eb,⟨_,eb⟩⟩,d1.none (zq _),h.dk.none (by show w.heap.size<=g;omega),(by show B<=w3.heap.size;omega),(by show B<=g;omega),(by show w3.heap.size≠g;omega),(by omega),hi,hname,rfl,ok⟩
 ·show Z.cell? ⟨w3.heap.size,0,none⟩=_;simp only[World.cell?,eb];rfl
 ·show Z.cell? ⟨w3.heap.size,2,none⟩=_;simp only[World.cell?,eb];rfl
 ·show Z.cell? ⟨w3.heap.size,3,none⟩=_;simp only[World.cell?,eb];rfl
 ·show Z.cell? ⟨w3.heap.size,4,none⟩=some (.slice (some ⟨g,0,none⟩) L.length cap);rw[<- hn];simp only[World.cell?,eb];rfl
 ·have hj':j<L.length:=hj;obtain⟨f1,f2⟩:=b3B j hj';have c0:=row2.cellAt (j*2) (by omega);have c1:=row2.cellAt (j*2+1) (by omega);exact⟨c0.trans f1,c1.trans f2⟩
 ·show g<_;omega
 ·show Z.cell? ⟨w3.heap.size,1,none⟩=_;simp only[World.cell?,eb];rfl
 ·show Z.cell? ⟨w3.heap.size,5,none⟩=_;simp only[World.cell?,eb];rfl
theorem b9z(w:World)(name:ByteArray)(u:Int)(q:Rd.a0Y):let X:=((w.alloc (.cells #[.string name,.int .i64 u,.int .i64 q.pc,.int .i64 q.ev,.bool (isd q.acc 0),.bool (isd q.acc 1),.bool (isd q.acc 2),.bool (isd q.acc 3),.bool (isd q.acc 4),.bool (isd q.acc 5),.bool (isd q.acc 6),.int .i64 q.fr,.int .i64 q.mn,.int .i64 q.mi,.int .i64 q.ti,.int .i64 q.un] 165)).alloc a0f);Below w.heap.size w X/\X.heap[w.heap.size+1]?=some a0f/\X.heap.size=w.heap.size+2/\X.heap[w.heap.size]?=some (.cells #[.string name,.int .i64 u,.int .i64 q.pc,.int .i64 q.ev,.bool (isd q.acc 0),.bool (isd q.acc 1),.bool (isd q.acc 2),.bool (isd q.acc 3),.bool (isd q.acc 4),.bool (isd q.acc 5),.bool (isd q.acc 6),.int .i64 q.fr,.int .i64 q.mn,.int .i64 q.mi,.int .i64 q.ti,.int .i64 q.un] 165 (0,0)):=by
 obtain⟨h1,h2⟩:=a2q (w:=w) (.cells #[.string name,.int .i64 u,.int .i64 q.pc,.int .i64 q.ev,.bool (isd q.acc 0),.bool (isd q.acc 1),.bool (isd q.acc 2),.bool (isd q.acc 3),.bool (isd q.acc 4),.bool (isd q.acc 5),.bool (isd q.acc 6),.int .i64 q.fr,.int .i64 q.mn,.int .i64 q.mi,.int .i64 q.ti,.int .i64 q.un] 165);exact⟨h1,h2,by simp,(Below.heap_alloc _ _ _ (by simp)).trans (a0p w _)⟩
theorem c6a{q:Rd.a0Y}(h:w.heap[b]?=some (.cells #[.string name,.int .i64 u,.int .i64 q.pc,.int .i64 q.ev,.bool (isd q.acc 0),.bool (isd q.acc 1),.bool (isd q.acc 2),.bool (isd q.acc 3),.bool (isd q.acc 4),.bool (isd q.acc 5),.bool (isd q.acc 6),.int .i64 q.fr,.int .i64 q.mn,.int .i64 q.mi,.int .i64 q.ti,.int .i64 q.un] 165 (0,0))):w.cell? ⟨b,0,none⟩=some (.string name):=by simp only[World.cell?,h];rfl
theorem c5Z{q:Rd.a0Y}(h:w.heap[b]?=some (.cells #[.string name,.int .i64 u,.int .i64 q.pc,.int .i64 q.ev,.bool (isd q.acc 0),.bool (isd q.acc 1),.bool (isd q.acc 2),.bool (isd q.acc 3),.bool (isd q.acc 4),.bool (isd q.acc 5),.bool (isd q.acc 6),.int .i64 q.fr,.int .i64 q.mn,.int .i64 q.mi,.int .i64 q.ti,.int .i64 q.un] 165 (0,0))):w.cell? ⟨b,1,none⟩=some (.int .i64 u):=by simp only[World.cell?,h];rfl
theorem c5Y{q:Rd.a0Y}(h:w.heap[b]?=some (.cells #[.string name,.int .i64 u,.int .i64 q.pc,.int .i64 q.ev,.bool (isd q.acc 0),.bool (isd q.acc 1),.bool (isd q.acc 2),.bool (isd q.acc 3),.bool (isd q.acc 4),.bool (isd q.acc 5),.bool (isd q.acc 6),.int .i64 q.fr,.int .i64 q.mn,.int .i64 q.mi,.int .i64 q.ti,.int .i64 q.un] 165 (0,0))):w.cell? ⟨b,2,none⟩=some (.int .i64 q.pc):=by simp only[World.cell?,h];rfl
theorem c5X{q:Rd.a0Y}(h:w.heap[b]?=some (.cells #[.string name,.int .i64 u,.int .i64 q.pc,.int .i64 q.ev,.bool (isd q.acc 0),.bool (isd q.acc 1),.bool (isd q.acc 2),.bool (isd q.acc 3),.bool (isd q.acc 4),.bool (isd q.acc 5),.bool (isd q.acc 6),.int .i64 q.fr,.int .i64 q.mn,.int .i64 q.mi,.int .i64 q.ti,.int .i64 q.un] 165 (0,0))):w.cell? ⟨b,3,none⟩=some (.int .i64 q.ev):=by simp only[World.cell?,h];rfl
theorem c5W{q:Rd.a0Y}(h:w.heap[b]?=some (.cells #[.string name,.int .i64 u,.int .i64 q.pc,.int .i64 q.ev,.bool (isd q.acc 0),.bool (isd q.acc 1),.bool (isd q.acc 2),.bool (isd q.acc 3),.bool (isd q.acc 4),.bool (isd q.acc 5),.bool (isd q.acc 6),.int .i64 q.fr,.int .i64 q.mn,.int .i64 q.mi,.int .i64 q.ti,.int .i64 q.un] 165 (0,0))):w.cell? ⟨b,4,none⟩=some (.bool (isd q.acc 0)):=by simp only[World.cell?,h];rfl
theorem c5V{q:Rd.a0Y}(h:w.heap[b]?=some (.cells #[.string name,.int .i64 u,.int .i64 q.pc,.int .i64 q.ev,.bool (isd q.acc 0),.bool (isd q.acc 1),.bool (isd q.acc 2),.bool (isd q.acc 3),.bool (isd q.acc 4),.bool (isd q.acc 5),.bool (isd q.acc 6),.int .i64 q.fr,.int .i64 q.mn,.int .i64 q.mi,.int .i64 q.ti,.int .i64 q.un] 165 (0,0))):w.cell? ⟨b,5,none⟩=some (.bool (isd q.acc 1)):=by simp only[World.cell?,h];rfl
theorem c5U{q:Rd.a0Y}(h:w.heap[b]?=some (.cells #[.string name,.int .i64 u,.int .i64 q.pc,.int .i64 q.ev,.bool (isd q.acc 0),.bool (isd q.acc 1),.bool (isd q.acc 2),.bool (isd q.acc 3),.bool (isd q.acc 4),.bool (isd q.acc 5),.bool (isd q.acc 6),.int .i64 q.fr,.int .i64 q.mn,.int .i64 q.mi,.int .i64 q.ti,.int .i64 q.un] 165 (0,0))):w.cell? ⟨b,6,none⟩=some (.bool (isd q.acc 2)):=by simp only[World.cell?,h];rfl
theorem c5T{q:Rd.a0Y}(h:w.heap[b]?=some (.cells #[.string name,.int .i64 u,.int .i64 q.pc,.int .i64 q.ev,.bool (isd q.acc 0),.bool (isd q.acc 1),.bool (isd q.acc 2),.bool (isd q.acc 3),.bool (isd q.acc 4),.bool (isd q.acc 5),.bool (isd q.acc 6),.int .i64 q.fr,.int .i64 q.mn,.int .i64 q.mi,.int .i64 q.ti,.int .i64 q.un] 165 (0,0))):w.cell? ⟨b,7,none⟩=some (.bool (isd q.acc 3)):=by simp only[World.cell?,h];rfl
theorem c5S{q:Rd.a0Y}(h:w.heap[b]?=some (.cells #[.string name,.int .i64 u,.int .i64 q.pc,.int .i64 q.ev,.bool (isd q.acc 0),.bool (isd q.acc 1),.bool (isd q.acc 2),.bool (isd q.acc 3),.bool (isd q.acc 4),.bool (isd q.acc 5),.bool (isd q.acc 6),.int .i64 q.fr,.int .i64 q.mn,.int .i64 q.mi,.int .i64 q.ti,.int .i64 q.un] 165 (0,0))):w.cell? ⟨b,8,none⟩=some (.bool (isd q.acc 4)):=by simp only[World.cell?,h];rfl
theorem c5R{q:Rd.a0Y}(h:w.heap[b]?=some (.cells #[.string name,.int .i64 u,.int .i64 q.pc,.int .i64 q.ev,.bool (isd q.acc 0),.bool (isd q.acc 1),.bool (isd q.acc 2),.bool (isd q.acc 3),.bool (isd q.acc 4),.bool (isd q.acc 5),.bool (isd q.acc 6),.int .i64 q.fr,.int .i64 q.mn,.int .i64 q.mi,.int .i64 q.ti,.int .i64 q.un] 165 (0,0))):w.cell? ⟨b,9,none⟩=some (.bool (isd q.acc 5)):=by simp only[World.cell?,h];rfl
theorem c4K{q:Rd.a0Y}(h:w.heap[b]?=some (.cells #[.string name,.int .i64 u,.int .i64 q.pc,.int .i64 q.ev,.bool (isd q.acc 0),.bool (isd q.acc 1),.bool (isd q.acc 2),.bool (isd q.acc 3),.bool (isd q.acc 4),.bool (isd q.acc 5),.bool (isd q.acc 6),.int .i64 q.fr,.int .i64 q.mn,.int .i64 q.mi,.int .i64 q.ti,.int .i64 q.un] 165 (0,0))):w.cell? ⟨b,10,none⟩=some (.bool (isd q.acc 6)):=by simp only[World.cell?,h];rfl
theorem c4J{q:Rd.a0Y}(h:w.heap[b]?=some (.cells #[.string name,.int .i64 u,.int .i64 q.pc,.int .i64 q.ev,.bool (isd q.acc 0),.bool (isd q.acc 1),.bool (isd q.acc 2),.bool (isd q.acc 3),.bool (isd q.acc 4),.bool (isd q.acc 5),.bool (isd q.acc 6),.int .i64 q.fr,.int .i64 q.mn,.int .i64 q.mi,.int .i64 q.ti,.int .i64 q.un] 165 (0,0))):w.cell? ⟨b,11,none⟩=some (.int .i64 q.fr):=by simp only[World.cell?,h];rfl
theorem c4I{q:Rd.a0Y}(h:w.heap[b]?=some (.cells #[.string name,.int .i64 u,.int .i64 q.pc,.int .i64 q.ev,.bool (isd q.acc 0),.bool (isd q.acc 1),.bool (isd q.acc 2),.bool (isd q.acc 3),.bool (isd q.acc 4),.bool (isd q.acc 5),.bool (isd q.acc 6),.int .i64 q.fr,.int .i64 q.mn,.int .i64 q.mi,.int .i64 q.ti,.int .i64 q.un] 165 (0,0))):w.cell? ⟨b,12,none⟩=some (.int .i64 q.mn):=by simp only[World.cell?,h];rfl
theorem c4H{q:Rd.a0Y}(h:w.heap[b]?=some (.cells #[.string name,.int .i64 u,.int .i64 q.pc,.int .i64 q.ev,.bool (isd q.acc 0),.bool (isd q.acc 1),.bool (isd q.acc 2),.bool (isd q.acc 3),.bool (isd q.acc 4),.bool (isd q.acc 5),.bool (isd q.acc 6),.int .i64 q.fr,.int .i64 q.mn,.int .i64 q.mi,.int .i64 q.ti,.int .i64 q.un] 165 (0,0))):w.cell? ⟨b,13,none⟩=some (.int .i64 q.mi):=by simp only[World.cell?,h];rfl
theorem c4G{q:Rd.a0Y}(h:w.heap[b]?=some (.cells #[.string name,.int .i64 u,.int .i64 q.pc,.int .i64 q.ev,.bool (isd q.acc 0),.bool (isd q.acc 1),.bool (isd q.acc 2),.bool (isd q.acc 3),.bool (isd q.acc 4),.bool (isd q.acc 5),.bool (isd q.acc 6),.int .i64 q.fr,.int .i64 q.mn,.int .i64 q.mi,.int .i64 q.ti,.int .i64 q.un] 165 (0,0))):w.cell? ⟨b,14,none⟩=some (.int .i64 q.ti):=by simp only[World.cell?,h];rfl
theorem c4F{q:Rd.a0Y}(h:w.heap[b]?=some (.cells #[.string name,.int .i64 u,.int .i64 q.pc,.int .i64 q.ev,.bool (isd q.acc 0),.bool (isd q.acc 1),.bool (isd q.acc 2),.bool (isd q.acc 3),.bool (isd q.acc 4),.bool (isd q.acc 5),.bool (isd q.acc 6),.int .i64 q.fr,.int .i64 q.mn,.int .i64 q.mi,.int .i64 q.ti,.int .i64 q.un] 165 (0,0))):w.cell? ⟨b,15,none⟩=some (.int .i64 q.un):=by simp only[World.cell?,h];rfl
theorem c3m(args:Array Value)(w:World):(callFunc 148 args).run Tryz.prog w=.ok (.enter 148 args) w:=by kernel_rfl
theorem c3n(args:Array Value)(w:World):(callFunc 144 args).run Tryz.prog w=.ok (.enter 144 args) w:=by kernel_rfl
theorem b7T(h:DSt w d s r col)(ht:Tab w)(h10:10<=w.heap.size)(name:ByteArray)(hn:name.size<=1000)(u:Int)(q:Rd.a0Y)(hl:Desk.a1O (.series name u q)):
  Calls Tryz.prog 95 #[.pointer (some ⟨d,0,none⟩),.agg #[.string name,.int .i64 u,.int .i64 q.pc,.int .i64 q.ev,.bool (isd q.acc 0),.bool (isd q.acc 1),.bool (isd q.acc 2),.bool (isd q.acc 3),.bool (isd q.acc 4),.bool (isd q.acc 5),.bool (isd q.acc 6),.int .i64 q.fr,.int .i64 q.mn,.int .i64 q.mi,.int .i64 q.ti,.int .i64 q.un]] w fun e w'=>∃ v,e=.returned v/\a0l w d col (Desk.a0g s (.series name u q)) v w':=by
 obtain⟨hX,hXQ,hsz,hXb⟩:=b9z w name u q;obtain⟨hu1,hu9,hf⟩:=hl;have HV:=a0b (b0O (h.dk.later hX) h.of h.mid name hn u);have DY:=a0b (b7z q hf ((w.alloc (.cells #[.string name,.int .i64 u,.int .i64 q.pc,.int .i64 q.ev,.bool (isd q.acc 0),.bool (isd q.acc 1),.bool (isd q.acc 2),.bool (isd q.acc 3),.bool (isd q.acc 4),.bool (isd q.acc 5),.bool (isd q.acc 6),.int .i64 q.fr,.int .i64 q.mn,.int .i64 q.mi,.int .i64 q.ti,.int .i64 q.un] 165)).alloc a0f) (a3c ht hX h10) (by rw[hsz];omega));have HH:=a0b h;have HX:=a0b (zA hX (zA hXQ hsz));have HA:=a0b (a9F (s:=s) (name:=name) (u:=u) (q:=q));have HE:=a0b (a9E (s:=s) (name:=name) (u:=u) hf);have HO:=a0b (b5m (s:=s) (name:=name) (u:=u) hf);have HFI:=a0b hf;have x0:=c6a hXb;have x1:=c5Z hXb;have x2:=c5Y hXb;have x3:=c5X hXb;have x4:=c5W hXb;have x5:=c5V hXb;have x6:=c5U hXb;have x7:=c5T hXb;have x8:=c5S hXb;have x9:=c5R hXb;have x10:=c4K hXb;have x11:=c4J hXb;have x12:=c4I hXb;have x13:=c4H hXb;have x14:=c4G hXb;have x15:=c4F hXb;unfold a1S at DY;clear h hX hXQ hsz hXb hf ht
 go_enter Tryz.func95,Tryz.ntmps95
 go_upto_region 1 with fail
 change Code.wp _ _ _ _ ((w.alloc (.cells #[.string name,.int .i64 u,.int .i64 q.pc,.int .i64 q.ev,.bool (isd q.acc 0),.bool (isd q.acc 1),.bool (isd q.acc 2),.bool (isd q.acc 3),.bool (isd q.acc 4),.bool (isd q.acc 5),.bool (isd q.acc 6),.int .i64 q.fr,.int .i64 q.mn,.int .i64 q.mi,.int .i64 q.ti,.int .i64 q.un] 165)).alloc a0f);generalize ((w.alloc (.cells #[.string name,.int .i64 u,.int .i64 q.pc,.int .i64 q.ev,.bool (isd q.acc 0),.bool (isd q.acc 1),.bool (isd q.acc 2),.bool (isd q.acc 3),.bool (isd q.acc 4),.bool (isd q.acc 5),.bool (isd q.acc 6),.int .i64 q.fr,.int .i64 q.mn,.int .i64 q.mi,.int .i64 q.ti,.int .i64 q.un] 165)).alloc a0f)=X at *;have BX:Hid (Below w.heap.size w X):=HX.out.1;have QX:Hid (Q7 X (w.heap.size+1)):=Q7.of HX.out.2.1
 go_wp2_with fail
 refine HV.out.mono ?_;rintro e w1 ⟨hp,rfl⟩;rcases hp with ⟨h1,rfl⟩|⟨h1,i,hi,e1,e2,rfl⟩
 ·have HD:=a0b (HA.out h1);generalize Desk.a0S s.ts name u=er at *;have hb1:(er != 0)=true:=by simpa using h1
  clear h1 HV HX DY HE HO HA x0 x1 x2 x3 x4 x5 x6 x7 x8 x9 x10 x11 x12 x13 x14 x15
  go_wp2_with fail
  refine (a0D er w1).mono ?_;rintro e w9 ⟨rfl,hb9⟩;have hq:=hb9.block (w.heap.size+1) (World.block_lt_of_cell? _ _ QX.out.q0)
  have HF:Hid (a0l w d col (Desk.a0g s (.series name u q)) (a0s er 0 0 (.slice none 0 0) (.slice none 0 0) (.slice none 0 0) (.slice none 0 0)) (a2w w9 (w.heap.size+1) (.int .i64 er) (.int .i64 0) (.int .i64 0) (.slice none 0 0) (.slice none 0 0) (.slice none 0 0) (.slice none 0 0))):=by
   rw[HD.out];exact HH.out.said (BX.out.trans (hb9.mono BX.out.size)) (by omega) er 0 _ _ _ _ _ _ _
  obtain⟨q0,q1,q2,q3,q4,q5,q6,fq⟩:=QX.out.later hq;simp only[a0s]
  go_wp2_with fail
  exact bodyPost_ret (v:=a0s er 0 0 (.slice none 0 0) (.slice none 0 0) (.slice none 0 0) (.slice none 0 0)) (by simp[results,Tryz.results95,go_sem,a0s,q0,q1,q2,q3,q4,q5,q6]) rfl ⟨_,rfl,HF.out⟩
 ·go_wp2_with fail
  refine DY.out.mono ?_;rintro e w2 ⟨da,rfl,own,hb2⟩;have BX2:Hid (Below w.heap.size w w2):=BX.out.trans (hb2.mono BX.out.size);have QX2:Hid (Q7 w2 (w.heap.size+1)):=QX.out.later (hb2.block _ (World.block_lt_of_cell? _ _ QX.out.q0));obtain⟨a1,cap1,rfl⟩:=b1C own
  by_cases he:Rd.a0L q=0
  ·have HD:=a0b (HO.out h1 he);have hb1:(Rd.a0L q != 0)=false:=by simpa using he
   obtain⟨es1,es2⟩:=Rd.a5K HFI.out;have edn:=es2 (by rw[<- es1];exact he);have edd:a0U q=Rd.a0E q:=by unfold a0U;rw[if_pos he,edn.1]
   have OK:Hid (a1H s.now ⟨0,1,name,u,(a0U q).map (a4K q),0⟩):=by
    obtain⟨p1,p2,p3,p4⟩:=Desk.Rd.spans_ok HFI.out (by rw[<- es1];exact he);have e4:(a0U q).map (a4K q)=Rd.a2M q (Rd.a0E q):=by rw[edd];rfl
    show a1H _ _;rw[e4];exact⟨hu1,hu9,p4,p3,p1,p2,.inl ⟨rfl,rfl⟩⟩
   have hpos:0<(a0U q).length:=List.length_pos_iff.2 (by rw[edd];exact edn.2.1);have h40:(a0U q).length<=40:=by rw[edd];exact edn.2.2.1
   have SP:=a0b (c1E q HFI.out (a0U q) (fun d hd=>by rw[edd] at hd;have:=Rd.a4x HFI.out hd;have:=HFI.out.f0;omega) (by omega) (.slice a1 (a0U q).length cap1) w1.heap.size w2.drew (b9R own));have hsz2:w.heap.size+2<=w2.drew.heap.size:=by have:=hb2.size;have:=HX.out.2.2;show w.heap.size+2<=w2.heap.size;omega
   have AS:=a0b (fun (w3:World) (g cap:Nat) (hb3:Below w2.drew.heap.size w2.drew w3) (row:w3.ownsRow w2.drew.heap.size 60 2 (.slice (some ⟨g,0,none⟩) (a0U q).length cap) (a0U q).length (((a0U q).map (a4K q)).flatMap spV)) =>
    a9B (HH.out.asksR (BX2.out.drew.trans (hb3.mono BX2.out.size)) (B:=w.heap.size+2) hi e1 row (by simp) hsz2 (by omega) OK.out))
   have AP:=a0b (fun (w3 w4:World) (g cap:Nat) (v:Value) (hb3:Below w2.drew.heap.size w2.drew w3) (ep:a1n (w3.alloc (.cells #[.int .i64 0,.int .i64 1,.pointer (some ⟨r.tg[i].tb,0,none⟩),.int .i64 u,.slice (some ⟨g,0,none⟩) (a0U q).length cap,.int .i64 0] 200)) (w.heap.size+2) d col (a1N s ⟨0,1,name,u,(a0U q).map (a4K q),0⟩) v w4) =>
    ep.ans (w:=w) (Q:=w.heap.size+1) (Step.below ((BX2.out.drew.trans (hb3.mono BX2.out.size)).trans (((zr w3.heap.size w3).alloc (zq _) _).mono (BX2.out.drew.trans (hb3.mono BX2.out.size)).size))) (by omega) (by omega) (by omega) (HH.out.dk.none (by omega)) ((QX2.out.later (w':=w2.drew) rfl).later (((Below.heap_alloc w3 _ _ (zL (World.block_lt_of_cell? _ _ QX2.out.q0) hb3.size))).trans (hb3.block _ (World.block_lt_of_cell? _ _ QX2.out.q0)))))
   have y1:=a0a hb2 x1;have y2:=a0a hb2 x2;have y3:=a0a hb2 x3;have y4:=a0a hb2 x4;have y5:=a0a hb2 x5;have y6:=a0a hb2 x6;have y7:=a0a hb2 x7;have y8:=a0a hb2 x8;have y9:=a0a hb2 x9;have y10:=a0a hb2 x10;have y11:=a0a hb2 x11;have y12:=a0a hb2 x12;have y13:=a0a hb2 x13;have y14:=a0a hb2 x14;have y15:=a0a hb2 x15;unfold a1S at SP;clear HV DY HE HO HA HX own hb2 edn edd es1 es2 OK h1 x0 x1 x2 x3 x4 x5 x6 x7 x8 x9 x10 x11 x12 x13 x14 x15 BX QX;generalize Rd.a0L q=er at *;subst he
   go_upto_region 7 with fail
   go_region_law (first
    |(refine a2k (by rfl) 148 _ _ (by rfl) _ (by simp[Act.eval]) (c3m _ _) SP.out ?_;rintro e w3 ⟨v',rfl,row,hb3⟩;refine⟨_,rfl,?_⟩;obtain⟨g,cap,rfl⟩:=Joins.ownsRow_form row hpos;have z1:=a0a hb3 y1;have EN:=a0b (AS.out w3 g cap hb3 row);have AQ:=a0b (fun w4 v ep=>AP.out w3 w4 g cap v hb3 ep);clear SP AS AP row)
    |(refine a2k (by rfl) 144 _ _ (by rfl) _ (by simp[Act.eval]) (c3n _ _) EN.out ?_;rintro e w4 ⟨v,rfl,ep⟩;refine⟨_,rfl,?_⟩;obtain⟨er,nn,rfl,q7,hf⟩:=AQ.out w4 v ep;have HF:Hid (a0l w d col (Desk.a0g s (.series name u q)) (a0s er 0 nn (.slice none 0 0) (.slice none 0 0) (.slice none 0 0) (.slice none 0 0)) (a2w w4 (w.heap.size+1) (.int .i64 er) (.int .i64 0) (.int .i64 nn) (.slice none 0 0) (.slice none 0 0) (.slice none 0 0) (.slice none 0 0))):=(by rw[HD.out];exact hf _ _ _ _ _ _ _);obtain⟨q0,q1,q2,q3,q4,q5,q6,fq⟩:=q7;clear ep hf EN AQ;simp only[a0s]))
   all_goals
    go_wp2_with fail
    exact bodyPost_ret (v:=a0s er 0 nn (.slice none 0 0) (.slice none 0 0) (.slice none 0 0) (.slice none 0 0)) (by simp[results,Tryz.results95,go_sem,a0s,q0,q1,q2,q3,q4,q5,q6]) rfl ⟨_,rfl,HF.out⟩
  ·have HD:=a0b (HE.out h1 he);generalize Rd.a0L q=er at *;have hb1:(er != 0)=true:=by simpa using he
   clear h1 HV HX DY HE HO HA x0 x1 x2 x3 x4 x5 x6 x7 x8 x9 x10 x11 x12 x13 x14 x15 own hb2 he
   go_wp2_with fail
   refine (a0D er w2).mono ?_;rintro e w9 ⟨rfl,hb9⟩;have hq:=hb9.block (w.heap.size+1) (World.block_lt_of_cell? _ _ QX2.out.q0)
   have HF:Hid (a0l w d col (Desk.a0g s (.series name u q)) (a0s er 0 0 (.slice none 0 0) (.slice none 0 0) (.slice none 0 0) (.slice none 0 0)) (a2w w9 (w.heap.size+1) (.int .i64 er) (.int .i64 0) (.int .i64 0) (.slice none 0 0) (.slice none 0 0) (.slice none 0 0) (.slice none 0 0))):=by
    rw[HD.out];exact HH.out.said (BX2.out.trans (hb9.mono BX2.out.size)) (by omega) er 0 _ _ _ _ _ _ _
   obtain⟨q0,q1,q2,q3,q4,q5,q6,fq⟩:=QX2.out.later hq;simp only[a0s]
   go_wp2_with fail
   exact bodyPost_ret (v:=a0s er 0 0 (.slice none 0 0) (.slice none 0 0) (.slice none 0 0) (.slice none 0 0)) (by simp[results,Tryz.results95,go_sem,a0s,q0,q1,q2,q3,q4,q5,q6]) rfl ⟨_,rfl,HF.out⟩
theorem b2l(h:DSt w d s rw_ col)(ht:Tab w)(h10:10<=w.heap.size)(name:ByteArray)(hn:name.size<=1000)(u:Int)(r:Rd.a0Y)(hl:Desk.a1O (.series name u r)):
  Calls Tryz.prog 64 #[.pointer (some ⟨d,0,none⟩),.iface 165 (.agg #[.string name,.int .i64 u,.int .i64 r.pc,.int .i64 r.ev,.bool (isd r.acc 0),.bool (isd r.acc 1),.bool (isd r.acc 2),.bool (isd r.acc 3),.bool (isd r.acc 4),.bool (isd r.acc 5),.bool (isd r.acc 6),.int .i64 r.fr,.int .i64 r.mn,.int .i64 r.mi,.int .i64 r.ti,.int .i64 r.un])] w fun e w'=>∃ v,e=.returned v/\a0l w d col (Desk.a0g s (.series name u r)) v w':=by
 have hX:Below w.heap.size w ((w.alloc a0f).alloc (.cells #[.string name,.int .i64 u,.int .i64 r.pc,.int .i64 r.ev,.bool (isd r.acc 0),.bool (isd r.acc 1),.bool (isd r.acc 2),.bool (isd r.acc 3),.bool (isd r.acc 4),.bool (isd r.acc 5),.bool (isd r.acc 6),.int .i64 r.fr,.int .i64 r.mn,.int .i64 r.mi,.int .i64 r.ti,.int .i64 r.un] 165)):=((zr _ _).alloc (zq _) _).alloc (by simp) _;have hq:((w.alloc a0f).alloc (.cells #[.string name,.int .i64 u,.int .i64 r.pc,.int .i64 r.ev,.bool (isd r.acc 0),.bool (isd r.acc 1),.bool (isd r.acc 2),.bool (isd r.acc 3),.bool (isd r.acc 4),.bool (isd r.acc 5),.bool (isd r.acc 6),.int .i64 r.fr,.int .i64 r.mn,.int .i64 r.mi,.int .i64 r.ti,.int .i64 r.un] 165)).heap[w.heap.size]?=some a0f:=(Below.heap_alloc _ _ _ (by simp)).trans (a0p w a0f);have hs:w.heap.size<((w.alloc a0f).alloc (.cells #[.string name,.int .i64 u,.int .i64 r.pc,.int .i64 r.ev,.bool (isd r.acc 0),.bool (isd r.acc 1),.bool (isd r.acc 2),.bool (isd r.acc 3),.bool (isd r.acc 4),.bool (isd r.acc 5),.bool (isd r.acc 6),.int .i64 r.fr,.int .i64 r.mn,.int .i64 r.mi,.int .i64 r.ti,.int .i64 r.un] 165)).heap.size:=by simp;omega
 have EF:=a0b (b7T (w:=((w.alloc a0f).alloc (.cells #[.string name,.int .i64 u,.int .i64 r.pc,.int .i64 r.ev,.bool (isd r.acc 0),.bool (isd r.acc 1),.bool (isd r.acc 2),.bool (isd r.acc 3),.bool (isd r.acc 4),.bool (isd r.acc 5),.bool (isd r.acc 6),.int .i64 r.fr,.int .i64 r.mn,.int .i64 r.mi,.int .i64 r.ti,.int .i64 r.un] 165))) ⟨h.dk.later hX,h.of,h.wl,h.hl,h.inv⟩ (a3c ht hX h10) (Nat.le_trans h10 hX.size) name hn u r hl);have HX:=a0b (zA hX (zA (Q7.of hq) (zA (h.dk.none (zq _)) hs)));clear h hX hq hs;unfold a0f at EF HX;have noThing:=d0q 165 (by decide);have noBook:=d2o 165 (by decide);have noHold:=d2F 165 (by decide);have noWait:=d3H 165 (by decide);have yesSeries:∀ (xT:TypeId) (v:Value) (w:World),(Instr.typeAssert (.iface 165 v) xT 165 true).run Tryz.prog w=.ok (.tuple #[v,.bool true]) w:=by intro xT v w;simp[Instr.typeAssert,go_sem,Result.andThen,run_underlying Tryz.underlying165]
 go_enter Tryz.func64,Tryz.ntmps64
 go_wp2_with fail
 refine EF.out.mono ?_;rintro e w2 ⟨v,rfl,ep⟩;obtain⟨er,at_,nn,a1,a2,a3,a4,n1,n2,n3,n4,c1,c2,c3,c4,rfl,q7,hf⟩:=ep.up HX.out.1 (zq _) HX.out.2.2.2 HX.out.2.2.1 HX.out.2.1;have HF:=a0b (hf (.int .i64 er) (.int .i64 at_) (.int .i64 nn) (.slice a1 n1 c1) (.slice a2 n2 c2) (.slice a3 n3 c3) (.slice a4 n4 c4));clear ep hf EF noThing noBook noHold noWait yesSeries;obtain⟨q0,q1,q2,q3,q4,q5,q6,fq⟩:=q7;simp only[a0s]
 go_wp2_with fail
 exact bodyPost_ret (v:=a0s er at_ nn (.slice a1 n1 c1) (.slice a2 n2 c2) (.slice a3 n3 c3) (.slice a4 n4 c4)) (by simp[results,Tryz.results64,go_sem,a0s,q0,q1,q2,q3,q4,q5,q6]) rfl ⟨_,rfl,HF.out⟩
theorem DSt.ansEntries{Z:World}(h:DSt w d s r col)(k:Below w.heap.size w Z){Q:Nat}(hQ:w.heap.size<=Q){en:Value}(er:a3j Z (Q+1) col en l)(a b c e f g i:Value):
  a0l w d col (s,⟨0,0,0,l.map (·.1),[],[],[]⟩) (a0s 0 0 0 en (.slice none 0 0) (.slice none 0 0) (.slice none 0 0)) (a2w Z Q a b c e f g i):=by
 have ko:=a2R Z Q a b c e f g i;have dz:=h.dk.later k;have nq:∀ b,Q<=b->col b=none:=fun b hb=>h.dk.none (by omega)
 have st:Step anyS w.heap.size col col Z (a2w Z Q a b c e f g i):=⟨⟨_,ko,fun x hx=>.inr (by have:x=Q:=List.mem_singleton.1 hx;subst this;exact⟨nq _ (zq _),hQ⟩)⟩,fun _ _ h=>h,fun _ _ h=>.inl h⟩
 have rp:a5m Z (Q+1) col (a0s 0 0 0 en (.slice none 0 0) (.slice none 0 0) (.slice none 0 0)) ⟨0,0,0,l.map (·.1),[],[],[]⟩ :=
  ⟨_,_,_,_,l,rfl,rfl,er,a2I.nil _ _ _,a2I.nil _ _ _,a2I.nil _ _ _,(fun b hb=>by cases hb),fun b hb=>by cases hb⟩
 exact⟨r,col,dz.off ko (fun x hx=>by have:x=Q:=List.mem_singleton.1 hx;subst this;exact nq _ (zq _)),h.of,h.wl,h.hl,(Step.below k).trans st,(rp.off ko (fun x hx=>by have:x=Q:=List.mem_singleton.1 hx;omega)).base (by omega)⟩
theorem b3W(h:DSt w d s rw_ col):
  Calls Tryz.prog 64 #[.pointer (some ⟨d,0,none⟩),.iface 183 (.agg #[])] w fun e w'=>∃ v,e=.returned v/\a0l w d col (Desk.a0g s .clock) v w':=by
 have hX:Below w.heap.size w ((w.alloc (.cells #[.int .i64 0,.int .i64 0,.int .i64 0,.slice none 0 0,.slice none 0 0,.slice none 0 0,.slice none 0 0] 40)).alloc (.cells #[] 183)):=((zr _ _).alloc (zq _) _).alloc (by simp) _;have hq:((w.alloc (.cells #[.int .i64 0,.int .i64 0,.int .i64 0,.slice none 0 0,.slice none 0 0,.slice none 0 0,.slice none 0 0] 40)).alloc (.cells #[] 183)).heap[w.heap.size]?=some a0f:=(Below.heap_alloc _ _ _ (by simp)).trans (a0p w a0f);have xn:=(h.dk.later hX).c0;rw[h.of.now] at xn;have HX:=a0b hX;have HH:=a0b h;have q7:=Q7.of hq;have HD:Hid (Desk.a0g s .clock=(s,⟨0,0,s.now,[],[],[],[]⟩)):=rfl;clear hX hq h;have noThing:=d0q 183 (by decide);have noBook:=d2o 183 (by decide);have noHold:=d2F 183 (by decide);have noWait:=d3H 183 (by decide);have noSeries:=d0K 183 (by decide);have noConfirm:=d0y 183 (by decide);have noCancel:=d1Q 183 (by decide);have noList:=d8g 183 (by decide);have noWaiting:=d2E 183 (by decide);have noPeak:=e3J 183 (by decide);have noFind:=e7l 183 (by decide);have noExpand:=e3K 183 (by decide);have noTick:=f3K 183 (by decide);have yesClock:∀ (xT:TypeId) (v:Value) (w:World),(Instr.typeAssert (.iface 183 v) xT 183 true).run Tryz.prog w=.ok (.tuple #[v,.bool true]) w:=by intro xT v w;simp[Instr.typeAssert,go_sem,Result.andThen,run_underlying Tryz.underlying183]
 go_enter Tryz.func64,Tryz.ntmps64
 go_upto_region 43 with fail
 change Code.wp _ _ _ _ ((w.alloc (.cells #[.int .i64 0,.int .i64 0,.int .i64 0,.slice none 0 0,.slice none 0 0,.slice none 0 0,.slice none 0 0] 40)).alloc (.cells #[] 183));generalize ((w.alloc (.cells #[.int .i64 0,.int .i64 0,.int .i64 0,.slice none 0 0,.slice none 0 0,.slice none 0 0,.slice none 0 0] 40)).alloc (.cells #[] 183))=X at *
 have HF:Hid (∀ a b c e f g i,a0l w d col (Desk.a0g s .clock) (a0s 0 0 s.now (.slice none 0 0) (.slice none 0 0) (.slice none 0 0) (.slice none 0 0)) (a2w X w.heap.size a b c e f g i)):=fun a b c e f g i=>by
  rw[HD.out];exact HH.out.said HX.out (zq _) 0 s.now a b c e f g i
 clear noThing noBook noHold noWait noSeries noConfirm noCancel noList noWaiting noPeak noFind noExpand noTick yesClock;obtain⟨q0,q1,q2,q3,q4,q5,q6,fq⟩:=q7
 go_wp2_with fail
 exact bodyPost_ret (v:=a0s 0 0 s.now (.slice none 0 0) (.slice none 0 0) (.slice none 0 0) (.slice none 0 0)) (by simp[results,Tryz.results64,go_sem,a0s,q0,q1,q2,q3,q4,q5,q6]) rfl ⟨_,rfl,HF.out _ _ _ _ _ _ _⟩
open Go.RowKit Go.Shelf
attribute [local go_sem] Oper.semAt_some
theorem b2Q{F:Fence}(hd:F.depth=none)(k:Nat):F.room k:=fun d h=>by rw[hd] at h;cases h
theorem RoundIn.anyDepth{F:Fence}(hd:F.depth=none){m':Nat}{P:Program}{l:Nat}{f:FuncId}{tmps:Array Value}{assign body:Code}{R:Ending->World->Prop}
  (h:RoundIn F m P l f tmps assign body w R):RoundIn F m' P l f tmps assign body w R:=⟨h.1,fun c cs _=>h.2 c cs (b2Q hd _)⟩
theorem YieldAt.anyDepth{F:Fence}(hd:F.depth=none)(m':Nat){P:Program}{l:Nat}{args:Array Value}{W:World}{R:Ending->World->Prop}(h:YieldAt F m P l args W R):YieldAt F m' P l args W R:=by
 obtain⟨fn,tmps,assign,body,hy,hR⟩:=h;exact⟨fn,tmps,assign,body,hy,RoundIn.anyDepth hd hR⟩
theorem a2G.belowN{x:Avl.It}(h:a2G w b x)(k:Below n₀ w w')(hb:b<n₀):a2G w' b x :=
 ⟨(k.cell (p:=⟨b,0,none⟩) hb).trans h.c0,(k.cell (p:=⟨b,1,none⟩) hb).trans h.c1,(k.cell (p:=⟨b,2,none⟩) hb).trans h.c2,(k.cell (p:=⟨b,3,none⟩) hb).trans h.c3,h.c4.imp (fun _=>(k.cell (p:=⟨b,4,none⟩) hb).trans),h.c5.imp (fun _=>(k.cell (p:=⟨b,5,none⟩) hb).trans),h.c6.imp (fun _=>(k.cell (p:=⟨b,6,none⟩) hb).trans),h.c7.imp (fun _=>(k.cell (p:=⟨b,7,none⟩) hb).trans),fun o=>(k.frozen (p:=⟨b,o,none⟩) hb).trans (h.fz o)⟩
theorem a2p.belowN{n₀:Nat}{w w':World}(k:Below n₀ w w'):∀ {t:Avl.S}{p:Value}{F:List Nat},a2p w t p F->(∀ i∈F,i<n₀)->a2p w' t p F
 |.nil,p,F,hr,_=>hr
 |.node a l r,p,F,hr,hd=>by
  obtain⟨b,pl,pr,Fl,Fr,rfl,n,c4,c5,c6,c7,hl,hr,rfl,nd⟩:=hr;have hb:b<n₀:=hd b (by simp);exact⟨b,pl,pr,Fl,Fr,rfl,n.belowN k hb,(k.cell (p:=⟨b,4,none⟩) hb).trans c4,(k.cell (p:=⟨b,5,none⟩) hb).trans c5,(k.cell (p:=⟨b,6,none⟩) hb).trans c6,(k.cell (p:=⟨b,7,none⟩) hb).trans c7,a2p.belowN k hl (fun i hi=>hd i (by simp[hi])),a2p.belowN k hr (fun i hi=>hd i (by simp[hi])),rfl,nd⟩
theorem b8b(F:Fence)(hd:F.depth=none)(h6:F.fn 255)(hro:F.round=none)(l n₀ N:Nat)(a b:Int){Q:Avl.It->Prop}(J Jx:List {x:Avl.It // Q x}->World->Prop)
  (hY:∀ m pre x W,J pre W->pre.length<N->YieldAt F m Tryz.prog l #[.pointer (some ⟨x.1.v,0,none⟩)] W fun e W' =>
   (e=.returned (.bool true)/\J (pre++[x]) W'/\Below n₀ W W')\/(e=.returned (.bool false)/\Jx (pre++[x]) W')) (t:Avl.S):
  ∀ (n:Nat) (p:Option Addr) (G:List Nat) (pre ys:List {x:Avl.It // Q x}) (W:World),a2p W t (.pointer p) G->(∀ i∈G,i<n₀)->ys.map (·.1)=Avl.meet a b t->J pre W->pre.length+ys.length<=N ->
   CallsIn F n Tryz.prog 255 #[.pointer p,.int .i64 a,.int .i64 b,.func (.yield l) #[] #[]] W fun e W' =>
    (e=.returned (.bool true)/\J (pre++ys) W'/\Below n₀ W W')\/(e=.returned (.bool false)/\∃ q,q <+: ys/\Jx (pre++q) W'):=by
 induction t with
 |nil =>
  intro n p G pre ys W ht _ hys hJ _;obtain⟨hp,_⟩:=ht
  cases hp
  obtain rfl:ys=[]:=List.map_eq_nil_iff.1 (hys.trans rfl);refine callsIn_of_wp Tryz.func255 rfl h6 ?_ hro;simp only[Tryz.ntmps255,List.size_toArray,List.length_cons,List.length_nil,Nat.reduceAdd,Nat.reduceSub,Array.replicate_succ,Array.replicate_zero,List.push_toArray,List.append_toArray,List.nil_append,List.cons_append]
  gi_wp2
  go_ret;exact .inl ⟨rfl,by simpa using hJ,Below.refl _ _⟩
 |node x tl tr ihl ihr =>
  intro n p G pre ys W ht hG hys hJ hN;obtain⟨bk,pl,pr,Fl,Fr,rfl,rfl,hh,c4,_⟩:=ht.half;have hdd:∀ k:Nat,(F.depth.isSome=true->1<=k):=fun k h=>by rw[hd] at h;cases h
  have hb:bk<n₀:=hG bk (by simp);have hGl:∀ i∈Fl,i<n₀:=fun i hi=>hG i (by simp[hi])
  have hGr:∀ i∈Fr,i<n₀:=fun i hi=>hG i (by simp[hi])
  generalize hla:Avl.late (.node x tl tr)=la at c4
  by_cases q1:la<=a
  ·obtain rfl:ys=[]:=by
    have:Avl.meet a b (.node x tl tr)=[]:=by rw[Avl.meet,hla,if_pos q1]
    exact List.map_eq_nil_iff.1 (hys.trans this)
   refine callsIn_of_wp Tryz.func255 rfl h6 ?_ hro;simp only[Tryz.ntmps255,List.size_toArray,List.length_cons,List.length_nil,Nat.reduceAdd,Nat.reduceSub,Array.replicate_succ,Array.replicate_zero,List.push_toArray,List.append_toArray,List.nil_append,List.cons_append]
   gi_wp2
   go_ret;exact .inl ⟨rfl,by simpa using hJ,Below.refl _ _⟩
  ·have em:Avl.meet a b (.node x tl tr)=Avl.meet a b tl++if b<=x.f then [] else (if a<x.t then [x] else [])++Avl.meet a b tr:=by rw[Avl.meet,hla,if_neg q1]
   rw[em] at hys;obtain⟨y1,y2,rfl,hy1,hy2⟩:=List.map_eq_append_iff.1 hys;clear em hys;simp only[List.length_append] at hN;have c0:=hh.n.c0;have c1:=hh.n.c1;have c3:=hh.n.c3;have c6:=hh.c6;have c7:=hh.c7
   by_cases q2:b<=x.f
   ·rw[if_pos q2] at hy2;obtain rfl:y2=[]:=List.map_eq_nil_iff.1 hy2
    have ih1:=(ihl (n-1) pl Fl pre y1 W hh.l hGl hy1 hJ (by simpa using hN)).mono (R':=fun e W1 =>
      (e=.returned (.bool true)/\J (pre++y1) W1/\Below n₀ W W1/\W1.cell? ⟨bk,0,none⟩=some (.int .i64 x.f))\/(e=.returned (.bool false)/\∃ q,q <+: y1/\Jx (pre++q) W1))
     (fun e W1 h=>h.elim (fun ⟨he,hj,hb1⟩=>.inl ⟨he,hj,hb1,(hb1.cell (p:=⟨bk,0,none⟩) hb).trans c0⟩) .inr)
    clear ihl ihr hh ht;refine callsIn_of_wp Tryz.func255 rfl h6 ?_ hro;simp only[Tryz.ntmps255,List.size_toArray,List.length_cons,List.length_nil,Nat.reduceAdd,Nat.reduceSub,Array.replicate_succ,Array.replicate_zero,List.push_toArray,List.append_toArray,List.nil_append,List.cons_append]
    gi_wp2_with (first
     |((try refine⟨hdd _,?_⟩);gi_at_call 255;refine ih1.mono ?_;clear ih1;rintro e W1 (⟨rfl,hJ1,hb1,c0'⟩|⟨rfl,q,hq,hx1⟩)))
    ·go_ret;exact .inl ⟨rfl,by simpa using hJ1,hb1⟩
    ·go_ret;exact .inr ⟨rfl,q,by simpa using hq,hx1⟩
   ·rw[if_neg q2] at hy2;have q2':x.f<b:=by omega
    obtain⟨y3,y4,rfl,hy3,hy4⟩:=List.map_eq_append_iff.1 hy2;clear hy2;simp only[List.length_append] at hN
    by_cases q3:a<x.t
    ·rw[if_pos q3] at hy3
     obtain⟨x',rfl,hx'⟩:∃ x':{x:Avl.It // Q x},y3=[x']/\x'.1=x:=by
      rcases y3 with _|⟨x',_|⟨z,r⟩⟩
      ·simp at hy3
      ·exact⟨x',rfl,by simpa using hy3⟩
      ·simp at hy3
     subst hx';simp only[List.length_cons,List.length_nil] at hN
     have hy2:∀ W1,J (pre++y1) W1->Below n₀ W W1->YieldAt F (n-1) Tryz.prog l #[.pointer (some ⟨x'.1.v,0,none⟩)] W1 fun e W2 =>
       (e=.returned (.bool true)/\J (pre++y1++[x']) W2/\Below n₀ W W2/\W2.cell? ⟨bk,7,none⟩=some (.pointer pr)/\a2p W2 tr (.pointer pr) Fr)\/(e=.returned (.bool false)/\Jx (pre++y1++[x']) W2):=fun W1 hJ1 hb1 =>
      YieldAt.mono (hY (n-1) _ x' W1 hJ1 (by simp;omega)) fun e W2 h=>h.elim
       (fun ⟨he,hj,hb2⟩=>.inl ⟨he,hj,hb1.trans hb2,((hb1.trans hb2).cell (p:=⟨bk,7,none⟩) hb).trans c7,hh.r.belowN (hb1.trans hb2) hGr⟩) .inr
     have ih1:=(ihl (n-1) pl Fl pre y1 W hh.l hGl hy1 hJ (by omega)).mono (R':=fun e W1 =>
       (e=.returned (.bool true)/\W1.cell? ⟨bk,0,none⟩=some (.int .i64 x'.1.f)/\W1.cell? ⟨bk,1,none⟩=some (.int .i64 x'.1.t)/\W1.cell? ⟨bk,3,none⟩=some (.pointer (some ⟨x'.1.v,0,none⟩))/\YieldAt F (n-1) Tryz.prog l #[.pointer (some ⟨x'.1.v,0,none⟩)] W1 fun e W2 =>
        (e=.returned (.bool true)/\J (pre++y1++[x']) W2/\Below n₀ W W2/\W2.cell? ⟨bk,7,none⟩=some (.pointer pr)/\a2p W2 tr (.pointer pr) Fr)\/(e=.returned (.bool false)/\Jx (pre++y1++[x']) W2)) \/
       (e=.returned (.bool false)/\∃ q,q <+: y1/\Jx (pre++q) W1))
      (fun e W1 h=>h.elim (fun ⟨he,hj,hb1⟩=>.inl ⟨he,(hb1.cell (p:=⟨bk,0,none⟩) hb).trans c0,(hb1.cell (p:=⟨bk,1,none⟩) hb).trans c1,(hb1.cell (p:=⟨bk,3,none⟩) hb).trans c3,hy2 W1 hj hb1⟩) .inr)
     clear hy2 ihl hh ht;refine callsIn_of_wp Tryz.func255 rfl h6 ?_ hro;simp only[Tryz.ntmps255,List.size_toArray,List.length_cons,List.length_nil,Nat.reduceAdd,Nat.reduceSub,Array.replicate_succ,Array.replicate_zero,List.push_toArray,List.append_toArray,List.nil_append,List.cons_append]
     gi_wp2_with (first
      |((try refine⟨hdd _,?_⟩);gi_at_call 255;refine ih1.mono ?_;clear ih1;rintro e W1 (⟨rfl,c0',c1',c3',fn,tmps,assign,body,hy,hR⟩|⟨rfl,q,hq,hx1⟩))
      |((try refine⟨hdd _,?_⟩);refine hR.mono ?_;clear hR;rintro e W2 (⟨rfl,hJ2,hb2,c7',hr2⟩|⟨rfl,hx2⟩))
      |((try refine⟨hdd _,?_⟩);gi_at_call 255;refine (ihr (n-1) pr Fr _ y4 _ hr2 hGr hy4 hJ2 (by simp;omega)).mono ?_;rintro e W3 (⟨rfl,hJ3,hb3⟩|⟨rfl,q,hq,hx3⟩)))
     ·go_ret;exact .inl ⟨rfl,by simpa[List.append_assoc] using hJ3,hb2.trans hb3⟩
     ·go_ret;obtain⟨r,hr'⟩:=hq;exact .inr ⟨rfl,y1++x' :: q,⟨r,by simp[<- hr']⟩,by simpa[List.append_assoc] using hx3⟩
     ·go_ret;exact .inr ⟨rfl,y1++[x'],⟨y4,by simp⟩,by simpa[List.append_assoc] using hx2⟩
     ·go_ret;exact .inr ⟨rfl,q,hq.trans ⟨_,rfl⟩,hx1⟩
    ·rw[if_neg q3] at hy3;obtain rfl:y3=[]:=List.map_eq_nil_iff.1 hy3;have q3':x.t<=a:=by omega
     simp only[List.length_nil] at hN
     have ih1:=(ihl (n-1) pl Fl pre y1 W hh.l hGl hy1 hJ (by omega)).mono (R':=fun e W1 =>
       (e=.returned (.bool true)/\W1.cell? ⟨bk,0,none⟩=some (.int .i64 x.f)/\W1.cell? ⟨bk,1,none⟩=some (.int .i64 x.t)/\W1.cell? ⟨bk,7,none⟩=some (.pointer pr)/\a2p W1 tr (.pointer pr) Fr/\J (pre++y1) W1/\Below n₀ W W1) \/
       (e=.returned (.bool false)/\∃ q,q <+: y1/\Jx (pre++q) W1))
      (fun e W1 h=>h.elim (fun ⟨he,hj,hb1⟩=>.inl ⟨he,(hb1.cell (p:=⟨bk,0,none⟩) hb).trans c0,(hb1.cell (p:=⟨bk,1,none⟩) hb).trans c1,(hb1.cell (p:=⟨bk,7,none⟩) hb).trans c7,hh.r.belowN hb1 hGr,hj,hb1⟩) .inr)
     clear ihl hh ht;refine callsIn_of_wp Tryz.func255 rfl h6 ?_ hro;simp only[Tryz.ntmps255,List.size_toArray,List.length_cons,List.length_nil,Nat.reduceAdd,Nat.reduceSub,Array.replicate_succ,Array.replicate_zero,List.push_toArray,List.append_toArray,List.nil_append,List.cons_append]
     gi_wp2_with (first
      |((try refine⟨hdd _,?_⟩);gi_at_call 255;refine ih1.mono ?_;clear ih1;rintro e W1 (⟨rfl,c0',c1',c7',hr2,hJ2,hb2⟩|⟨rfl,q,hq,hx1⟩))
      |((try refine⟨hdd _,?_⟩);gi_at_call 255;refine (ihr (n-1) pr Fr _ y4 _ hr2 hGr hy4 hJ2 (by simp;omega)).mono ?_;rintro e W3 (⟨rfl,hJ3,hb3⟩|⟨rfl,q,hq,hx3⟩)))
     ·refine⟨fun _ h=>(by cases h),?_⟩
      gi_wp2_with (first
       |((try refine⟨hdd _,?_⟩);gi_at_call 255;refine (ihr (n-1) pr Fr _ y4 _ hr2 hGr hy4 hJ2 (by simp;omega)).mono ?_;rintro e W3 (⟨rfl,hJ3,hb3⟩|⟨rfl,q,hq,hx3⟩)))
      ·go_ret;exact .inl ⟨rfl,by simpa[List.append_assoc] using hJ3,hb2.trans hb3⟩
      ·go_ret;obtain⟨r,hr'⟩:=hq;exact .inr ⟨rfl,y1++q,⟨r,by simp[<- hr']⟩,by simpa[List.append_assoc] using hx3⟩
     ·go_ret;exact .inr ⟨rfl,q,hq.trans ⟨_,rfl⟩,hx1⟩
theorem b3x(W:World):W.grownBy W.drew none:=⟨rfl,rfl,rfl,Nat.le_refl _,fun _ _ _=>rfl⟩
theorem b4b(l B1 B2 B3 n₀:Nat)(tb o:Nat)(p0:Option Addr)(a b:Int)(t:Avl.S)(G:List Nat){Q:Avl.It->Prop}(xs:List {x:Avl.It // Q x})(hxs:xs.map (·.1)=Avl.meet a b t)(J Jx:List {x:Avl.It // Q x}->World->Prop)
  (hY:∀ m pre x W,J pre W->pre.length<xs.length->YieldAt Fence.wide m Tryz.prog l #[.pointer (some ⟨x.1.v,0,none⟩)] W fun e W' =>
   (e=.returned (.bool true)/\J (pre++[x]) W'/\Below n₀ W W')\/(e=.returned (.bool false)/\Jx (pre++[x]) W'))
  (hJd:∀ pre W,J pre W->J pre W.drew)
  (W:World) (hB1:W.cell? ⟨B1,0,none⟩=some (.pointer (some ⟨tb,o,none⟩))) (hB2:W.cell? ⟨B2,0,none⟩=some (.int .i64 a)) (hB3:W.cell? ⟨B3,0,none⟩=some (.int .i64 b)) (hc:W.cell? ⟨tb,o,none⟩=some (.pointer p0)) (hT:a2p W t (.pointer p0) G) (hG:∀ i∈G,i<n₀) (h0:J [] W):
  Calls Tryz.prog 254 #[.func (.yield l) #[] #[],.pointer (some ⟨B1,0,none⟩),.pointer (some ⟨B2,0,none⟩),.pointer (some ⟨B3,0,none⟩)] W fun e W'=>(∃ v,e=.returned v) /\
   ((∃ ys,ys=xs/\J ys W')\/(∃ pre,pre <+: xs/\Jx pre W')):=by
 have hp:=callsIn_wide.1 (b8b Fence.wide rfl trivial rfl l n₀ xs.length a b J Jx hY t 0 p0 G [] xs W.drew (hT.same (Off.refl _ _).drew) hG hxs (hJd _ _ h0) (by simp))
 have hp2:=a0b (hp.mono (R':=fun e W'=>(∃ bv,e=.returned (.bool bv))/\((∃ ys,ys=xs/\J ys W')\/(∃ pre,pre <+: xs/\Jx pre W')))
  (fun e W' h=>h.elim (fun ⟨he,hj,_⟩=>⟨⟨_,he⟩,.inl ⟨_,rfl,by simpa using hj⟩⟩) (fun ⟨he,q,hq,hx⟩=>⟨⟨_,he⟩,.inr ⟨q,hq,by simpa using hx⟩⟩)))
 clear hp hY hJd h0 hxs hT hG
 go_enter Tryz.func254,Tryz.ntmps254
 go_upto_region 0 with fail
 go_region_with (first
  |(go_at_call 255;refine hp2.out.mono ?_;rintro e W1 ⟨⟨bv,rfl⟩,hfin⟩))
 all_goals
  go_wp2_with fail
  go_end0
  exact⟨⟨_,rfl⟩,hfin⟩
open Desk (Ent St Ids kept a0C a0Q a1C a2e ofB a0y a2c Mid a1H a0z Inv uniq a5s a6u)
def QI(r:Raw)(x:Avl.It):Prop:=∃ g∈r.eg,x.v=g.eb/\x.n=g.e.id
theorem b8d(ho:Of s r)(hn:(r.eg.map (·.e.id)).Nodup)(hi:i<r.tg.length){a b:Int}{z:Avl.It}(hz:z∈Avl.meet a b r.tg[i].T):QI r z:=by
 obtain⟨_,h1,h2⟩:=ho.th i hi;rw[Avl.b1J a b _ h1] at hz;obtain⟨e,he,_,sp,_,rfl⟩:=(h2 z).1 (List.mem_filter.1 hz).1;obtain⟨g,hg,rfl⟩:=ho.get he;exact⟨g,hg,b2j hn hg,rfl⟩
def c1U(r:Raw):(l:List Avl.It)->(∀ z∈l,QI r z)->List {x:Avl.It // QI r x}
 |[],_=>[]
 |z :: l,h=>⟨z,h z (by simp)⟩ :: c1U r l (fun y hy=>h y (by simp[hy]))
theorem b2v(r:Raw):∀ (l:List Avl.It)(h:∀ z∈l,QI r z),(c1U r l h).map (·.1)=l
 |[],_=>rfl
 |z :: l,h=>by simp[c1U,b2v r l]
structure a4M(s:St)(M:List Avl.It)(l:List (Ent × Value)):Prop where
 len:l.length=(uniq M).length
 at_:∀ (i:Nat) (h:i<l.length),l[i].1∈s.es/\l[i].1.id=((uniq M)[i]'(by omega)).n
 nd:(l.map (·.1.id)).Nodup
theorem a4M.nil(s:St):a4M s [] []:=⟨rfl,fun i h=>by simp at h,by simp⟩
theorem a4M.any{M:List Avl.It}(h:a4M s M l)(n:Int):l.any (fun p=>p.1.id==n)=(uniq M).any (fun u=>decide (u.n=n)):=by
 rw[Bool.eq_iff_iff,List.any_eq_true,List.any_eq_true];constructor
 ·rintro ⟨p,hp,e⟩;obtain⟨i,hi,rfl⟩:=List.getElem_of_mem hp;have:=h.at_ i hi;exact⟨_,List.getElem_mem (by have:=h.len;omega:i<(uniq M).length),by simpa[<- this.2] using e⟩
 ·rintro ⟨u,hu,e⟩;obtain⟨i,hi,rfl⟩:=List.getElem_of_mem hu;have hl:i<l.length:=by rw[h.len];exact hi
  have:=h.at_ i hl;exact⟨_,List.getElem_mem hl,by rw[this.2];simpa using e⟩
theorem a4M.old{M:List Avl.It}(h:a4M s M l){z:Avl.It}(ha:l.any (fun p=>p.1.id==z.n)=true):a4M s (M++[z]) l:=by
 have e:uniq (M++[z])=uniq M:=by rw[a6u];unfold a5s;rw[<- h.any z.n,ha];rfl
 exact⟨by rw[e];exact h.len,fun i hi=>by have:=h.at_ i hi;simp only[e];exact this,h.nd⟩
theorem a4M.new_at{M:List Avl.It}(h:a4M s M l){z:Avl.It}(eu:uniq (M++[z])=uniq M++[z])(he:e∈s.es)(hn:e.id=z.n){sp:Value}(hi:i<(l++[(e,sp)]).length):(l++[(e,sp)])[i].1∈s.es/\(l++[(e,sp)])[i].1.id=((uniq (M++[z]))[i]'(by rw[eu];have:=h.len;simp at hi ⊢;omega)).n:=by
 have hlen:=h.len;simp only[eu];rw[List.length_append] at hi
 by_cases hlt:i<l.length
 ·rw[List.getElem_append_left hlt,List.getElem_append_left (by omega)];exact h.at_ i hlt
 ·have hie:i=l.length:=by simp at hi;omega
  subst hie;rw[List.getElem_append_right (zq _),List.getElem_append_right (by omega)];simp[hlen,he,hn]
theorem a4M.new{M:List Avl.It}(h:a4M s M l){z:Avl.It}(ha:l.any (fun p=>p.1.id==z.n)=false)(he:e∈s.es)(hn:e.id=z.n)(sp:Value):a4M s (M++[z]) (l++[(e,sp)]):=by
 have eu:uniq (M++[z])=uniq M++[z]:=by rw[a6u];unfold a5s;rw[<- h.any z.n,ha];rfl
 have hlen:=h.len;refine⟨by rw[eu];simp[hlen],fun i hi=>?_,?_⟩
 ·exact a4M.new_at h eu he hn hi
 ·rw[List.map_append,List.nodup_append];refine⟨h.nd,by simp,fun x hx y hy=>?_⟩;obtain⟨p,hp,rfl⟩:=List.mem_map.1 hx;have:y=e.id:=by simpa using hy
  subst this;intro c;have:=List.any_eq_false.1 ha p hp;simp[c,hn] at this
theorem b6D:∀ {l m:List Int},l.Nodup->(∀ x∈l,x∈m)->l.length<=m.length
 |[],_,_,_=>zN _
 |a :: l,m,hn,h=>by
  rw[List.nodup_cons] at hn;have ha:=h a (by simp);have:=b6D (l:=l) (m:=m.erase a) hn.2 (fun x hx=>(List.mem_erase_of_ne (show x≠a from fun e=>hn.1 (by rw[<- e];exact hx))).2 (h x (by simp[hx])));rw[List.length_erase_of_mem ha] at this;have:=List.length_pos_of_mem ha;simp;omega
theorem a4M.small{M:List Avl.It}(h:a4M s M l):l.length<=s.es.length:=by
 have:=b6D (m:=s.es.map (·.id)) h.nd (fun x hx=>by
  obtain⟨p,hp,rfl⟩:=List.mem_map.1 hx;obtain⟨i,hi,rfl⟩:=List.getElem_of_mem hp
  exact List.mem_map.2 ⟨_,(h.at_ i hi).1,rfl⟩)
 simpa using this
theorem b4O{e size:Nat}{xs:List Value}(h:w.ownsRow B e size v n xs)(hb:v.ownBlock=some b):∃ cs k,w.heap[b]?=some (.cells cs e k):=by
 rcases h.2 with ⟨rfl,_⟩|⟨g,cap,cur,rfl,_,hgb,_⟩
 ·cases hb
 ·obtain rfl:g=b:=by simpa[Value.ownBlock] using hb
  exact⟨_,_,hgb⟩
theorem a3j.snocT{wx w2:World}(h:a3j wx B col v l){sp:Value}(ho:w2.ownsRow wx.heap.size 60 2 sp e.a0e.length (e.a0e.flatMap spV))(k:Below wx.heap.size wx w2)(hB:B<=wx.heap.size)(hc:∀ b,B<=b->col b=none)(k3:Off v.ownBlock.toList w2 w3){v':Value}(hown:w3.ownsRow B 58 6 v' (l.length+1) (l.flatMap a1f++a1f (e,sp))):
  a3j w3 B col v' (l++[(e,sp)]):=by
 have hvb:∀ b,v.ownBlock=some b->b<wx.heap.size:=fun b hb=>(h.own.lt b hb).2
 have o1:∀ p∈l,w3.ownsRow B 60 2 p.2 p.1.a0e.length (p.1.a0e.flatMap spV):=fun p hp=>a1i (a1g (h.sp p hp).1.own k) k3 (fun b hb hx=>(h.sp p hp).2 b hb (Option.mem_toList.1 hx))
 have o2:w3.ownsRow B 60 2 sp e.a0e.length (e.a0e.flatMap spV):=a1i (Joins.ownsRow_le ho hB) k3 (fun b hb hx=>by have h1:=(ho.lt b hb).1;have h2:=hvb b (Option.mem_toList.1 hx);omega)
 have ne:∀ {q:Value}{n:Nat}{xs:List Value},w3.ownsRow B 60 2 q n xs->∀ b,q.ownBlock=some b->v'.ownBlock≠some b:=fun hq b hb hx=>by
  obtain⟨c1,k1,e1⟩:=b4O hq hb;obtain⟨c2,k2,e2⟩:=b4O hown hx;have:=e1.symm.trans e2;simp at this
 refine⟨?_,fun b hb=>hc b (hown.lt b hb).1,fun p hp=>?_,?_⟩
 ·rw[List.length_append,List.flatMap_append];have:[(e,sp)].flatMap a1f=a1f (e,sp):=by simp
  rw[this];exact hown
 ·rcases List.mem_append.1 hp with hp|hp
  ·exact⟨⟨o1 p hp,(h.sp p hp).1.no⟩,ne (o1 p hp)⟩
  ·have:p=(e,sp):=List.mem_singleton.1 hp;subst this;exact⟨⟨o2,fun b hb=>hc b (o2.lt b hb).1⟩,ne o2⟩
 ·refine List.pairwise_append.2 ⟨h.pw,List.pairwise_singleton _ _,fun p hp q hq b hb hx=>?_⟩;rw[List.mem_singleton.1 hq] at hx;have h1:=(ho.lt b hx).1;have h2:=((h.sp p hp).1.own.lt b hb).2;omega
theorem b5L(p:Option Addr)(a b:Int)(w:World):
  Calls Tryz.prog 207 #[.pointer p,.int .i64 a,.int .i64 b] w fun e w'=>e=.returned (.func (.func 254) #[] #[.pointer (some ⟨w.heap.size,0,none⟩),.pointer (some ⟨w.heap.size+1,0,none⟩),.pointer (some ⟨w.heap.size+2,0,none⟩)])/\w'=((w.alloc (.cells #[.pointer p] 301)).alloc (.cells #[.int .i64 a] 3)).alloc (.cells #[.int .i64 b] 3):=by
 go_enter Tryz.func207,Tryz.ntmps207
 go_wp2_with fail
 go_ret;exact⟨rfl,rfl⟩
theorem b8c(n:Nat)(r:Raw)(B1 B2 B3 n₀ tb o:Nat)(p0:Option Addr)(a b:Int)(t:Avl.S)(G:List Nat)(xs:List {x:Avl.It // QI r x})(hxs:xs.map (·.1)=Avl.meet a b t)(w:World)(h1:w.cell? ⟨B1,0,none⟩=some (.pointer (some ⟨tb,o,none⟩)))(h2:w.cell? ⟨B2,0,none⟩=some (.int .i64 a))(h3:w.cell? ⟨B3,0,none⟩=some (.int .i64 b))(hc:w.cell? ⟨tb,o,none⟩=some (.pointer p0))(hT:a2p w t (.pointer p0) G)(hG:∀ i∈G,i<n₀)(hn:n₀<=w.heap.size):
  SeqStopsK Fence.wide n Tryz.prog 254 #[.pointer (some ⟨B1,0,none⟩),.pointer (some ⟨B2,0,none⟩),.pointer (some ⟨B3,0,none⟩)] (fun x:{x:Avl.It // QI r x}=>#[Value.pointer (some ⟨x.1.v,0,none⟩)]) (Below n₀) (fun ys=>ys=xs) (fun pre=>pre <+: xs) xs.length w:=by
 intro l J Jx W hW hJ _ hY h0;refine callsIn_wide.2 ?_;exact b4b l B1 B2 B3 n₀ tb o p0 a b t G xs hxs J Jx (fun m pre x W' hp hl=>YieldAt.anyDepth rfl m (hY pre x W' hp hl)) (fun pre W' hp=>hJ pre W' _ none hp (b3x W') (fun r e=>by cases e)) W (a0a hW h1) (a0a hW h2) (a0a hW h3) (a0a hW hc) (hT.belowN (hW.mono hn) hG) hG h0
end Go.Proofs.YtfigmlfdnickmaaGreatDoor
