import Derived.Test.YtfigmlfdnickmaaGreatDoorL15
import Derived.Lib.ItoaNum
import Derived.Deep.RegionHeld3
import Derived.Deep.AppendLies
set_option maxRecDepth 100000
set_option maxHeartbeats 8000000
variable{nm s t x:ByteArray}{B:ByteArray->Bool}{ev' fr mi mn pc pc' ti ti' til u un un':Int}{ws:List ByteArray}{acc acc':List Int}{F d n:Nat}{s' st:Nat × Bool}{col:Nat->Option Go.Proofs.YtfigmlfdnickmaaGreatDoor.Col}{r rw_:Go.Proofs.YtfigmlfdnickmaaGreatDoor.Raw}{v y:Go.Value}{w w' w0:Go.World}
namespace Go.Proofs.YtfigmlfdnickmaaGreatDoor
open Go.RowKit
open Desk (Ent St Ids kept a0C a0Q a1C a2e ofB a0y a2c Mid a1H a0z Inv)
theorem a6V{s:St}{name:ByteArray}(hm:Mid s)(h:a1c s name 0 fr til≠0):Desk.a0g s (.list name fr til)=(s,Desk.Rep.error (a1c s name 0 fr til)):=by
 have hn:=Desk.a4g hm.tu name;simp only[Desk.a0g];unfold a1c Desk.a0S at *
 by_cases h1:Desk.a0h name s.ts=0
 ·rw[if_pos h1];simp[h1]
 ·have h2:¬ (Desk.a0h name s.ts<0):=by omega
  simp only[h1,h2] at h ⊢
  by_cases h3:til<=fr
  ·simp[h3]
  ·simp[h3] at h
theorem b3H{s:St}{name:ByteArray}(h:a1c s name 0 fr til=0):Desk.a0g s (.list name fr til)=(s,⟨0,0,0,Desk.a2x name fr til s.es,[],[],[]⟩):=by
 obtain⟨h1,h2⟩:=a1E h;have h3:Desk.a0h name s.ts≠0:=fun e=>by unfold Desk.a0S at h1;rw[if_pos e] at h1;omega
 simp only[Desk.a0g];rw[if_neg h3,if_neg (by omega)];rfl
theorem b3e(name:ByteArray)(wi:Bool)(fr til a b:Int):Below w.heap.size w (((w.alloc (.cells #[.string name,.bool wi,.int .i64 fr,.int .i64 til] 170)).alloc a0f).alloc (.cells #[.int .i64 a,.int .i64 b] 60))/\(((w.alloc (.cells #[.string name,.bool wi,.int .i64 fr,.int .i64 til] 170)).alloc a0f).alloc (.cells #[.int .i64 a,.int .i64 b] 60)).heap[w.heap.size+1]?=some a0f/\(((w.alloc (.cells #[.string name,.bool wi,.int .i64 fr,.int .i64 til] 170)).alloc a0f).alloc (.cells #[.int .i64 a,.int .i64 b] 60)).cell? ⟨w.heap.size+1+1,0,none⟩=some (.int .i64 a)/\(((w.alloc (.cells #[.string name,.bool wi,.int .i64 fr,.int .i64 til] 170)).alloc a0f).alloc (.cells #[.int .i64 a,.int .i64 b] 60)).cell? ⟨w.heap.size+1+1,1,none⟩=some (.int .i64 b)/\(((w.alloc (.cells #[.string name,.bool wi,.int .i64 fr,.int .i64 til] 170)).alloc a0f).alloc (.cells #[.int .i64 a,.int .i64 b] 60)).heap.size=w.heap.size+3:=by
 have h1:=a0p (w.alloc (.cells #[.string name,.bool wi,.int .i64 fr,.int .i64 til] 170)) a0f;have h2:=a0p ((w.alloc (.cells #[.string name,.bool wi,.int .i64 fr,.int .i64 til] 170)).alloc a0f) (.cells #[.int .i64 a,.int .i64 b] 60);rw[World.size_alloc] at h1;rw[World.size_alloc,World.size_alloc] at h2;refine⟨(((zr _ _).alloc (zq _) _).alloc (by simp) _).alloc (by rw[World.size_alloc,World.size_alloc];omega) _,(Below.heap_alloc _ _ _ (by rw[World.size_alloc,World.size_alloc];omega)).trans h1,?_,?_,by rw[World.size_alloc,World.size_alloc,World.size_alloc]⟩
 ·simp only[World.cell?,h2];rfl
 ·simp only[World.cell?,h2];rfl
theorem c2Q{s:St}(h:DSt w d s r col)(name:ByteArray)(hn:name.size<=1000)(wi:Bool)(fr til:Int):
  Calls Tryz.prog 98 #[.pointer (some ⟨d,0,none⟩),.agg #[.string name,.bool wi,.int .i64 fr,.int .i64 til]] w fun e w'=>∃ v,e=.returned v/\a0l w d col (Desk.a0g s (.list name (if wi then fr else 0) (if wi then til else 1048320))) v w':=by
 have HH:=a0b h;clear h
 cases wi
 ·simp only[reduceIte,Bool.false_eq_true];obtain⟨hX,hXQ,x1,x2,hNX⟩:=b3e (w:=w) name false fr til 0 1048320;have AK:=a0b (a4e (HH.out.dk.later hX) HH.out.of HH.out.mid name hn 0 0 1048320);have HX:=a0b (zA hX hXQ);clear hX hXQ
  go_enter Tryz.func98,Tryz.ntmps98
  unfold a0f at AK HX x1 x2 hNX
  go_upto_region 9 with fail
  generalize (((w.alloc (.cells #[.string name,.bool false,.int .i64 fr,.int .i64 til] 170)).alloc (.cells #[.int .i64 0,.int .i64 0,.int .i64 0,.slice none 0 0,.slice none 0 0,.slice none 0 0,.slice none 0 0] 40)).alloc (.cells #[.int .i64 0,.int .i64 1048320] 60))=X at *;refine AK.out.mono ?_;rintro e w1 ⟨hp,hb⟩;have BX:Hid (Below w.heap.size w w1):=HX.out.1.trans (hb.mono HX.out.1.size);have QX:Hid (Q7 w1 (w.heap.size+1)):=(Q7.of HX.out.2).later (hb.block _ (by omega));rcases hp with ⟨h1,rfl⟩|⟨h1,i,hi,e1,e2,rfl⟩
  ·have HD:=a0b (a6V HH.out.mid h1);generalize a1c s name 0 0 1048320=er at *;have hb1:(er != 0)=true:=by simpa using h1
   clear h1 AK HX hb x1 x2
   go_wp2_with fail
   refine (a0D er w1).mono ?_;rintro e w2 ⟨rfl,hb2⟩;have hq:=hb2.block (w.heap.size+1) (zb _ _ QX.out.q0)
   have HF:Hid (a0l w d col (Desk.a0g s (.list name 0 1048320)) (a0s er 0 0 (.slice none 0 0) (.slice none 0 0) (.slice none 0 0) (.slice none 0 0)) (a2w w2 (w.heap.size+1) (.int .i64 er) (.int .i64 0) (.int .i64 0) (.slice none 0 0) (.slice none 0 0) (.slice none 0 0) (.slice none 0 0))):=by
    rw[HD.out];exact HH.out.said (BX.out.trans (hb2.mono BX.out.size)) (by omega) er 0 _ _ _ _ _ _ _
   obtain⟨q0,q1,q2,q3,q4,q5,q6,fq⟩:=QX.out.later hq;simp only[a0s]
   go_wp2_with fail
   exact bodyPost_ret (v:=a0s er 0 0 (.slice none 0 0) (.slice none 0 0) (.slice none 0 0) (.slice none 0 0)) (by simp[results,Tryz.results98,go_sem,a0s,q0,q1,q2,q3,q4,q5,q6]) rfl ⟨_,rfl,HF.out⟩
  ·have HD:=a0b (b3H h1);have y1:=a0a hb x1;have y2:=a0a hb x2;have hs1:w.heap.size+3<=w1.heap.size:=by have:=hb.size;omega
   have TL:=a0b (b2y (w:=w1) (s:=s) ⟨HH.out.dk.later BX.out,HH.out.of,HH.out.wl,HH.out.hl,HH.out.inv⟩ hi 0 1048320);rw[e1] at TL;clear h1 AK HX hb x1 x2 e1 e2
   go_wp2_with fail
   refine TL.out.mono ?_;rintro e w2 ⟨v,l,rfl,hl,er,hb2⟩;obtain⟨a1,c1,rfl⟩:=a0B er.own;have hq:=hb2.block (w.heap.size+1) (zb _ _ QX.out.q0)
   have HF:Hid (∀ a b c e f g i,a0l w d col (Desk.a0g s (.list name 0 1048320)) (a0s 0 0 0 (.slice a1 l.length c1) (.slice none 0 0) (.slice none 0 0) (.slice none 0 0)) (a2w w2 (w.heap.size+1) a b c e f g i)):=fun a b c e f g i=>by
    rw[HD.out,<- hl];exact HH.out.ansEntries (BX.out.trans (hb2.mono BX.out.size)) (by omega) (er.base (by omega)) a b c e f g i
   obtain⟨q0,q1,q2,q3,q4,q5,q6,fq⟩:=QX.out.later hq;clear TL er hl hb2 hq
   go_wp2_with fail
   exact bodyPost_ret (v:=a0s 0 0 0 (.slice a1 l.length c1) (.slice none 0 0) (.slice none 0 0) (.slice none 0 0)) (by simp[results,Tryz.results98,go_sem,a0s,q0,q1,q2,q3,q4,q5,q6]) rfl ⟨_,rfl,HF.out _ _ _ _ _ _ _⟩
 ·simp only[if_true];obtain⟨hX,hXQ,x1,x2,hNX⟩:=b3e (w:=w) name true fr til fr til;have AK:=a0b (a4e (HH.out.dk.later hX) HH.out.of HH.out.mid name hn 0 fr til);have HX:=a0b (zA hX hXQ);clear hX hXQ
  go_enter Tryz.func98,Tryz.ntmps98
  unfold a0f at AK HX x1 x2 hNX
  go_upto_region 9 with fail
  generalize (((w.alloc (.cells #[.string name,.bool true,.int .i64 fr,.int .i64 til] 170)).alloc (.cells #[.int .i64 0,.int .i64 0,.int .i64 0,.slice none 0 0,.slice none 0 0,.slice none 0 0,.slice none 0 0] 40)).alloc (.cells #[.int .i64 fr,.int .i64 til] 60))=X at *;refine AK.out.mono ?_;rintro e w1 ⟨hp,hb⟩;have BX:Hid (Below w.heap.size w w1):=HX.out.1.trans (hb.mono HX.out.1.size);have QX:Hid (Q7 w1 (w.heap.size+1)):=(Q7.of HX.out.2).later (hb.block _ (by omega));rcases hp with ⟨h1,rfl⟩|⟨h1,i,hi,e1,e2,rfl⟩
  ·have HD:=a0b (a6V HH.out.mid h1);generalize a1c s name 0 fr til=er at *;have hb1:(er != 0)=true:=by simpa using h1
   clear h1 AK HX hb x1 x2
   go_wp2_with fail
   refine (a0D er w1).mono ?_;rintro e w2 ⟨rfl,hb2⟩;have hq:=hb2.block (w.heap.size+1) (zb _ _ QX.out.q0)
   have HF:Hid (a0l w d col (Desk.a0g s (.list name fr til)) (a0s er 0 0 (.slice none 0 0) (.slice none 0 0) (.slice none 0 0) (.slice none 0 0)) (a2w w2 (w.heap.size+1) (.int .i64 er) (.int .i64 0) (.int .i64 0) (.slice none 0 0) (.slice none 0 0) (.slice none 0 0) (.slice none 0 0))):=by
    rw[HD.out];exact HH.out.said (BX.out.trans (hb2.mono BX.out.size)) (by omega) er 0 _ _ _ _ _ _ _
   obtain⟨q0,q1,q2,q3,q4,q5,q6,fq⟩:=QX.out.later hq;simp only[a0s]
   go_wp2_with fail
   exact bodyPost_ret (v:=a0s er 0 0 (.slice none 0 0) (.slice none 0 0) (.slice none 0 0) (.slice none 0 0)) (by simp[results,Tryz.results98,go_sem,a0s,q0,q1,q2,q3,q4,q5,q6]) rfl ⟨_,rfl,HF.out⟩
  ·have HD:=a0b (b3H h1);have y1:=a0a hb x1;have y2:=a0a hb x2;have hs1:w.heap.size+3<=w1.heap.size:=by have:=hb.size;omega
   have TL:=a0b (b2y (w:=w1) (s:=s) ⟨HH.out.dk.later BX.out,HH.out.of,HH.out.wl,HH.out.hl,HH.out.inv⟩ hi fr til);rw[e1] at TL;clear h1 AK HX hb x1 x2 e1 e2
   go_wp2_with fail
   refine TL.out.mono ?_;rintro e w2 ⟨v,l,rfl,hl,er,hb2⟩;obtain⟨a1,c1,rfl⟩:=a0B er.own;have hq:=hb2.block (w.heap.size+1) (zb _ _ QX.out.q0)
   have HF:Hid (∀ a b c e f g i,a0l w d col (Desk.a0g s (.list name fr til)) (a0s 0 0 0 (.slice a1 l.length c1) (.slice none 0 0) (.slice none 0 0) (.slice none 0 0)) (a2w w2 (w.heap.size+1) a b c e f g i)):=fun a b c e f g i=>by
    rw[HD.out,<- hl];exact HH.out.ansEntries (BX.out.trans (hb2.mono BX.out.size)) (by omega) (er.base (by omega)) a b c e f g i
   obtain⟨q0,q1,q2,q3,q4,q5,q6,fq⟩:=QX.out.later hq;clear TL er hl hb2 hq
   go_wp2_with fail
   exact bodyPost_ret (v:=a0s 0 0 0 (.slice a1 l.length c1) (.slice none 0 0) (.slice none 0 0) (.slice none 0 0)) (by simp[results,Tryz.results98,go_sem,a0s,q0,q1,q2,q3,q4,q5,q6]) rfl ⟨_,rfl,HF.out _ _ _ _ _ _ _⟩
theorem b5D{s:St}(h:DSt w d s rw_ col)(name:ByteArray)(hn:name.size<=1000)(wi:Bool)(fr til a b:Int)(ha:(if wi then fr else 0)=a)(hb:(if wi then til else 1048320)=b):
  Calls Tryz.prog 64 #[.pointer (some ⟨d,0,none⟩),.iface 170 (.agg #[.string name,.bool wi,.int .i64 fr,.int .i64 til])] w fun e w'=>∃ v,e=.returned v/\a0l w d col (Desk.a0g s (.list name a b)) v w':=by
 have hX:Below w.heap.size w ((w.alloc a0f).alloc (.cells #[.string name,.bool wi,.int .i64 fr,.int .i64 til] 170)):=((zr _ _).alloc (zq _) _).alloc (by simp) _;have hq:((w.alloc a0f).alloc (.cells #[.string name,.bool wi,.int .i64 fr,.int .i64 til] 170)).heap[w.heap.size]?=some a0f:=(Below.heap_alloc _ _ _ (by simp)).trans (a0p w a0f);have hs:w.heap.size<((w.alloc a0f).alloc (.cells #[.string name,.bool wi,.int .i64 fr,.int .i64 til] 170)).heap.size:=by simp;omega
 have EF:=a0b (c2Q (w:=((w.alloc a0f).alloc (.cells #[.string name,.bool wi,.int .i64 fr,.int .i64 til] 170))) (s:=s) ⟨h.dk.later hX,h.of,h.wl,h.hl,h.inv⟩ name hn wi fr til);have HX:=a0b (zA hX (zA (Q7.of hq) (zA (h.dk.none (zq _)) hs)));rw[ha,hb] at EF;clear h hX hq hs ha hb;unfold a0f at EF HX;have noThing:=d0q 170 (by decide);have noBook:=d2o 170 (by decide);have noHold:=d2F 170 (by decide);have noWait:=d3H 170 (by decide);have noSeries:=d0K 170 (by decide);have noConfirm:=d0y 170 (by decide);have noCancel:=d1Q 170 (by decide);have yesList:∀ (xT:TypeId) (v:Value) (w:World),(Instr.typeAssert (.iface 170 v) xT 170 true).run Tryz.prog w=.ok (.tuple #[v,.bool true]) w:=by intro xT v w;simp[Instr.typeAssert,go_sem,Result.andThen,run_underlying Tryz.underlying170]
 go_enter Tryz.func64,Tryz.ntmps64
 go_wp2_with fail
 refine EF.out.mono ?_;rintro e w2 ⟨v,rfl,ep⟩;obtain⟨er,at_,nn,a1,a2,a3,a4,n1,n2,n3,n4,c1,c2,c3,c4,rfl,q7,hf⟩:=ep.up HX.out.1 (zq _) HX.out.2.2.2 HX.out.2.2.1 HX.out.2.1;have HF:=a0b (hf (.int .i64 er) (.int .i64 at_) (.int .i64 nn) (.slice a1 n1 c1) (.slice a2 n2 c2) (.slice a3 n3 c3) (.slice a4 n4 c4));clear ep hf EF noThing noBook noHold noWait noSeries noConfirm noCancel yesList;obtain⟨q0,q1,q2,q3,q4,q5,q6,fq⟩:=q7;simp only[a0s]
 go_wp2_with fail
 exact bodyPost_ret (v:=a0s er at_ nn (.slice a1 n1 c1) (.slice a2 n2 c2) (.slice a3 n3 c3) (.slice a4 n4 c4)) (by simp[results,Tryz.results64,go_sem,a0s,q0,q1,q2,q3,q4,q5,q6]) rfl ⟨_,rfl,HF.out⟩
namespace Desk
theorem a6h(ts:List (ByteArray × Int)):∀ (r done:List Ent),(a0O ts done r).2.length<=r.length
 |[],done=>by simp[a0O]
 |e :: r,done=>by
  simp only[a0O]
  split
  ·show ((a0O ts (done++[a0Q e]) r).2.length+1)<=_;have:=a6h ts r (done++[a0Q e]);simp;omega
  ·have:=a6h ts r (done++[e]);simp;omega
theorem b8x(ts:List (ByteArray × Int))(es:List Ent):(a0R ts es).2.length<=es.length:=a6h ts es []
theorem b0s(ts:List (ByteArray × Int))(tq:Int)(N:Nat):∀ (k:Nat)(es:List Ent)(now:Int),es.length<=N->(a1K ts k es now tq).2.2.length<=k*N
 |0,es,now,_=>by simp[a1K]
 |k+1,es,now,h=>by
  simp only[a1K]
  split
  ·have hf:(es.filter fun e=>!a0z (a3D tq es) e).length<=N:=zt (List.length_filter_le _ _) h;have h1:=b8x ts (es.filter fun e=>!a0z (a3D tq es) e);have h2:=b0s ts tq N k (a0R ts (es.filter fun e=>!a0z (a3D tq es) e)).1 (a3D tq es) (by rw[a7H];exact hf);rw[List.length_append,Nat.succ_mul];omega
  ·simp
theorem c3u{s:St}(h:Mid s)(l:a7U):(a0g s l).2.granted.length<=50000:=by
 have hl:=a1x h
 cases l with
 |tick n =>
  simp only[a0g]
  split
  ·simp[Rep.error]
  ·have h1:=b0s s.ts (s.now+n) 60 (s.es.length+1) s.es s.now hl;show (a1K s.ts (s.es.length+1) s.es s.now (s.now+n)).2.2.length<=50000;have:(s.es.length+1)*60<=61*60:=Nat.mul_le_mul_right _ (by omega);omega
 |confirm id=>simp only[a0g];split <;> (try split) <;> simp[Rep.error,Rep.num]
 |cancel id=>simp only[a0g];split <;> simp[Rep.error,Rep.num]
 |waiting=>simp[a0g,Rep.num]
 |clock=>simp[a0g,Rep.num]
 |a0k=>simp only[a0g];split <;> (try split) <;> simp[Rep.error,Rep.num]
 |enter=>simp only[a0g,a2t];split <;> simp[Rep.error,Rep.num]
 |series=>simp only[a0g,a2t];split <;> simp[Rep.error,Rep.num]
 |list=>simp only[a0g];split <;> (try split) <;> simp[Rep.error,Rep.num]
 |peak=>simp only[a0g];split <;> (try split) <;> simp[Rep.error,Rep.num]
 |find=>simp only[a0g];split <;> (try split) <;> simp[Rep.error,Rep.num]
 |expand=>simp only[a0g];split <;> simp[Rep.error,Rep.num]
end Desk
inductive LV:Value->Desk.a7U->Prop where
 |a0k (name:ByteArray) (hn:name.size<=1000) (u:Int):LV (.iface 149 (.agg #[.string name,.int .i64 u])) (.a0k name u)
 |book (name:ByteArray) (hn:name.size<=1000) (u fr til:Int):LV (.iface 154 (.agg #[.string name,.int .i64 u,.int .i64 fr,.int .i64 til])) (.enter 1 name u fr til 0)
 |hold (name:ByteArray) (hn:name.size<=1000) (u fr til long:Int):LV (.iface 156 (.agg #[.string name,.int .i64 u,.int .i64 fr,.int .i64 til,.int .i64 long])) (.enter 2 name u fr til long)
 |wait (name:ByteArray) (hn:name.size<=1000) (u fr til long:Int):LV (.iface 157 (.agg #[.string name,.int .i64 u,.int .i64 fr,.int .i64 til,.int .i64 long])) (.enter 3 name u fr til long)
 |series (name:ByteArray) (hn:name.size<=1000) (u:Int) (r:Rd.a0Y):LV (.iface 165 (.agg #[.string name,.int .i64 u,.int .i64 r.pc,.int .i64 r.ev,.bool (isd r.acc 0),.bool (isd r.acc 1),.bool (isd r.acc 2),.bool (isd r.acc 3),.bool (isd r.acc 4),.bool (isd r.acc 5),.bool (isd r.acc 6),.int .i64 r.fr,.int .i64 r.mn,.int .i64 r.mi,.int .i64 r.ti,.int .i64 r.un])) (.series name u r)
 |confirm (id:Int):LV (.iface 167 (.agg #[.int .i64 id])) (.confirm id)
 |cancel (id:Int):LV (.iface 168 (.agg #[.int .i64 id])) (.cancel id)
 |list (name:ByteArray) (hn:name.size<=1000) (wi:Bool) (fr til a b:Int) (ha:(if wi then fr else 0)=a) (hb:(if wi then til else 1048320)=b):LV (.iface 170 (.agg #[.string name,.bool wi,.int .i64 fr,.int .i64 til])) (.list name a b)
 |waiting:LV (.iface 173 (.agg #[])) (.waiting)
 |peak (name:ByteArray) (hn:name.size<=1000) (fr til:Int):LV (.iface 176 (.agg #[.string name,.int .i64 fr,.int .i64 til])) (.peak name fr til)
 |find (name:ByteArray) (hn:name.size<=1000) (u long fr til:Int):LV (.iface 178 (.agg #[.string name,.int .i64 u,.int .i64 long,.int .i64 fr,.int .i64 til])) (.find name u long fr til)
 |expand (r:Rd.a0Y):LV (.iface 180 (.agg #[.int .i64 r.pc,.int .i64 r.ev,.bool (isd r.acc 0),.bool (isd r.acc 1),.bool (isd r.acc 2),.bool (isd r.acc 3),.bool (isd r.acc 4),.bool (isd r.acc 5),.bool (isd r.acc 6),.int .i64 r.fr,.int .i64 r.mn,.int .i64 r.mi,.int .i64 r.ti,.int .i64 r.un])) (.expand r)
 |tick (n:Int):LV (.iface 182 (.agg #[.int .i64 n])) (.tick n)
 |clock:LV (.iface 183 (.agg #[])) (.clock)
def g5r:Desk.a7U->Bool
 |.peak ..=>false
 |.find ..=>false
 |.expand ..=>false
 |_=>true
theorem f3y{s:St}(h:DSt w d s rw_ col)(ht:Tab w)(h10:10<=w.heap.size){line:Value}{l:Desk.a7U}(hv:LV line l)(hl:Desk.a1O l)(hf:g5r l=true):
  Calls Tryz.prog 64 #[.pointer (some ⟨d,0,none⟩),line] w fun e w'=>∃ v,e=.returned v/\a0l w d col (Desk.a0g s l) v w':=by
 cases hv with
 |a0k name hn u=>exact b3V h name hn u
 |book name hn u fr til=>exact b5G h name hn u fr til hl
 |hold name hn u fr til long=>exact b5E h name hn u fr til long hl
 |wait name hn u fr til long=>exact b5A h name hn u fr til long hl
 |series name hn u r=>exact b2l h ht h10 name hn u r hl
 |confirm id=>exact b0l h id hl
 |cancel id=>exact b2n h id hl
 |list name hn wi fr til a b ha hb=>exact b5D h name hn wi fr til a b ha hb
 |waiting=>exact b0k h
 |peak=>cases hf
 |find=>cases hf
 |expand=>cases hf
 |tick n=>exact b5B h n hl
 |clock=>exact b3W h
theorem g3L{p:Nat}{s:St}(h:BD w p d s r col)(t:ByteArray){line:Value}{l:Desk.a7U}(hr:∀ e,a7T t e->e=.returned (.tuple #[line,.int .i64 0,.int .i64 0]))(hv:LV line l)(hl:Desk.a1O l)(hf:g5r l=true):
  Calls Tryz.prog 21 #[.pointer (some ⟨p,0,none⟩),.string t] w fun e w'=>∃ v,e=.returned v/\b5M w p d col (Desk.a1q s l) v w' :=
 c3I h t line l hr hl (Desk.c3u h.ds.mid l) (fun _ ht h10 hds=>f3y hds ht h10 hv hl hf)
theorem f4d(h:a1s x s=true):s=x:=by
 have e:s.toList=x.toList:=eq_of_beq h;rw[ByteArray.toList_eq,ByteArray.toList_eq] at e;exact Txt.a7x e
theorem c4A(h:n<ws.length)(hB:B (ws.getD n ByteArray.empty)=true):stp ws B (n,false)=(n+1,false):=by
 simp only[stp,tkN,tkW,tkB,a1b,hB,h,decide_true,Bool.not_false,Bool.and_self,if_true]
theorem takes(h:ws[n]?=some x)(hB:B x=true):stp ws B (n,false)=(n+1,false)/\∀ V:ByteArray->Int,a0v ws (n,false) B V=V x:=by
 have hn:n<ws.length:=(List.getElem?_eq_some_iff.1 h).1;have hg:ws.getD n ByteArray.empty=x:=by rw[List.getD_eq_getElem?_getD,h];rfl
 have ht:tkB ws n false B=true:=by unfold tkB;rw[hg,hB];simp[a1b,hn]
 exact⟨c4A hn (by rw[hg];exact hB),fun V=>by simp only[a0v,tkV,ht,if_true,hg]⟩
theorem b1P(h:ws[n]?=some x):isB ws n false x=true:=by
 have hn:n<ws.length:=(List.getElem?_eq_some_iff.1 h).1;have hg:ws.getD n ByteArray.empty=x:=by rw[List.getD_eq_getElem?_getD,h];rfl
 unfold isB;rw[hg];simp[a1b,hn]
theorem f4i{y:ByteArray}(h:ws[n]?=some x)(hy:isB ws n false y=true):x=y:=by
 have hg:ws.getD n ByteArray.empty=x:=by rw[List.getD_eq_getElem?_getD,h];rfl
 unfold isB at hy;rw[hg,Bool.and_eq_true] at hy;exact f4d (x:=y) (s:=x) hy.2
theorem a4T(ws:List ByteArray)(B:ByteArray->Bool)(Bs:List (ByteArray->Bool))(st:Nat × Bool):a0M ws (B :: Bs) st=a0M ws Bs (stp ws B st):=rfl
theorem a6y(ws:List ByteArray)(st:Nat × Bool):a0M ws [] st=st:=rfl
theorem e2u(x:ByteArray):a1s x x=true:=by simp[a1s]
theorem b4m{wr:Bool}(h:tkB ws n wr B=true):wr=false/\n<ws.length/\B (ws.getD n ByteArray.empty)=true:=by
 unfold tkB a1b at h;simp only[Bool.and_eq_true,Bool.not_eq_true',decide_eq_true_eq] at h;exact⟨h.1.1,h.1.2,h.2⟩
theorem a8u(h:(stp ws B st).2=false):tkB ws st.1 st.2 B=true:=by
 unfold stp tkW at h
 cases e:tkB ws st.1 st.2 B
 ·rw[e] at h;simp at h
 ·rfl
theorem a0H(h:(stp ws B st).2=false):st.2=false:=(b4m (a8u h)).1
theorem a0F(h:(stp ws B st).2=false):∃ x,B x=true/\∀ V,a0v ws st B V=V x:=by
 have t:=a8u h;exact⟨_,(b4m t).2.2,fun V=>by unfold a0v tkV;rw[t];rfl⟩
theorem a2Q(h:(stp ws nmB st).2=false):∃ x,nmB x=true/\a2F ws st=x:=by
 have t:=a8u h;have hx:=(b4m t).2.2;refine⟨_,hx,?_⟩;unfold a2F tkS;have t':tkB ws st.1 st.2 (fun s=>Txt.a1j s.data.toList)=true:=t;rw[t'];exact if_pos hx
theorem b7G(h:unB x=true):1<=nvF x/\nvF x<=9:=by
 unfold unB a0K at h;simp only[Bool.and_eq_true,decide_eq_true_eq] at h;exact⟨h.1.2,h.2⟩
theorem c0p(h:miB x=true):1<=nvF x/\nvF x<=1048320:=by
 unfold miB a0K at h;simp only[Bool.and_eq_true,decide_eq_true_eq] at h;exact⟨h.1.2,h.2⟩
theorem c3l(h:evB x=true):1<=nvF x/\nvF x<=99:=by
 unfold evB a0K at h;simp only[Bool.and_eq_true,decide_eq_true_eq] at h;exact⟨h.1.2,h.2⟩
theorem c6p(x:ByteArray):0<=nvF x/\nvF x<=9999999:=Txt.a2B _
theorem a2Y(h:a0n x=true):0<=a1J x/\a1J x<=1048320:=by
 unfold a1J;rw[if_pos h];unfold a0n at h;simp only[Bool.and_eq_true,decide_eq_true_eq] at h;exact h.2
theorem c1g(h:Txt.a2y x=true):0<=b0a x/\b0a x<728:=by
 unfold b0a;rw[if_pos h];unfold Txt.a2y at h;exact (of_decide_eq_true h).2
theorem c6h(h:Txt.a3a x=true):0<=Txt.a6J x/\Txt.a6J x<1440:=by
 unfold Txt.a6J;rw[if_pos h];unfold Txt.a3a at h;obtain⟨_,_,_,_,h1,h2⟩:=of_decide_eq_true h;have:=Txt.a2B (Txt.part x 0 2);have:=Txt.a2B (Txt.part x 3 5);omega
theorem a4o(h:nmB x=true):x.size<=1000:=by
 unfold nmB Txt.a1j at h;rw[Bool.and_eq_true] at h;have:=of_decide_eq_true h.1;have e:x.size=x.data.toList.length:=by rw[Array.length_toList];rfl
 omega
theorem b7b{s:Nat × Bool}(h:c3M ws st ti un s)(h2:s.2=false):st.2=false/\0<=ti/\ti<=99/\0<=un/\un<728:=by
 cases h with
 |times h =>
  have h2':(stp ws evB (nxt st)).2=false:=h2;obtain⟨x,hx,hv⟩:=a0F h2';have:=c3l hx;have hs:(nxt st).2=false:=a0H h2';rw[hv nvF];exact⟨hs,by omega,by omega,by omega,by omega⟩
 |til h1 h =>
  have h2':(stp ws Txt.a2y (nxt st)).2=false:=h2;obtain⟨x,hx,hv⟩:=a0F h2';have:=c1g hx;have hs:(nxt st).2=false:=a0H h2';rw[hv b0a];exact⟨hs,by omega,by omega,by omega,by omega⟩
 |none h1 h=>cases h2
theorem b9P{ev:Int}{s:Nat × Bool}(h:b0n ws st pc ev acc s)(h2:s.2=false):st.2=false/\1<=pc/\pc<=3/\1<=ev/\ev<=99:=by
 cases h with
 |daily h =>
  have h2':(stp ws evB (nxt st)).2=false:=h2;obtain⟨x,hx,hv⟩:=a0F h2';have:=c3l hx;have hs:(nxt st).2=false:=a0H h2';rw[hv nvF];exact⟨hs,by omega,by omega,by omega,by omega⟩
 |weekly h1 h acc ha =>
  have h2':(stp ws Txt.onB (stp ws evB (nxt st))).2=false:=h2;have h3:=a0H h2';obtain⟨x,hx,hv⟩:=a0F h3;have:=c3l hx;have hs:(nxt st).2=false:=a0H h3;rw[hv nvF];exact⟨hs,by omega,by omega,by omega,by omega⟩
 |monthly g1 g2 g =>
  have h2':(stp ws evB (nxt st)).2=false:=h2;obtain⟨x,hx,hv⟩:=a0F h2';have:=c3l hx;have hs:(nxt st).2=false:=a0H h2';rw[hv nvF];exact⟨hs,by omega,by omega,by omega,by omega⟩
 |none g1 g2 g=>cases h2
theorem a7m{ev:Int}{s:Nat × Bool}(h:b0m ws st pc ev acc fr mn mi ti un s):∃ s0,b0n ws st pc ev acc s0/\c3M ws (c4Y ws s0) ti un s/\fr=a0v ws (a0M ws [a1s a1t] s0) Txt.a2y b0a/\mn=a0v ws (a0M ws [a1s a1t,Txt.a2y,a1s atW] s0) Txt.a3a Txt.a6J/\mi=a0v ws (a0M ws [a1s a1t,Txt.a2y,a1s atW,Txt.a3a,a1s b3z] s0) miB nvF:=by
 cases h
 exact⟨_,by assumption,by assumption,rfl,rfl,rfl⟩
theorem b2O{ev:Int}{s:Nat × Bool}(h:b0m ws st pc ev acc fr mn mi ti un s)(h2:s.2=false):st.2=false/\Rd.a6s ⟨pc,ev,acc,fr,mn,mi,ti,un⟩:=by
 obtain⟨s0,hp,he,rfl,rfl,rfl⟩:=a7m h;obtain⟨hm,t0,t1,u0,u1⟩:=b7b he h2;have m6:(stp ws miB (stp ws (a1s b3z) (stp ws Txt.a3a (stp ws (a1s atW) (stp ws Txt.a2y (stp ws (a1s a1t) s0)))))).2=false:=hm;have m5:=a0H m6;have m4:=a0H m5;have m3:=a0H m4;have m2:=a0H m3;have m1:=a0H m2;obtain⟨hs,p1,p3,e1,e2⟩:=b9P hp (a0H m1);obtain⟨xi,hi,vi⟩:=a0F m6;obtain⟨xm,hx,vm⟩:=a0F m4;obtain⟨xd,hd,vd⟩:=a0F m2;have b1:=c0p hi;have b2:=c6h hx;have b3:=c1g hd;refine⟨hs,⟨p1,p3,e1,e2,?_,?_,?_,?_,?_,?_,t0,t1,u0,u1⟩⟩
 ·show 0<=a0v ws (stp ws (a1s a1t) s0) Txt.a2y b0a;rw[vd];exact b3.1
 ·show a0v ws (stp ws (a1s a1t) s0) Txt.a2y b0a<728;rw[vd];exact b3.2
 ·show 0<=a0v ws (stp ws (a1s atW) (stp ws Txt.a2y (stp ws (a1s a1t) s0))) Txt.a3a Txt.a6J;rw[vm];exact b2.1
 ·show a0v ws (stp ws (a1s atW) (stp ws Txt.a2y (stp ws (a1s a1t) s0))) Txt.a3a Txt.a6J<1440;rw[vm];exact b2.2
 ·show 1<=a0v ws (stp ws (a1s b3z) (stp ws Txt.a3a (stp ws (a1s atW) (stp ws Txt.a2y (stp ws (a1s a1t) s0))))) miB nvF;rw[vi];exact b1.1
 ·show a0v ws (stp ws (a1s b3z) (stp ws Txt.a3a (stp ws (a1s atW) (stp ws Txt.a2y (stp ws (a1s a1t) s0))))) miB nvF<=1048320;rw[vi];exact b1.2
theorem c0v(h:a2H ws v st)(h2:st.2=false):∃ l,LV v l/\Desk.a1O l:=by
 cases h with
 |a0k h =>
  have k2:(stp ws unB (stp ws nmB (1,false))).2=false:=h2;obtain⟨x,hx,e⟩:=a2Q (a0H k2);obtain⟨y,hy,f⟩:=a0F k2;have f':a0v ws (a0M ws [nmB] (1,false)) unB nvF=nvF y:=f nvF;rw[e,f'];exact⟨_,.a0k x (a4o hx) _,b7G hy⟩
 |book h =>
  have k4:(stp ws a0n (stp ws a0n (stp ws unB (stp ws nmB (1,false))))).2=false:=h2;have k3:=a0H k4;have k2:=a0H k3;obtain⟨x,hx,e⟩:=a2Q (a0H k2);obtain⟨y,hy,f⟩:=a0F k2;obtain⟨a,ha,fa⟩:=a0F k3;obtain⟨b,hb,fb⟩:=a0F k4;have f':a0v ws (a0M ws [nmB] (1,false)) unB nvF=nvF y:=f nvF;have fa':a0v ws (a0M ws [nmB,unB] (1,false)) a0n a1J=a1J a:=fa a1J;have fb':a0v ws (a0M ws [nmB,unB,a0n] (1,false)) a0n a1J=a1J b:=fb a1J;rw[e,f',fa',fb'];have:=b7G hy;have:=a2Y ha;have:=a2Y hb;exact⟨_,.book x (a4o hx) _ _ _,.inl ⟨rfl,rfl⟩,by omega,by omega,by omega,by omega,by omega,by omega⟩
 |hold h =>
  have k5:(stp ws miB (stp ws a0n (stp ws a0n (stp ws unB (stp ws nmB (1,false)))))).2=false:=h2;have k4:=a0H k5;have k3:=a0H k4;have k2:=a0H k3;obtain⟨x,hx,e⟩:=a2Q (a0H k2);obtain⟨y,hy,f⟩:=a0F k2;obtain⟨a,ha,fa⟩:=a0F k3;obtain⟨b,hb,fb⟩:=a0F k4;obtain⟨c,hc,fc⟩:=a0F k5;have f':a0v ws (a0M ws [nmB] (1,false)) unB nvF=nvF y:=f nvF;have fa':a0v ws (a0M ws [nmB,unB] (1,false)) a0n a1J=a1J a:=fa a1J;have fb':a0v ws (a0M ws [nmB,unB,a0n] (1,false)) a0n a1J=a1J b:=fb a1J;have fc':a0v ws (a0M ws [nmB,unB,a0n,a0n] (1,false)) miB nvF=nvF c:=fc nvF;rw[e,f',fa',fb',fc'];have:=b7G hy;have:=a2Y ha;have:=a2Y hb;have:=c0p hc;exact⟨_,.hold x (a4o hx) _ _ _ _,.inr ⟨.inl rfl,by omega,by omega⟩,by omega,by omega,by omega,by omega,by omega,by omega⟩
 |wait h =>
  have k5:(stp ws miB (stp ws a0n (stp ws a0n (stp ws unB (stp ws nmB (1,false)))))).2=false:=h2;have k4:=a0H k5;have k3:=a0H k4;have k2:=a0H k3;obtain⟨x,hx,e⟩:=a2Q (a0H k2);obtain⟨y,hy,f⟩:=a0F k2;obtain⟨a,ha,fa⟩:=a0F k3;obtain⟨b,hb,fb⟩:=a0F k4;obtain⟨c,hc,fc⟩:=a0F k5;have f':a0v ws (a0M ws [nmB] (1,false)) unB nvF=nvF y:=f nvF;have fa':a0v ws (a0M ws [nmB,unB] (1,false)) a0n a1J=a1J a:=fa a1J;have fb':a0v ws (a0M ws [nmB,unB,a0n] (1,false)) a0n a1J=a1J b:=fb a1J;have fc':a0v ws (a0M ws [nmB,unB,a0n,a0n] (1,false)) miB nvF=nvF c:=fc nvF;rw[e,f',fa',fb',fc'];have:=b7G hy;have:=a2Y ha;have:=a2Y hb;have:=c0p hc;exact⟨_,.wait x (a4o hx) _ _ _ _,.inr ⟨.inr rfl,by omega,by omega⟩,by omega,by omega,by omega,by omega,by omega,by omega⟩
 |series h pc ev acc fr mn mi ti un s hr =>
  obtain⟨hs,hf⟩:=b2O hr h2;have k2:(stp ws unB (stp ws nmB (1,false))).2=false:=hs;obtain⟨x,hx,e⟩:=a2Q (a0H k2);obtain⟨y,hy,f⟩:=a0F k2;have f':a0v ws (a0M ws [nmB] (1,false)) unB nvF=nvF y:=f nvF;rw[e,f'];have:=b7G hy;exact⟨_,.series x (a4o hx) _ ⟨pc,ev,acc,fr,mn,mi,ti,un⟩,by omega,by omega,hf⟩
 |confirm h =>
  have k1:(stp ws idB (1,false)).2=false:=h2;obtain⟨y,hy,f⟩:=a0F k1;rw[f nvF];exact⟨_,.confirm _,c6p y⟩
 |cancel h =>
  have k1:(stp ws idB (1,false)).2=false:=h2;obtain⟨y,hy,f⟩:=a0F k1;rw[f nvF];exact⟨_,.cancel _,c6p y⟩
 |list0 h hm =>
  have k1:(stp ws nmB (1,false)).2=false:=h2;obtain⟨x,hx,e⟩:=a2Q k1;rw[e];exact⟨_,.list x (a4o hx) false 0 0 0 1048320 rfl rfl,by omega,by omega,by omega,by omega⟩
 |list1 h hm =>
  have k3:(stp ws a0n (stp ws a0n (stp ws nmB (1,false)))).2=false:=h2;have k2:=a0H k3;obtain⟨x,hx,e⟩:=a2Q (a0H k2);obtain⟨a,ha,fa⟩:=a0F k2;obtain⟨b,hb,fb⟩:=a0F k3;have fa':a0v ws (a0M ws [nmB] (1,false)) a0n a1J=a1J a:=fa a1J;have fb':a0v ws (a0M ws [nmB,a0n] (1,false)) a0n a1J=a1J b:=fb a1J;rw[e,fa',fb'];have:=a2Y ha;have:=a2Y hb;exact⟨_,.list x (a4o hx) true _ _ _ _ rfl rfl,by simp only[if_true];omega,by simp only[if_true];omega,by simp only[if_true];omega,by simp only[if_true];omega⟩
 |waiting h=>exact⟨_,.waiting,trivial⟩
 |peak h =>
  have k3:(stp ws a0n (stp ws a0n (stp ws nmB (1,false)))).2=false:=h2;have k2:=a0H k3;obtain⟨x,hx,e⟩:=a2Q (a0H k2);obtain⟨a,ha,fa⟩:=a0F k2;obtain⟨b,hb,fb⟩:=a0F k3;have fa':a0v ws (a0M ws [nmB] (1,false)) a0n a1J=a1J a:=fa a1J;have fb':a0v ws (a0M ws [nmB,a0n] (1,false)) a0n a1J=a1J b:=fb a1J;rw[e,fa',fb'];have:=a2Y ha;have:=a2Y hb;exact⟨_,.peak x (a4o hx) _ _,by omega,by omega,by omega,by omega⟩
 |find h =>
  have k5:(stp ws a0n (stp ws a0n (stp ws miB (stp ws unB (stp ws nmB (1,false)))))).2=false:=h2;have k4:=a0H k5;have k3:=a0H k4;have k2:=a0H k3;obtain⟨x,hx,e⟩:=a2Q (a0H k2);obtain⟨y,hy,f⟩:=a0F k2;obtain⟨c,hc,fc⟩:=a0F k3;obtain⟨a,ha,fa⟩:=a0F k4;obtain⟨b,hb,fb⟩:=a0F k5;have f':a0v ws (a0M ws [nmB] (1,false)) unB nvF=nvF y:=f nvF;have fc':a0v ws (a0M ws [nmB,unB] (1,false)) miB nvF=nvF c:=fc nvF;have fa':a0v ws (a0M ws [nmB,unB,miB] (1,false)) a0n a1J=a1J a:=fa a1J;have fb':a0v ws (a0M ws [nmB,unB,miB,a0n] (1,false)) a0n a1J=a1J b:=fb a1J;rw[e,f',fc',fa',fb'];have:=b7G hy;have:=a2Y ha;have:=a2Y hb;have:=c0p hc;exact⟨_,.find x (a4o hx) _ _ _ _,by omega,by omega,by omega,by omega,by omega,by omega,by omega,by omega⟩
 |expand h pc ev acc fr mn mi ti un s hr =>
  obtain⟨hs,hf⟩:=b2O hr h2;exact⟨_,.expand ⟨pc,ev,acc,fr,mn,mi,ti,un⟩,hf⟩
 |tick h =>
  have k1:(stp ws miB (1,false)).2=false:=h2;obtain⟨y,hy,f⟩:=a0F k1;rw[f nvF];exact⟨_,.tick _,c0p hy⟩
 |clock h=>exact⟨_,.clock,trivial⟩
 |none=>cases h2
theorem c6m(h:isB ws 0 false x=true)(y:ByteArray):isB ws 0 false y=(x.toList==y.toList):=by
 unfold isB at h ⊢;rw[Bool.and_eq_true] at h;have e:=eq_of_beq h.2;rw[h.1,e,Bool.true_and]
def c2h:Value->Nat
 |.iface t _=>t
 |_=>0
def tyL:List (ByteArray × Nat):=[(a3F,149),(a9P,154),(b5f,156),(b4k,157),(a7l,165),(a4z,167),(a6m,168),(a5Q,170),(a5q,173),(a9a,176),(b5h,178),(a7M,180),(b4n,182),(b1c,183)]
def tyF(f:ByteArray->Bool):Nat:=((tyL.find? fun p=>f p.1).map (·.2)).getD 0
theorem a3p(h:isB ws 0 false x=true):tyF (isB ws 0 false)=tyF (fun y=>x.toList==y.toList):=by
 rw[show isB ws 0 false=fun y=>x.toList==y.toList from funext (c6m h)]
theorem a2H.tag{s:Nat × Bool}(h:a2H ws v s):c2h v=tyF (isB ws 0 false):=by
 cases h with
 |none h0 h1 h2 h3 h4 h5 h6 h7 h8 h9 h10 h11 h12 h13=>simp[c2h,tyF,tyL,h0,h1,h2,h3,h4,h5,h6,h7,h8,h9,h10,h11,h12,h13]
 |a0k h=>rw[a3p h];exact (by decide +kernel:149=tyF (fun y=>a3F.toList==y.toList))
 |book h=>rw[a3p h];exact (by decide +kernel:154=tyF (fun y=>a9P.toList==y.toList))
 |hold h=>rw[a3p h];exact (by decide +kernel:156=tyF (fun y=>b5f.toList==y.toList))
 |wait h=>rw[a3p h];exact (by decide +kernel:157=tyF (fun y=>b4k.toList==y.toList))
 |series h=>rw[a3p h];exact (by decide +kernel:165=tyF (fun y=>a7l.toList==y.toList))
 |confirm h=>rw[a3p h];exact (by decide +kernel:167=tyF (fun y=>a4z.toList==y.toList))
 |cancel h=>rw[a3p h];exact (by decide +kernel:168=tyF (fun y=>a6m.toList==y.toList))
 |list0 h=>rw[a3p h];exact (by decide +kernel:170=tyF (fun y=>a5Q.toList==y.toList))
 |list1 h=>rw[a3p h];exact (by decide +kernel:170=tyF (fun y=>a5Q.toList==y.toList))
 |waiting h=>rw[a3p h];exact (by decide +kernel:173=tyF (fun y=>a5q.toList==y.toList))
 |peak h=>rw[a3p h];exact (by decide +kernel:176=tyF (fun y=>a9a.toList==y.toList))
 |find h=>rw[a3p h];exact (by decide +kernel:178=tyF (fun y=>b5h.toList==y.toList))
 |expand h=>rw[a3p h];exact (by decide +kernel:180=tyF (fun y=>a7M.toList==y.toList))
 |tick h=>rw[a3p h];exact (by decide +kernel:182=tyF (fun y=>b4n.toList==y.toList))
 |clock h=>rw[a3p h];exact (by decide +kernel:183=tyF (fun y=>b1c.toList==y.toList))
theorem c5u{s:Nat × Bool}(h:c3M ws st ti un s)(h':c3M ws st ti' un' s'):s=s'/\ti=ti'/\un=un':=by
 cases h <;> cases h' <;> first|exact⟨rfl,rfl,rfl⟩|(simp_all;done)
theorem c2F{ev:Int}{s:Nat × Bool}(h:b0n ws st pc ev acc s)(h':b0n ws st pc' ev' acc' s'):s=s'/\pc=pc'/\ev=ev'/\(s.2=false->acc=acc'):=by
 cases h with
 |daily h=>cases h' <;> first|exact⟨rfl,rfl,rfl,fun _=>rfl⟩|(simp_all;done)
 |monthly h1 h2 h=>cases h' <;> first|exact⟨rfl,rfl,rfl,fun _=>rfl⟩|(simp_all;done)
 |none h1 h2 h=>cases h' <;> first|exact⟨rfl,rfl,rfl,fun _=>rfl⟩|(simp_all;done)
 |weekly h1 h acc ha =>
  cases h' with
  |daily g=>rw[g] at h1;cases h1
  |weekly g1 g acc' ga =>
   refine⟨rfl,rfl,rfl,fun h2=>?_⟩;have t:tkB ws (a0M ws [evB] (nxt st)).1 (a0M ws [evB] (nxt st)).2 Txt.onB=true:=a8u (B:=Txt.onB) (st:=a0M ws [evB] (nxt st)) h2;exact Option.some.inj ((ha t).symm.trans (ga t))
  |monthly g1 g2 g=>rw[h] at g2;cases g2
  |none g1 g2 g=>rw[h] at g2;cases g2
theorem b6f{ev:Int}{s:Nat × Bool}{fr' mn' mi':Int}(h:b0m ws st pc ev acc fr mn mi ti un s)(h':b0m ws st pc' ev' acc' fr' mn' mi' ti' un' s'):
  s=s'/\pc=pc'/\ev=ev'/\(s.2=false->acc=acc')/\fr=fr'/\mn=mn'/\mi=mi'/\ti=ti'/\un=un':=by
 obtain⟨s0,hp,he,rfl,rfl,rfl⟩:=a7m h;obtain⟨s0',hp',he',rfl,rfl,rfl⟩:=a7m h';obtain⟨rfl,rfl,rfl,ha⟩:=c2F hp hp';obtain⟨rfl,rfl,rfl⟩:=c5u he he';refine⟨rfl,rfl,rfl,fun h2=>ha ?_,rfl,rfl,rfl,rfl,rfl⟩;have hm:=(b7b he h2).1;have m6:(stp ws miB (stp ws (a1s b3z) (stp ws Txt.a3a (stp ws (a1s atW) (stp ws Txt.a2y (stp ws (a1s a1t) s0)))))).2=false:=hm;exact a0H (a0H (a0H (a0H (a0H (a0H m6)))))
theorem a8x{v':Value}{s:Nat × Bool}(h1:a2H ws v s)(h2:a2H ws v' s'):s=s'/\(s.2=false->v=v'):=by
 have e:c2h v=c2h v':=h1.tag.trans h2.tag.symm
 cases h1 with
 |series h pc ev acc fr mn mi ti un s hr =>
  cases h2 with
  |series h' pc' ev' acc' fr' mn' mi' ti' un' s' hr' =>
   obtain⟨rfl,rfl,rfl,ha,rfl,rfl,rfl,rfl,rfl⟩:=b6f hr hr';exact⟨rfl,fun h2=>by rw[ha h2]⟩
  |_=>exact absurd e (by simp[c2h])
 |expand h pc ev acc fr mn mi ti un s hr =>
  cases h2 with
  |expand h' pc' ev' acc' fr' mn' mi' ti' un' s' hr' =>
   obtain⟨rfl,rfl,rfl,ha,rfl,rfl,rfl,rfl,rfl⟩:=b6f hr hr';exact⟨rfl,fun h2=>by rw[ha h2]⟩
  |_=>exact absurd e (by simp[c2h])
 |list0 h hm =>
  cases h2 with
  |list0 h' hm'=>exact⟨rfl,fun _=>rfl⟩
  |list1 h' hm'=>rw[hm] at hm';cases hm'
  |_=>exact absurd e (by simp[c2h])
 |list1 h hm =>
  cases h2 with
  |list0 h' hm'=>rw[hm] at hm';cases hm'
  |list1 h' hm'=>exact⟨rfl,fun _=>rfl⟩
  |_=>exact absurd e (by simp[c2h])
 |_=>cases h2 <;> first|exact⟨rfl,fun _=>rfl⟩|exact absurd e (by simp[c2h])
theorem a8v{e e':Ending}(h:a7T t e)(h':a7T t e'):e=e':=by
 cases h with
 |long h =>
  cases h' with
  |long h'=>rfl
  |bad h'=>omega
  |e6J h'=>omega
 |bad h v st hl hb =>
  cases h' with
  |long h'=>omega
  |bad h' v' st' hl' hb'=>obtain⟨rfl,_⟩:=a8x hl hl';rfl
  |e6J h' v' st' hl' h2 hb' =>
   obtain⟨rfl,_⟩:=a8x hl hl';rcases hb with hb|hb
   ·rw[h2] at hb;cases hb
   ·rw[hb'] at hb;cases hb
 |e6J h v st hl h2 hb =>
  cases h' with
  |long h'=>omega
  |bad h' v' st' hl' hb' =>
   obtain⟨rfl,_⟩:=a8x hl hl';rcases hb' with hb' |hb'
   ·rw[h2] at hb';cases hb'
   ·rw[hb] at hb';cases hb'
  |e6J h' v' st' hl' h2' hb'=>obtain⟨rfl,hv⟩:=a8x hl hl';rw[hv h2]
end Go.Proofs.YtfigmlfdnickmaaGreatDoor
namespace Go.Proofs.YtfigmlfdnickmaaGreatDoor.Txt
open Go
theorem b5p:∀ (k u:Nat),u<10 ^ (k+1)->(Lib.decDigits u).length<=k+1
 |0,u,h=>by rw[Lib.decDigits];simp at h;rw[dif_pos h];simp
 |k+1,u,h=>by
  rw[Lib.decDigits]
  split
  ·simp
  ·have:=b5p k (u / 10) (by rw[Nat.pow_succ] at h;omega);simp;omega
def a0x(n:Int):ByteArray:=⟨(Lib.itoa n).toArray⟩
theorem a0I(n:Int)(h0:0<=n)(h:n<=9999999):(a0x n).size<=7:=by
 rw[<- a1d];unfold a0x Lib.itoa;rw[if_neg (by omega)];have:=b5p 6 n.toNat (by omega)
 simpa using this
def pz:Nat->ByteArray->ByteArray
 |0,t=>t
 |k+1,t=>pz k (⟨#[48]⟩++t)
def b8V(n:Int)(size:Nat):ByteArray:=pz (size-(a0x n).size) (a0x n)
theorem e2f:∀ (k:Nat)(t:ByteArray),(pz k t).size=k+t.size
 |0,t=>by simp[pz]
 |k+1,t=>by
  rw[pz,e2f k];have:(⟨#[48]⟩++t:ByteArray).size=1+t.size:=ByteArray.size_append;omega
theorem d1q(n:Int)(size:Nat)(h0:0<=n)(h:n<=9999999):(b8V n size).size<=size+7:=by
 unfold b8V;rw[e2f];have:=a0I n h0 h;omega
theorem e2g:∀ (k:Nat)(t:ByteArray),(pz k t).data.toList=List.replicate k 48++t.data.toList
 |0,t=>rfl
 |k+1,t=>by
  rw[pz,e2g k,a1X];rw[show (ByteArray.mk #[48]).data.toList=[48] from rfl,<- List.append_assoc]
  congr 1
  rw[List.replicate_succ']
theorem d7B(c:UInt8)(h:dig c=true)(u:Nat)(hu:(u:Int)=(c.toNat:Int)-48):UInt8.ofNat (48+u)=c:=by
 have:=(a6k c).1 h;apply UInt8.toNat_inj.1;rw[UInt8.toNat_ofNat'];omega
theorem c1f(u:Nat)(h:u<10):Lib.decDigits u=[UInt8.ofNat (48+u)]:=by
 rw[Lib.decDigits,dif_pos h]
theorem c5x(u:Nat)(h:¬ u<10):Lib.decDigits u=Lib.decDigits (u / 10)++[UInt8.ofNat (48+u % 10)]:=by
 rw[Lib.decDigits,dif_neg h]
theorem e9N:∀ (n:Nat)(l:List UInt8),l.length=n+1->a6j l=true->List.replicate (n+1-(Lib.decDigits (b4R l).toNat).length) 48++Lib.decDigits (b4R l).toNat=l/\0<=b4R l/\(Lib.decDigits (b4R l).toNat).length<=n+1
 |0,l,hl,hd=>by
  match l,hl with
  |[c],_ =>
   simp only[a6j,List.all_cons,List.all_nil,Bool.and_true] at hd;have hc:=(a6k c).1 hd;have e:b4R [c]=(c.toNat:Int)-48:=by simp[b4R]
   rw[e,c1f _ (by omega)];refine⟨?_,by omega,by simp⟩;simp only[List.length_singleton,Nat.sub_self,List.replicate_zero,List.nil_append];rw[d7B c hd _ (by omega)]
 |n+1,l,hl,hd=>by
  obtain⟨m,c,rfl⟩:∃ m c,l=m++[c]:=by
   have hne:l≠[]:=by intro e;subst e;simp at hl
   exact⟨l.dropLast,l.getLast hne,(List.dropLast_concat_getLast hne).symm⟩
  rw[a6X,Bool.and_eq_true] at hd;have hc:=(a6k c).1 hd.2;have hml:m.length=n+1:=by simp at hl;exact hl
  obtain⟨i1,i2,i3⟩:=e9N n m hml hd.1;rw[b2Y];obtain⟨a,ha⟩:=Int.eq_ofNat_of_zero_le i2;rw[ha] at i1 i3 ⊢;simp only[Int.toNat_natCast] at i1 i3;have et:((a:Int)*10+((c.toNat:Int)-48)).toNat=a*10+(c.toNat-48):=by omega
  rw[et];have hcn:c.toNat-48<10:=by omega
  by_cases ha0:a=0
  ·subst ha0;have e0:(0:Nat)*10+(c.toNat-48)=c.toNat-48:=by omega
   rw[e0,c1f _ hcn,d7B c hd.2 _ (by omega)];refine⟨?_,by omega,by simp⟩;rw[c1f 0 (by omega)] at i1;simp only[List.length_singleton] at i1 ⊢;rw[show n+1+1-1=n+1 from by omega];rw[<- i1]
   congr 1
   rw[show n+1-1=n from by omega,List.replicate_succ'];rfl
  ·rw[c5x _ (by omega),show (a*10+(c.toNat-48)) / 10=a from by omega,show (a*10+(c.toNat-48)) % 10=c.toNat-48 from by omega,d7B c hd.2 _ (by omega)];refine⟨?_,by omega,by simp;omega⟩;rw[List.length_append,List.length_singleton,show n+1+1-((Lib.decDigits a).length+1)=n+1-(Lib.decDigits a).length from by omega,<- List.append_assoc,i1]
theorem f6E(t:ByteArray)(n:Nat)(h:t.size=n+1)(hd:a6j t.data.toList=true):b8V (b4R t.data.toList) (n+1)=t:=by
 obtain⟨h1,h2,_⟩:=e9N n t.data.toList (by rw[a1d];exact h) hd;apply a7x;unfold b8V;have e:a0x (b4R t.data.toList)=⟨(Lib.decDigits (b4R t.data.toList).toNat).toArray⟩:=by unfold a0x Lib.itoa;rw[if_neg (by omega)]
 rw[e2g,e];have sz:(ByteArray.mk (Lib.decDigits (b4R t.data.toList).toNat).toArray).size=(Lib.decDigits (b4R t.data.toList).toNat).length:=by rw[<- a1d]
 rw[sz];exact h1
end Go.Proofs.YtfigmlfdnickmaaGreatDoor.Txt
namespace Go.Proofs.YtfigmlfdnickmaaGreatDoor
open Go.RowKit
theorem b8w(w:World)(k:Nat)(os:Array Obj):Below w.heap.size w (Sort.grow (w.drewN k) os) :=
 ⟨rfl,rfl,rfl,by simp[Sort.grow],fun j hj=>by simp only[Sort.grow,World.heap_drewN];rw[Array.getElem?_append_left hj]⟩
theorem c2Y(n:Int)(w:World)(he:Env w)(h0:-9223372036854775808<=n)(h1:n<=9223372036854775807):
  Calls Tryz.prog 47 #[.int .i64 n] w fun e w'=>e=.returned (.string (Txt.a0x n))/\Below w.heap.size w w':=by
 refine (Tryz.strconv_Itoa n h0 h1 w he.pow).mono ?_;rintro e w' ⟨rfl,k,os,rfl⟩;exact⟨rfl,b8w w k os⟩
end Go.Proofs.YtfigmlfdnickmaaGreatDoor
namespace Go.Proofs.YtfigmlfdnickmaaGreatDoor.Txt
open Go
def b1m(x:List (List UInt8) × List UInt8)(c:UInt8):List (List UInt8) × List UInt8:=if c=32 then ((if x.2=[] then x.1 else x.1++[x.2]),[]) else (x.1,x.2++[c])
def c4p(l:List UInt8):List (List UInt8) × List UInt8:=l.foldl b1m ([],[])
def c1V(x:List (List UInt8) × List UInt8):List (List UInt8):=if x.2=[] then x.1 else x.1++[x.2]
def b2u(l:List UInt8):List (List UInt8):=c1V (c4p l)
theorem c1t{a b:ByteArray}(h:a.data.toList=b.data.toList):a=b:=by
 cases a;cases b
 simp only[ByteArray.mk.injEq];exact Array.toList_inj.1 h
theorem a1l(s:ByteArray):s.data.toList.length=s.size:=by rw[Array.length_toList];rfl
theorem c4i(s:ByteArray)(k:Nat)(h:k<s.size):a0V s k=32↔s.data.toList[k]'(by rw[a1l];exact h)=32:=by
 have hl:k<s.data.toList.length:=by rw[a1l];exact h
 have e:a0V s k=((s.data.toList[k]).toNat:Int):=by
  unfold a0V;rw[List.getD_eq_getElem?_getD,List.getElem?_eq_getElem hl];rfl
 rw[e];constructor
 ·intro e1;apply UInt8.toNat_inj.1;show (s.data.toList[k]).toNat=32;omega
 ·intro k;rw[k];rfl
theorem c2G(s:ByteArray)(k:Nat)(h:k<s.size):(s.extract k (k+1)).data.toList=[s.data.toList[k]'(by rw[a1l];exact h)]:=by
 have hl:k<s.data.toList.length:=by rw[a1l];exact h
 rw[ByteArray.data_extract,Array.toList_extract,List.extract_eq_take_drop];rw[Nat.add_sub_cancel_left,List.drop_eq_getElem_cons hl];simp
theorem a4V(b:ByteArray):b.size=0↔b.data.toList=[]:=by
 rw[<- a1l];exact List.length_eq_zero_iff
theorem c0L(s:ByteArray):∀ k:Nat,k<=s.size->(s.data.toList.take k).foldl b1m ([],[])=((b7w s k).map (·.data.toList),(a8z s k).data.toList)
 |0,_=>by
  have h1:=b5J s 0;have h2:=b7k s 0;have e1:b7w s 0=[]:=List.length_eq_zero_iff.1 (by omega);have e2:(a8z s 0).data.toList=[]:=(a4V _).1 (by omega);simp[e1,e2]
 |k+1,h=>by
  have ih:=c0L s k (by omega);have hl:k<s.data.toList.length:=by rw[a1l];omega
  rw[List.take_succ_eq_append_getElem hl,List.foldl_append,ih];simp only[List.foldl_cons,List.foldl_nil];unfold b1m
  by_cases c:a0V s k=32
  ·rw[if_pos ((c4i s k (by omega)).1 c)];obtain⟨h1,h2⟩:=b3O s k (by omega) c;rw[h1,h2];refine Prod.ext ?_ rfl;show (if (a8z s k).data.toList=[] then _ else _)=_
   by_cases d:(a8z s k).size=0
   ·rw[if_pos ((a4V _).1 d),if_pos d,List.append_nil]
   ·rw[if_neg (fun e=>d ((a4V _).2 e)),if_neg d,List.map_append];rfl
  ·rw[if_neg (fun e=>c ((c4i s k (by omega)).2 e))];obtain⟨h1,h2⟩:=b7l s k c;rw[h2,<- h1,a1X,c2G s k (by omega)]
theorem b7B(s:ByteArray):(a1v s).map (·.data.toList)=b2u s.data.toList:=by
 have h:=c0L s s.size (zq _);rw[List.take_of_length_le (by rw[a1l];exact zq _)] at h;unfold b2u c4p c1V;rw[h,b2t,List.map_append]
 by_cases d:(a8z s s.size).size=0
 ·rw[if_pos d,if_pos ((a4V _).1 d)];simp
 ·rw[if_neg d,if_neg (fun e=>d ((a4V _).2 e))];simp
theorem c1R(h:b2u s.data.toList=ws.map (·.data.toList)):a1v s=ws:=by
 rw[<- b7B] at h;generalize a1v s=l at h
 induction l generalizing ws with
 |nil =>
  cases ws with
  |nil=>rfl
  |cons w ws=>simp at h
 |cons x l ih =>
  cases ws with
  |nil=>simp at h
  |cons w ws =>
   simp only[List.map_cons,List.cons.injEq] at h;rw[c1t h.1,ih h.2]
def a3V(w:List UInt8):Bool:=!w.isEmpty && w.all fun c=>decide (c≠32)
theorem a8C{w:List UInt8}:a3V w=true↔w≠[]/\∀ c∈w,c≠32:=by
 unfold a3V;rw[Bool.and_eq_true,List.all_eq_true];constructor
 ·rintro ⟨h1,h2⟩;exact⟨fun e=>by simp[e] at h1,fun c hc=>by simpa using h2 c hc⟩
 ·rintro ⟨h1,h2⟩;exact⟨by cases w <;> simp at h1 ⊢,fun c hc=>by simpa using h2 c hc⟩
theorem b3A{w:List UInt8}(h:∀ c∈w,c≠32):∀ x:List (List UInt8) × List UInt8,w.foldl b1m x=(x.1,x.2++w):=by
 induction w with
 |nil=>intro x;simp
 |cons c w ih =>
  intro x;rw[List.foldl_cons];have:b1m x c=(x.1,x.2++[c]):=by unfold b1m;rw[if_neg (h c (by simp))]
  rw[this,ih (fun d hd=>h d (by simp[hd]))];simp
theorem b7S(x:List (List UInt8) × List UInt8):b1m x 32=(c1V x,[]):=by
 unfold b1m c1V;rw[if_pos rfl]
theorem e5P(x:List (List UInt8)):b1m (x,[]) 32=(x,[]):=by rw[b7S];simp[c1V]
def jb:List (List UInt8)->List UInt8
 |[]=>[]
 |w :: r=>w++(match r with| []=>[]|_ :: _=>32 :: jb r)
theorem a6Q(w v:List UInt8)(r:List (List UInt8)):jb (w :: v :: r)=w++32 :: jb (v :: r):=rfl
theorem b3k(w:List UInt8):jb [w]=w:=by simp[jb]
theorem c0K:∀ (ws:List (List UInt8))(acc:List (List UInt8)),(∀ w∈ws,a3V w=true)->c1V ((jb ws).foldl b1m (acc,[]))=acc++ws
 |[],acc,_=>by simp[jb,c1V]
 |[w],acc,h=>by
  obtain⟨h1,h2⟩:=a8C.1 (h w (by simp));rw[b3k,b3A h2];simp[c1V,h1]
 |w :: v :: r,acc,h=>by
  obtain⟨h1,h2⟩:=a8C.1 (h w (by simp));rw[a6Q,List.foldl_append,b3A h2,List.foldl_cons,b7S];have e:c1V (acc,[]++w)=acc++[w]:=by simp[c1V,h1]
  rw[e,c0K (v :: r) (acc++[w]) (fun z hz=>h z (by simp at hz ⊢;exact .inr hz))];simp
theorem c1S{ws:List (List UInt8)}(h:∀ w∈ws,a3V w=true):b2u (jb ws)=ws:=by
 unfold b2u c4p;rw[c0K ws [] h];simp
theorem a5p(hs:s.data.toList=jb (ws.map (·.data.toList)))(h:∀ w∈ws,a3V w.data.toList=true):a1v s=ws:=by
 apply c1R;rw[hs];apply c1S;intro w hw;obtain⟨v,hv,rfl⟩:=List.mem_map.1 hw;exact h v hv
end Go.Proofs.YtfigmlfdnickmaaGreatDoor.Txt
namespace Go.Proofs.YtfigmlfdnickmaaGreatDoor.Txt
open Go
theorem c4f(u:Nat)(h:u<10):dig (UInt8.ofNat (48+u))=true/\((UInt8.ofNat (48+u)).toNat:Int)=48+u:=by
 have e:(UInt8.ofNat (48+u)).toNat=48+u:=by rw[UInt8.toNat_ofNat'];omega
 refine⟨?_,by rw[e];omega⟩;unfold dig;rw[e];exact decide_eq_true (by omega)
theorem b7h(n:Nat):a6j (Lib.decDigits n)=true/\b4R (Lib.decDigits n)=n/\1<=(Lib.decDigits n).length:=by
 induction n using Nat.strongRecOn with
 |_ n ih =>
  by_cases c:n<10
  ·rw[c1f n c];obtain⟨h1,h2⟩:=c4f n c;refine⟨by unfold a6j;rw[List.all_cons,h1];rfl,?_,by simp⟩;unfold b4R;simp only[List.foldl_cons,List.foldl_nil];omega
  ·rw[c5x n c];obtain⟨i1,i2,i3⟩:=ih (n / 10) (by omega);obtain⟨h1,h2⟩:=c4f (n % 10) (by omega);refine⟨?_,?_,by simp⟩
   ·unfold a6j at i1 ⊢;rw[List.all_append,i1,List.all_cons,h1];rfl
   ·rw[b2Y,i2,h2];omega
theorem a9j(n:Int)(h:0<=n):(a0x n).data.toList=Lib.decDigits n.toNat:=by
 unfold a0x Lib.itoa;rw[if_neg (by omega)]
theorem b6O{n:Int}(h0:0<=n)(h1:n<=9999999):isNum (a0x n).data.toList=true/\a2f (a0x n).data.toList=n:=by
 obtain⟨d1,d2,d3⟩:=b7h n.toNat;have hl:=b5p 6 n.toNat (by omega)
 have e:isNum (a0x n).data.toList=true:=by
  rw[a9j n h0];unfold isNum;rw[d1,decide_eq_true (by omega)];rfl
 refine⟨e,?_⟩;unfold a2f;rw[if_pos e,a9j n h0,d2];omega
theorem c1c{l:List UInt8}(h:a6j l=true)(hl:1<=l.length):a3V l=true:=by
 rw[a8C];refine⟨fun e=>by rw[e] at hl;simp at hl,fun c hc e=>?_⟩;have:=List.all_eq_true.1 h c hc;rw[e] at this;exact absurd this (by decide)
theorem b3l{n:Int}(h:0<=n):a3V (a0x n).data.toList=true:=by
 obtain⟨d1,_,d3⟩:=b7h n.toNat;rw[a9j n h];exact c1c d1 d3
end Go.Proofs.YtfigmlfdnickmaaGreatDoor.Txt
namespace Go.Proofs.YtfigmlfdnickmaaGreatDoor
open Go.RowKit
theorem a0G{x:Int}(h1:-9223372036854775808<=x)(h2:x<=9223372036854775807):IntKind.i64.wrap x=x:=by
 rw[IntKind.wrap_i64];omega
def a2s(c n:Int):Int:=(if c<0 then -(c+1) else c) % n
theorem a6G{c n:Int}(hn:1<=n):0<=a2s c n/\a2s c n<n:=⟨Int.emod_nonneg _ (by omega),Int.emod_lt_of_pos _ (by omega)⟩
theorem b9M(c n:Int)(w:World)(h1:-9223372036854775808<=c)(h2:c<=9223372036854775807)(hn:1<=n)(hn2:n<=1000000):
  Calls Tryz.prog 38 #[.int .i64 c,.int .i64 n] w fun e w'=>e=.returned (.int .i64 (a2s c n))/\w'=w:=by
 have hz:(n==0)=false:=by simp;omega
 have hb:=a6G (c:=c) hn
 by_cases h:c<0
 ·have k1:IntKind.i64.wrap (c+1)=c+1:=a0G (by omega) (by omega);have k2:IntKind.i64.wrap (-(c+1))=-(c+1):=a0G (by omega) (by omega);have e:(-(c+1)).tmod n=a2s c n:=by unfold a2s;rw[if_pos h];exact Int.tmod_eq_emod_of_nonneg (by omega)
  have k3:IntKind.i64.wrap (a2s c n)=a2s c n:=a0i (by omega) (by omega);generalize a2s c n=v at *
  go_enter Tryz.func38,Tryz.ntmps38
  go_wp2_with fail
  go_ret
  simp_all
 ·have e:c.tmod n=a2s c n:=by unfold a2s;rw[if_neg h];exact Int.tmod_eq_emod_of_nonneg (by omega)
  have k3:IntKind.i64.wrap (a2s c n)=a2s c n:=a0i (by omega) (by omega);generalize a2s c n=v at *
  go_enter Tryz.func38,Tryz.ntmps38
  go_wp2_with fail
  go_ret
  simp_all
theorem a6O(n:Int)(w:World)(he:Env w)(h0:-9223372036854775808<=n)(h1:n<=9223372036854775807):
  Calls Tryz.prog 22 #[.int .i64 n] w fun e w'=>e=.returned (.string (Txt.a0x n))/\Below w.heap.size w w':=by
 have IT:=a0b (c2Y n w he h0 h1);clear he
 go_enter Tryz.func22,Tryz.ntmps22
 go_wp2_with (first
  |(go_at_call 47;refine IT.out.mono ?_;rintro e w1 ⟨rfl,hb⟩))
 go_ret;exact⟨rfl,hb⟩
theorem f1K(l m:List Int)(u v:Value)(B C:Nat)(w:World)(hu:w.ownsRow B 3 1 u l.length (l.map (Value.int .i64)))(hv:w.ownsRow C 3 1 v m.length (m.map (Value.int .i64)))(hl:l.length<=1000000):
  Calls Tryz.prog 34 #[u,v] w fun e w'=>e=.returned (.bool (decide (l=m)))/\Below w.heap.size w w':=by
 obtain⟨a,ca,rfl⟩:=b1C hu;obtain⟨b,cb,rfl⟩:=b1C hv;have HU:=a0b hu;have HV:=a0b hv;clear hu hv
 by_cases hlen:l.length=m.length
 ·have hb:((l.length:Int) != (m.length:Int))=false:=by simp[hlen]
  go_enter Tryz.func34,Tryz.ntmps34
  go_wp2_with fail
  go_loopw [5] (fun v wr=>∃ k:Nat,k<=l.length/\v=.int .i64 k/\l.take k=m.take k/\Below w.heap.size w wr) (fun v _=>l.length-(intOf v).toNat)
  case atStart=>exact⟨0,Nat.zero_le _,rfl,rfl,Below.refl _ _⟩
  case round =>
   obtain⟨k,hk,rfl,hpre,hbl⟩:=hrel
   by_cases hlt:k<l.length
   ·have hlt':(k:Int)<(l.length:Int):=by omega
    have hmt':(k:Int)<(m.length:Int):=by omega
    have ru:=c6T HU.out hbl;have rv:=c6T HV.out hbl;obtain⟨Ha,ca',e1⟩:=Joins.ownsRow_form ru (by omega);simp only[Value.slice.injEq,true_and] at e1;obtain⟨rfl,rfl⟩:=e1;obtain⟨Hb,cb',e2⟩:=Joins.ownsRow_form rv (by omega);simp only[Value.slice.injEq,true_and] at e2;obtain⟨rfl,rfl⟩:=e2;have a0:=ru.cellAt k (by omega);have b0:=rv.cellAt k (by omega);rw[List.getElem?_map,List.getElem?_eq_getElem hlt,Option.map_some] at a0;rw[List.getElem?_map,List.getElem?_eq_getElem (show k<m.length by omega),Option.map_some] at b0;have HP:=a0b hpre;have HB:=a0b hbl
    by_cases hx:l[k]=m[k]
    ·have hxb:(l[k] != m[k])=false:=by simp[hx]
     have HN:Hid (l.take (k+1)=m.take (k+1)):=by
      show l.take (k+1)=m.take (k+1);rw[List.take_succ_eq_append_getElem hlt,List.take_succ_eq_append_getElem (show k<m.length by omega),hpre,hx]
     generalize l[k]=x at *;generalize m[k]=y at *;clear ru rv hpre hbl hx
     go_upto_region 6 with fail
     go_region
     all_goals
      go_wp2_with fail
      go_roundw
      case rel=>exact⟨k+1,by omega,by go_num,HN.out,HB.out.drew⟩
      case measure=>simp[intOf];omega
    ·have hxb:(l[k] != m[k])=true:=by simp[hx]
     have HE:Hid (decide (l=m)=false):=by
      show decide (l=m)=false;simp only[decide_eq_false_iff_not];intro h;apply hx;simp only[h]
     generalize l[k]=x at *;generalize m[k]=y at *;clear ru rv hpre hbl hx
     go_upto_region 6 with fail
     go_region
     all_goals
      go_wp2_with fail
      go_ret;exact⟨by rw[HE.out];rfl,HB.out.drew⟩
   ·have hlt':¬ (k:Int)<(l.length:Int):=by omega
    have HE:Hid (decide (l=m)=true):=by
     show decide (l=m)=true;simp only[decide_eq_true_eq];have hk':k=l.length:=by omega
     rw[hk',List.take_length,hlen,List.take_length] at hpre;exact hpre
    have HB:=a0b hbl;clear hbl hpre
    go_wp2_with fail
    go_ret;exact⟨by rw[HE.out];rfl,HB.out⟩
 ·have hb:((l.length:Int) != (m.length:Int))=true:=by simp;omega
  have e:decide (l=m)=false:=by simp;intro h;exact hlen (by rw[h])
  rw[e]
  go_enter Tryz.func34,Tryz.ntmps34
  go_wp2_with fail
  go_ret;exact⟨rfl,Below.refl _ _⟩
structure c7h(w:World)(F:Nat)(s:ByteArray)(a:Nat):Prop where
 b:w.heap[F]?=some (.cells #[.string s,.int .i64 (a:Int)] 47 (0,0))
 le:a<=s.size
 sz:s.size<=9223372036854775807
structure FW(w0:World)(F:Nat)(s:ByteArray)(w:World):Prop where
 fd:∃ a,c7h w F s a
 env:Env w
 off:Off [F] w0 w
 ten:10<=F
theorem FW.lt(h:FW w0 F s w):F<w.heap.size:=by
 obtain⟨a,h⟩:=h.fd;exact (Array.getElem?_eq_some_iff.1 h.b).1
theorem b9Z(k:Off [F] w w')(hF:10<=F)(hs:10<=w.heap.size):Below 10 w w' :=
 ⟨k.os,k.tape,k.output,k.size,fun b hb=>k.block b (by omega) (by simp;omega)⟩
theorem FW.later(h:FW w0 F s w)(k:Below w.heap.size w w'):FW w0 F s w':=by
 obtain⟨a,fd⟩:=h.fd;exact⟨⟨a,(k.block F h.lt).trans fd.b,fd.le,fd.sz⟩,h.env.later k,h.off.trans (Off.of_below k),h.ten⟩
theorem FW.drew(h:FW w0 F s w):FW w0 F s w.drew:=h.later (a0q w)
theorem FW.alloc(h:FW w0 F s w)(o:Obj):FW w0 F s (w.alloc o):=h.later ((zr w.heap.size w).alloc (zq _) o)
theorem FW.set(h:FW w0 F s w){R:Nat}(hR:w0.heap.size<=R)(hF:R≠F)(h10:10<=R)(o:Nat)(v:Value):FW w0 F s (w.setCell ⟨R,o,none⟩ v):=by
 obtain⟨a,fd⟩:=h.fd;have k:=Off.set0 R w o v;exact⟨⟨a,(k.block F h.lt (by simp;exact fun e=>hF e.symm)).trans fd.b,fd.le,fd.sz⟩,h.env.ten (b9Z k h10 h.env.size),h.off.setCell (.inr hR) o v,h.ten⟩
theorem a2A{W:World}{b i:Nat}{cs:Array Value}{t:TypeId}{q:Nat × Nat}(h:W.heap[b]?=some (.cells cs t q))(v:Value):(W.setCell ⟨b,i,none⟩ v).heap[b]?=some (.cells (cs.setIfInBounds i v) t q):=by
 obtain⟨hlt,hk⟩:=Array.getElem?_eq_some_iff.1 h;show (W.heap.modify b _)[b]?=_;rw[Array.getElem?_eq_getElem (by rw[Array.size_modify];exact hlt),Array.getElem_modify_self,hk];rfl
theorem b0q{x:Value}{t:TypeId}(h:w.heap[F]?=some (.cells #[x,y] t (0,0))):w.cell? ⟨F,0,none⟩=some x/\w.cell? ⟨F,1,none⟩=some y/\∀ o,w.frozen? ⟨F,o,none⟩=false:=by
 refine⟨?_,?_,fun o=>frozen_of_row _ F o _ _ h⟩ <;> (simp only[World.cell?,h];rfl)
theorem b1X{x z u:Value}{t:TypeId}(h:w.heap[F]?=some (.cells #[x,y,z,u] t (0,0))):w.cell? ⟨F,0,none⟩=some x/\w.cell? ⟨F,1,none⟩=some y/\w.cell? ⟨F,2,none⟩=some z/\w.cell? ⟨F,3,none⟩=some u/\∀ o,w.frozen? ⟨F,o,none⟩=false:=by
 refine⟨?_,?_,?_,?_,fun o=>frozen_of_row _ F o _ _ h⟩ <;> (simp only[World.cell?,h];rfl)
theorem a1h(h:FW w0 F s w)(n:Int)(h1:1<=n)(h2:n<=1000):
  Calls Tryz.prog 26 #[.pointer (some ⟨F,0,none⟩),.int .i64 n] w fun e w'=>∃ v,e=.returned (.int .i64 v)/\0<=v/\v<n/\FW w0 F s w':=by
 obtain⟨a,fd⟩:=h.fd;obtain⟨c0,c1,fz⟩:=b0q fd.b;have hle:=fd.le;have hsz:=fd.sz;have HF:=a0b h;have HD:=a0b fd;have hz:(n==0)=false:=by simp;omega
 clear h fd
 by_cases hlt:a<s.size
 ·have hlt':¬ (s.size:Int)<=(a:Int):=by omega
  have k1:IntKind.i64.wrap ((a:Int)+1)=((a+1:Nat):Int):=by rw[a0G (by omega) (by omega)];omega
  have hb:s[a].toNat<256:=s[a].toNat_lt;have k2:IntKind.i64.wrap (s[a].toNat:Int)=(s[a].toNat:Int):=a0G (by omega) (by omega);have k3:(s[a].toNat:Int).tmod n=(s[a].toNat:Int) % n:=Int.tmod_eq_emod_of_nonneg (by omega);have b1:0<=(s[a].toNat:Int) % n:=Int.emod_nonneg _ (by omega);have b2:(s[a].toNat:Int) % n<n:=Int.emod_lt_of_pos _ (by omega);have k4:IntKind.i64.wrap ((s[a].toNat:Int) % n)=(s[a].toNat:Int) % n:=a0G (by omega) (by omega)
  have HW:Hid (FW w0 F s (w.drew.drew.setCell ⟨F,1,none⟩ (.int .i64 ((a+1:Nat):Int)))):=by
   have k:=Off.set0 F w.drew.drew 1 (.int .i64 ((a+1:Nat):Int));have h2:=HF.out.drew.drew;exact⟨⟨a+1,a2A (W:=w.drew.drew) HD.out.b _,hlt,hsz⟩,h2.env.ten (b9Z k h2.ten h2.env.size),h2.off.setCell (.inl (by simp)) _ _,h2.ten⟩
  go_enter Tryz.func26,Tryz.ntmps26
  go_upto_region 1 with fail
  go_big_region
  go_upto_region 3 with fail
  go_big_region
  go_wp2_with fail
  go_ret;exact⟨_,rfl,b1,b2,HW.out⟩
 ·have hlt':(s.size:Int)<=(a:Int):=by omega
  go_enter Tryz.func26,Tryz.ntmps26
  go_upto_region 1 with fail
  go_big_region
  go_wp2_with fail
  go_ret;exact⟨0,rfl,by omega,by omega,HF.out.drew⟩
theorem a3L(h:FW w0 F s w)(n:Int)(h0:-9223372036854775808<=n)(h1:n<=9223372036854775807):
  Calls Tryz.prog 22 #[.int .i64 n] w fun e w'=>e=.returned (.string (Txt.a0x n))/\FW w0 F s w' :=
 (a6O n w h.env h0 h1).mono fun _ _ k=>⟨k.1,h.later k.2⟩
def b1O(late:Bool):ByteArray:=if late then ⟨#[50,48,50,53,45,49,50,45]⟩ else ⟨#[50,48,50,52,45,48,49,45]⟩
def b8V(n:Int):ByteArray:=if (Txt.a0x n).size<2 then (⟨#[48]⟩:ByteArray)++Txt.a0x n else Txt.a0x n
theorem b2V{n:Int}(h0:0<=n)(h1:n<=9999999):(b8V n).size<=7:=by
 have:=Txt.a0I n h0 h1;unfold b8V
 split
 ·rw[ByteArray.size_append];show 1+_<=7;omega
 ·omega
theorem b3j(h:FW w0 F s w)(n:Int)(late:Bool)(h0:0<=n)(h1:n<=1000):
  Calls Tryz.prog 68 #[.int .i64 n,.bool late] w fun e w'=>e=.returned (.string (b1O late++b8V (1+n)))/\FW w0 F s w':=by
 have NU:=a0b (a3L h (1+n) (by omega) (by omega));have hz:=Txt.a0I (1+n) (by omega) (by omega);have k1:IntKind.i64.wrap (1+n)=1+n:=a0G (by omega) (by omega);clear h
 by_cases hs:(Txt.a0x (1+n)).size<2
 ·have e:b8V (1+n)=(⟨#[48]⟩:ByteArray)++Txt.a0x (1+n):=by unfold b8V;rw[if_pos hs]
  have hs':((Txt.a0x (1+n)).size:Int)<2:=by omega
  rw[e];generalize Txt.a0x (1+n)=t at *
  cases late
  all_goals
   unfold b1O
   go_enter Tryz.func68,Tryz.ntmps68
   go_wp2_with (first
    |(go_at_call 22;refine NU.out.mono ?_;rintro e w1 ⟨rfl,hb⟩))
   go_ret;exact⟨rfl,hb⟩
 ·have e:b8V (1+n)=Txt.a0x (1+n):=by unfold b8V;rw[if_neg hs]
  have hs':¬ ((Txt.a0x (1+n)).size:Int)<2:=by omega
  rw[e];generalize Txt.a0x (1+n)=t at *
  cases late
  all_goals
   unfold b1O
   go_enter Tryz.func68,Tryz.ntmps68
   go_wp2_with (first
    |(go_at_call 22;refine NU.out.mono ?_;rintro e w1 ⟨rfl,hb⟩))
   go_ret;exact⟨rfl,hb⟩
def c5B(nm:ByteArray)(u fr til:Int):ByteArray:=(((((nm++(⟨#[32]⟩:ByteArray))++Txt.a0x u)++(⟨#[32]⟩:ByteArray))++Txt.a0x fr)++(⟨#[32]⟩:ByteArray))++Txt.a0x til
theorem b3U(hn:nm.size<=10)(hu:0<=u/\u<=9999999)(hf:0<=fr/\fr<=9999999)(ht:0<=til/\til<=9999999):(c5B nm u fr til).size<=40:=by
 have z1:=Txt.a0I u hu.1 hu.2;have z2:=Txt.a0I fr hf.1 hf.2;have z3:=Txt.a0I til ht.1 ht.2;unfold c5B;simp only[ByteArray.size_append];show nm.size+1+_+1+_+1+_<=40;omega
def a1P(nm:ByteArray)(u fr til:Int):Obj:=.cells #[.string nm,.int .i64 u,.int .i64 fr,.int .i64 til] 49 (0,0)
theorem b5S(w:World)(he:Env w)(nm:ByteArray)(u fr til:Int)(hn:nm.size<=10)(hu:0<=u/\u<=9999999)(hf:0<=fr/\fr<=9999999)(ht:0<=til/\til<=9999999):
  Calls Tryz.prog 28 #[.agg #[.string nm,.int .i64 u,.int .i64 fr,.int .i64 til]] w fun e w'=>e=.returned (.string (c5B nm u fr til))/\Below w.heap.size w w':=by
 have z1:=Txt.a0I u hu.1 hu.2;have z2:=Txt.a0I fr hf.1 hf.2;have z3:=Txt.a0I til ht.1 ht.2;have hX:Below w.heap.size w (w.alloc (a1P nm u fr til)).drew:=((zr _ _).alloc (zq _) _).drew;have hq:(w.alloc (a1P nm u fr til)).drew.heap[w.heap.size]?=some (a1P nm u fr til):=a0p w _;have NU:Hid (∀ W n,Below w.heap.size w W->0<=n/\n<=9999999->Calls Tryz.prog 22 #[.int .i64 n] W fun e w'=>e=.returned (.string (Txt.a0x n))/\Below W.heap.size W w'):=fun W n hW hn=>a6O n W (he.later hW) (by omega) (by omega)
 have AC:Hid (∀ W,Below (w.alloc (a1P nm u fr til)).drew.heap.size (w.alloc (a1P nm u fr til)).drew W->W.cell? ⟨w.heap.size,0,none⟩=some (.string nm)/\W.cell? ⟨w.heap.size,1,none⟩=some (.int .i64 u)/\W.cell? ⟨w.heap.size,2,none⟩=some (.int .i64 fr)/\W.cell? ⟨w.heap.size,3,none⟩=some (.int .i64 til)):=fun W hW=>by
  have:=(hW.block w.heap.size (Array.getElem?_eq_some_iff.1 hq).1).trans hq;unfold a1P at this;obtain⟨a0,a1,a2,a3,_⟩:=b1X this;exact⟨a0,a1,a2,a3⟩
 have HX:=a0b hX;clear hX hq he;have c0:=AC.out _ (zr _ _);obtain⟨c0,c1,c2,c3⟩:=c0;have sz0:¬ (9223372036854775807<nm.size+1):=by omega
 have sz1:¬ (9223372036854775807<nm.size+1+(Txt.a0x u).size):=by omega
 have sz2:¬ (9223372036854775807<nm.size+1+(Txt.a0x u).size+1):=by omega
 have sz3:¬ (9223372036854775807<nm.size+1+(Txt.a0x u).size+1+(Txt.a0x fr).size):=by omega
 have sz4:¬ (9223372036854775807<nm.size+1+(Txt.a0x u).size+1+(Txt.a0x fr).size+1):=by omega
 have sz5:¬ (9223372036854775807<nm.size+1+(Txt.a0x u).size+1+(Txt.a0x fr).size+1+(Txt.a0x til).size):=by omega
 have HU:=a0b hu;have HT:=a0b ht;have HR:=a0b hf;clear hu ht hf z1 z2 z3 hn
 go_enter Tryz.func28,Tryz.ntmps28
 go_upto_region 1 with fail
 change Code.wp _ _ _ _ (w.alloc (a1P nm u fr til));generalize w.alloc (a1P nm u fr til)=X at *
 go_region_held3 (fun w'=>w'.cell? ⟨w.heap.size,0,none⟩=some (.string nm)/\w'.cell? ⟨w.heap.size,1,none⟩=some (.int .i64 u)/\w'.cell? ⟨w.heap.size,2,none⟩=some (.int .i64 fr)/\w'.cell? ⟨w.heap.size,3,none⟩=some (.int .i64 til))
  (first
   |with_reducible exact AC.out _ HB3.out
   |with_reducible exact AC.out _ HB2.out
   |with_reducible exact AC.out _ HB1.out
   |exact⟨c0,c1,c2,c3⟩)
  (first
   |(go_at_call 22;refine (NU.out _ til (HX.out.trans (HB2.out.mono HX.out.size)) HT.out).mono ?_;rintro e w3 ⟨rfl,hb3⟩;have HB3:=a0b (a0j HB2.out hb3 (zq _));clear hb3)
   |(go_at_call 22;refine (NU.out _ fr (HX.out.trans (HB1.out.mono HX.out.size)) HR.out).mono ?_;rintro e w2 ⟨rfl,hb2⟩;have HB2:=a0b (a0j HB1.out hb2 (zq _));clear hb2)
   |(go_at_call 22;refine (NU.out _ u HX.out HU.out).mono ?_;rintro e w1 ⟨rfl,hb1⟩;have HB1:=a0b hb1;clear hb1))
 have HF:Hid (Below w.heap.size w w3):=HX.out.trans (HB3.out.mono HX.out.size);clear AC NU HB1 HB2 HB3
 go_wp2_with fail
 go_ret;exact⟨rfl,HF.out⟩
open Desk (Ent St Ids kept a0C a0Q a1C a2e ofB a0y a2c Mid a1H a0z Inv)
def Reads(t:ByteArray)(v:Value):Prop:=∀ e,a7T t e->e=.returned (.tuple #[v,.int .i64 0,.int .i64 0])
theorem a5G(hw:Txt.a1v t=ws)(hs:t.size<=160)(hl:a2H ws v (n,false))(hn:n=ws.length):Reads t v:=fun e he=>by
 subst hw;exact a8v he (.e6J hs v (n,false) hl rfl (by simp[a1b,hn]))
theorem c5P{n:Int}(h0:1<=n)(h1:n<=9):unB (Txt.a0x n)=true/\nvF (Txt.a0x n)=n/\Txt.a3V (Txt.a0x n).data.toList=true:=by
 obtain⟨a,b⟩:=Txt.b6O (n:=n) (by omega) (by omega);refine⟨?_,b,Txt.b3l (by omega)⟩;unfold unB a0K;rw[a,b];simp[h0,h1]
theorem f5w{n:Int}(h0:1<=n)(h1:n<=1048320):miB (Txt.a0x n)=true/\nvF (Txt.a0x n)=n/\Txt.a3V (Txt.a0x n).data.toList=true:=by
 obtain⟨a,b⟩:=Txt.b6O (n:=n) (by omega) (by omega);refine⟨?_,b,Txt.b3l (by omega)⟩;unfold miB a0K;rw[a,b];simp[h0,h1]
theorem f6A{n:Int}(h0:0<=n)(h1:n<=9999999):idB (Txt.a0x n)=true/\nvF (Txt.a0x n)=n/\Txt.a3V (Txt.a0x n).data.toList=true:=by
 obtain⟨a,b⟩:=Txt.b6O (n:=n) (by omega) (by omega);exact⟨a,b,Txt.b3l (by omega)⟩
theorem b1q{n:Int}(h0:0<=n)(h1:n<=1048320):a0n (Txt.a0x n)=true/\a1J (Txt.a0x n)=n/\Txt.a3V (Txt.a0x n).data.toList=true:=by
 obtain⟨a,b⟩:=Txt.b6O (n:=n) (by omega) (by omega);have v:a8J (Txt.a0x n)=n:=by unfold a8J;rw[a,b];rfl
 have t:a0n (Txt.a0x n)=true:=by unfold a0n;rw[a,v];simp[h0,h1]
 exact⟨t,by unfold a1J;rw[t,v];rfl,Txt.b3l (by omega)⟩
structure Nm(nm:ByteArray):Prop where
 b:nmB nm=true
 w:Txt.a3V nm.data.toList=true
 s:nm.size=1
theorem c7k:Nm ⟨#[97]⟩:=⟨by decide +kernel,by decide +kernel,by decide +kernel⟩
theorem c7j:Nm ⟨#[98]⟩:=⟨by decide +kernel,by decide +kernel,by decide +kernel⟩
theorem g3c:Nm ⟨#[99]⟩:=⟨by decide +kernel,by decide +kernel,by decide +kernel⟩
theorem a8A(h:ws[n]?=some x)(hB:nmB x=true):a2F ws (n,false)=x:=by
 obtain⟨y,hy,e⟩:=a2Q (ws:=ws) (st:=(n,false)) (by rw[(takes h hB).1]);have hn:n<ws.length:=(List.getElem?_eq_some_iff.1 h).1;have hg:ws.getD n ByteArray.empty=x:=by rw[List.getD_eq_getElem?_getD,h];rfl
 have t:tkB ws n false (fun s=>Txt.a1j s.data.toList)=true:=by
  unfold tkB;rw[hg];have:Txt.a1j x.data.toList=true:=hB;simp[a1b,hn,this]
 unfold a2F tkS;rw[t,hg];exact if_pos hB
theorem a8t:Txt.a3V a3F.data.toList=true/\Txt.a3V a9P.data.toList=true/\Txt.a3V b5f.data.toList=true/\Txt.a3V b4k.data.toList=true/\Txt.a3V a6m.data.toList=true/\Txt.a3V a4z.data.toList=true/\Txt.a3V a5Q.data.toList=true/\Txt.a3V a9a.data.toList=true/\Txt.a3V b5h.data.toList=true/\Txt.a3V b4n.data.toList=true:=by decide +kernel
theorem a8K(hn:Nm nm)(hu:1<=u/\u<=9)(ht:t.data.toList=a3F.data.toList++32 :: (nm.data.toList++32 :: (Txt.a0x u).data.toList)):
  Reads t (.iface 149 (.agg #[.string nm,.int .i64 u])):=by
 obtain⟨u1,u2,u3⟩:=c5P hu.1 hu.2
 have hw:Txt.a1v t=[a3F,nm,Txt.a0x u]:=by
  refine Txt.a5p ?_ ?_
  ·rw[ht];simp only[List.map_cons,List.map_nil,Txt.a6Q,Txt.b3k]
  ·intro x hx;simp only[List.mem_cons,List.not_mem_nil,or_false] at hx;rcases hx with rfl|rfl|rfl
   ·exact a8t.1
   ·exact hn.w
   ·exact u3
 have hs:t.size<=160:=by
  have a:=Txt.a0I u (by omega) (by omega);rw[<- Txt.a1l] at a ⊢;rw[ht];have:=hn.s;rw[<- Txt.a1l] at this;simp only[List.length_append,List.length_cons];have:a3F.data.toList.length=5:=rfl;omega
 have t1:=takes (ws:=[a3F,nm,Txt.a0x u]) (n:=1) (x:=nm) (B:=nmB) rfl hn.b;have t2:=takes (ws:=[a3F,nm,Txt.a0x u]) (n:=2) (x:=Txt.a0x u) (B:=unB) rfl u1;have h:=a2H.a0k (ws:=[a3F,nm,Txt.a0x u]) (b1P rfl);simp only[a4T,a6y,t1.1,t2.1,t2.2,a8A (ws:=[a3F,nm,Txt.a0x u]) (n:=1) rfl hn.b,u2] at h;exact a5G hw hs h rfl
theorem b8g(hn:Nm nm)(ht:t.data.toList=a5Q.data.toList++32 :: nm.data.toList):
  Reads t (.iface 170 (.agg #[.string nm,.bool false,.int .i64 0,.int .i64 0])):=by
 have hw:Txt.a1v t=[a5Q,nm]:=by
  refine Txt.a5p ?_ ?_
  ·rw[ht];simp only[List.map_cons,List.map_nil,Txt.a6Q,Txt.b3k]
  ·intro x hx;simp only[List.mem_cons,List.not_mem_nil,or_false] at hx;rcases hx with rfl|rfl
   ·exact a8t.2.2.2.2.2.2.1
   ·exact hn.w
 have hs:t.size<=160:=by
  rw[<- Txt.a1l];rw[ht];have:=hn.s;rw[<- Txt.a1l] at this;simp only[List.length_append,List.length_cons];have:a5Q.data.toList.length=4:=rfl;omega
 have t1:=takes (ws:=[a5Q,nm]) (n:=1) (x:=nm) (B:=nmB) rfl hn.b;have h:=a2H.list0 (ws:=[a5Q,nm]) (b1P rfl) (by simp only[a4T,a6y,t1.1];rfl);simp only[a4T,a6y,t1.1,a8A (ws:=[a5Q,nm]) (n:=1) rfl hn.b] at h;exact a5G hw hs h rfl
theorem c3J(x nm:ByteArray)(u fr til:Int):((x++c5B nm u fr til)).data.toList=x.data.toList++(nm.data.toList++32 :: ((Txt.a0x u).data.toList++32 :: ((Txt.a0x fr).data.toList++32 :: (Txt.a0x til).data.toList))):=by
 unfold c5B;simp only[Txt.a1X,List.append_assoc];rfl
theorem c9G{base base' e size:Nat}{xs:List Value}(h:w.ownsRow base e size v n xs)(hb:base'<=base):w.ownsRow base' e size v n xs:=by
 refine⟨h.1,?_⟩;rcases h.2 with h0|⟨g,cap,cur,hv,hg,rest⟩
 ·exact .inl h0
 ·exact .inr ⟨g,cap,cur,hv,Nat.le_trans hb hg,rest⟩
end Go.Proofs.YtfigmlfdnickmaaGreatDoor
