import Derived.Test.YtfigmlfdnickmaaGreatDoorL14
import Derived.Lib.ItoaNum
import Derived.Deep.RegionHeld3
import Derived.Deep.AppendLies
set_option maxRecDepth 100000
set_option maxHeartbeats 8000000
variable{a b name x:ByteArray}{B:ByteArray->Bool}{ev' fr mi mn pc pc' ti ti' til un un':Int}{p ws:List ByteArray}{acc acc':List Int}{xs:List Go.Value}{d e k mm n:Nat}{s s' st:Nat × Bool}{col:Nat->Option Go.Proofs.YtfigmlfdnickmaaGreatDoor.Col}{v:Go.Value}{w:Go.World}
namespace Go.Proofs.YtfigmlfdnickmaaGreatDoor
open Go.RowKit
open Desk (Ent St Ids kept a0C a0Q a1C a2e ofB a0y a2c Mid a1H a0z Inv)
theorem a6V{s:St}(hm:Mid s)(h:a1c s name 0 fr til≠0):Desk.a0g s (.list name fr til)=(s,Desk.Rep.error (a1c s name 0 fr til)):=by
 have hn:=Desk.a4g hm.tu name;simp only[Desk.a0g];unfold a1c Desk.a0S at *
 by_cases h1:Desk.a0h name s.ts=0
 ·rw[if_pos h1];simp[h1]
 ·have h2:¬ (Desk.a0h name s.ts<0):=by omega
  simp only[h1,h2] at h ⊢
  by_cases h3:til<=fr
  ·simp[h3]
  ·simp[h3] at h
theorem b3H{s:St}(h:a1c s name 0 fr til=0):Desk.a0g s (.list name fr til)=(s,⟨0,0,0,Desk.a2x name fr til s.es,[],[],[]⟩):=by
 obtain⟨h1,h2⟩:=a1E h;have h3:Desk.a0h name s.ts≠0:=fun e=>by unfold Desk.a0S at h1;rw[if_pos e] at h1;omega
 simp only[Desk.a0g];rw[if_neg h3,if_neg (by omega)];rfl
theorem b3e(name:ByteArray)(wi:Bool)(fr til a b:Int):Below w.heap.size w (((w.alloc (.cells #[.string name,.bool wi,.int .i64 fr,.int .i64 til] 170)).alloc a0f).alloc (.cells #[.int .i64 a,.int .i64 b] 60))/\(((w.alloc (.cells #[.string name,.bool wi,.int .i64 fr,.int .i64 til] 170)).alloc a0f).alloc (.cells #[.int .i64 a,.int .i64 b] 60)).heap[w.heap.size+1]?=some a0f/\(((w.alloc (.cells #[.string name,.bool wi,.int .i64 fr,.int .i64 til] 170)).alloc a0f).alloc (.cells #[.int .i64 a,.int .i64 b] 60)).cell? ⟨w.heap.size+1+1,0,none⟩=some (.int .i64 a)/\(((w.alloc (.cells #[.string name,.bool wi,.int .i64 fr,.int .i64 til] 170)).alloc a0f).alloc (.cells #[.int .i64 a,.int .i64 b] 60)).cell? ⟨w.heap.size+1+1,1,none⟩=some (.int .i64 b)/\(((w.alloc (.cells #[.string name,.bool wi,.int .i64 fr,.int .i64 til] 170)).alloc a0f).alloc (.cells #[.int .i64 a,.int .i64 b] 60)).heap.size=w.heap.size+3:=by
 have h1:=a0p (w.alloc (.cells #[.string name,.bool wi,.int .i64 fr,.int .i64 til] 170)) a0f;have h2:=a0p ((w.alloc (.cells #[.string name,.bool wi,.int .i64 fr,.int .i64 til] 170)).alloc a0f) (.cells #[.int .i64 a,.int .i64 b] 60);rw[World.size_alloc] at h1;rw[World.size_alloc,World.size_alloc] at h2;refine⟨(((zr _ _).alloc (zq _) _).alloc (by simp) _).alloc (by rw[World.size_alloc,World.size_alloc];omega) _,(Below.heap_alloc _ _ _ (by rw[World.size_alloc,World.size_alloc];omega)).trans h1,?_,?_,by rw[World.size_alloc,World.size_alloc,World.size_alloc]⟩
 ·simp only[World.cell?,h2];rfl
 ·simp only[World.cell?,h2];rfl
theorem c2Q{s:St}{r:Raw}(h:DSt w d s r col)(name:ByteArray)(hn:name.size<=1000)(wi:Bool)(fr til:Int):
  Calls Tryz.prog 98 #[.pointer (some ⟨d,0,none⟩),.agg #[.string name,.bool wi,.int .i64 fr,.int .i64 til]] w fun e w'=>∃ v,e=.returned v/\a0l w d col (Desk.a0g s (.list name (if wi then fr else 0) (if wi then til else 1048320))) v w':=by
 have HH:=a0b h;clear h
 cases wi
 ·simp only[reduceIte,Bool.false_eq_true];obtain⟨hX,hXQ,x1,x2,hNX⟩:=b3e (w:=w) name false fr til 0 1048320;have AK:=a0b (a4e (HH.out.dk.later hX) HH.out.of HH.out.mid name hn 0 0 1048320);have HX:=a0b (zA hX hXQ);clear hX hXQ
  go_enter Tryz.func98,Tryz.ntmps98
  unfold a0f at AK HX x1 x2 hNX
  go_upto_region 9 with fail
  generalize (((w.alloc (.cells #[.string name,.bool false,.int .i64 fr,.int .i64 til] 170)).alloc (.cells #[.int .i64 0,.int .i64 0,.int .i64 0,.slice none 0 0,.slice none 0 0,.slice none 0 0,.slice none 0 0] 40)).alloc (.cells #[.int .i64 0,.int .i64 1048320] 60))=X at *;refine AK.out.mono ?_;rintro e w1 ⟨hp,hb⟩;have BX:Hid (Below w.heap.size w w1):=HX.out.1.trans (hb.mono HX.out.1.size);have QX:Hid (Q7 w1 (w.heap.size+1)):=(Q7.of HX.out.2).later (hb.block _ (by omega));rcases hp with ⟨h1,rfl⟩|⟨h1,i,hi,e1,e2,rfl⟩
  ·have HD:=a0b (a6V HH.out.mid h1);generalize a1c s name 0 0 1048320=er at *;have hb1:(er != 0)=true:=by simpa using h1
   clear h1 AK HX hb x1 x2
   go_wp2_with fail
   refine (a0D er w1).mono ?_;rintro e w2 ⟨rfl,hb2⟩;have hq:=hb2.block (w.heap.size+1) (World.block_lt_of_cell? _ _ QX.out.q0)
   have HF:Hid (a0l w d col (Desk.a0g s (.list name 0 1048320)) (a0s er 0 0 (.slice none 0 0) (.slice none 0 0) (.slice none 0 0) (.slice none 0 0)) (a2w w2 (w.heap.size+1) (.int .i64 er) (.int .i64 0) (.int .i64 0) (.slice none 0 0) (.slice none 0 0) (.slice none 0 0) (.slice none 0 0))):=by
    rw[HD.out];exact HH.out.said (BX.out.trans (hb2.mono BX.out.size)) (by omega) er 0 _ _ _ _ _ _ _
   obtain⟨q0,q1,q2,q3,q4,q5,q6,fq⟩:=QX.out.later hq;simp only[a0s]
   go_wp2_with fail
   exact bodyPost_ret (v:=a0s er 0 0 (.slice none 0 0) (.slice none 0 0) (.slice none 0 0) (.slice none 0 0)) (by simp[results,Tryz.results98,go_sem,a0s,q0,q1,q2,q3,q4,q5,q6]) rfl ⟨_,rfl,HF.out⟩
  ·have HD:=a0b (b3H h1);have y1:=a0a hb x1;have y2:=a0a hb x2;have hs1:w.heap.size+3<=w1.heap.size:=by have:=hb.size;omega
   have TL:=a0b (b2y (w:=w1) (s:=s) ⟨HH.out.dk.later BX.out,HH.out.of,HH.out.wl,HH.out.hl,HH.out.inv⟩ hi 0 1048320);rw[e1] at TL;clear h1 AK HX hb x1 x2 e1 e2
   go_wp2_with fail
   refine TL.out.mono ?_;rintro e w2 ⟨v,l,rfl,hl,er,hb2⟩;obtain⟨a1,c1,rfl⟩:=a0B er.own;have hq:=hb2.block (w.heap.size+1) (World.block_lt_of_cell? _ _ QX.out.q0)
   have HF:Hid (∀ a b c e f g i,a0l w d col (Desk.a0g s (.list name 0 1048320)) (a0s 0 0 0 (.slice a1 l.length c1) (.slice none 0 0) (.slice none 0 0) (.slice none 0 0)) (a2w w2 (w.heap.size+1) a b c e f g i)):=fun a b c e f g i=>by
    rw[HD.out,<- hl];exact HH.out.ansEntries (BX.out.trans (hb2.mono BX.out.size)) (by omega) (er.base (by omega)) a b c e f g i
   obtain⟨q0,q1,q2,q3,q4,q5,q6,fq⟩:=QX.out.later hq;clear TL er hl hb2 hq
   go_wp2_with fail
   exact bodyPost_ret (v:=a0s 0 0 0 (.slice a1 l.length c1) (.slice none 0 0) (.slice none 0 0) (.slice none 0 0)) (by simp[results,Tryz.results98,go_sem,a0s,q0,q1,q2,q3,q4,q5,q6]) rfl ⟨_,rfl,HF.out _ _ _ _ _ _ _⟩
 ·simp only[if_true];obtain⟨hX,hXQ,x1,x2,hNX⟩:=b3e (w:=w) name true fr til fr til;have AK:=a0b (a4e (HH.out.dk.later hX) HH.out.of HH.out.mid name hn 0 fr til);have HX:=a0b (zA hX hXQ);clear hX hXQ
  go_enter Tryz.func98,Tryz.ntmps98
  unfold a0f at AK HX x1 x2 hNX
  go_upto_region 9 with fail
  generalize (((w.alloc (.cells #[.string name,.bool true,.int .i64 fr,.int .i64 til] 170)).alloc (.cells #[.int .i64 0,.int .i64 0,.int .i64 0,.slice none 0 0,.slice none 0 0,.slice none 0 0,.slice none 0 0] 40)).alloc (.cells #[.int .i64 fr,.int .i64 til] 60))=X at *;refine AK.out.mono ?_;rintro e w1 ⟨hp,hb⟩;have BX:Hid (Below w.heap.size w w1):=HX.out.1.trans (hb.mono HX.out.1.size);have QX:Hid (Q7 w1 (w.heap.size+1)):=(Q7.of HX.out.2).later (hb.block _ (by omega));rcases hp with ⟨h1,rfl⟩|⟨h1,i,hi,e1,e2,rfl⟩
  ·have HD:=a0b (a6V HH.out.mid h1);generalize a1c s name 0 fr til=er at *;have hb1:(er != 0)=true:=by simpa using h1
   clear h1 AK HX hb x1 x2
   go_wp2_with fail
   refine (a0D er w1).mono ?_;rintro e w2 ⟨rfl,hb2⟩;have hq:=hb2.block (w.heap.size+1) (World.block_lt_of_cell? _ _ QX.out.q0)
   have HF:Hid (a0l w d col (Desk.a0g s (.list name fr til)) (a0s er 0 0 (.slice none 0 0) (.slice none 0 0) (.slice none 0 0) (.slice none 0 0)) (a2w w2 (w.heap.size+1) (.int .i64 er) (.int .i64 0) (.int .i64 0) (.slice none 0 0) (.slice none 0 0) (.slice none 0 0) (.slice none 0 0))):=by
    rw[HD.out];exact HH.out.said (BX.out.trans (hb2.mono BX.out.size)) (by omega) er 0 _ _ _ _ _ _ _
   obtain⟨q0,q1,q2,q3,q4,q5,q6,fq⟩:=QX.out.later hq;simp only[a0s]
   go_wp2_with fail
   exact bodyPost_ret (v:=a0s er 0 0 (.slice none 0 0) (.slice none 0 0) (.slice none 0 0) (.slice none 0 0)) (by simp[results,Tryz.results98,go_sem,a0s,q0,q1,q2,q3,q4,q5,q6]) rfl ⟨_,rfl,HF.out⟩
  ·have HD:=a0b (b3H h1);have y1:=a0a hb x1;have y2:=a0a hb x2;have hs1:w.heap.size+3<=w1.heap.size:=by have:=hb.size;omega
   have TL:=a0b (b2y (w:=w1) (s:=s) ⟨HH.out.dk.later BX.out,HH.out.of,HH.out.wl,HH.out.hl,HH.out.inv⟩ hi fr til);rw[e1] at TL;clear h1 AK HX hb x1 x2 e1 e2
   go_wp2_with fail
   refine TL.out.mono ?_;rintro e w2 ⟨v,l,rfl,hl,er,hb2⟩;obtain⟨a1,c1,rfl⟩:=a0B er.own;have hq:=hb2.block (w.heap.size+1) (World.block_lt_of_cell? _ _ QX.out.q0)
   have HF:Hid (∀ a b c e f g i,a0l w d col (Desk.a0g s (.list name fr til)) (a0s 0 0 0 (.slice a1 l.length c1) (.slice none 0 0) (.slice none 0 0) (.slice none 0 0)) (a2w w2 (w.heap.size+1) a b c e f g i)):=fun a b c e f g i=>by
    rw[HD.out,<- hl];exact HH.out.ansEntries (BX.out.trans (hb2.mono BX.out.size)) (by omega) (er.base (by omega)) a b c e f g i
   obtain⟨q0,q1,q2,q3,q4,q5,q6,fq⟩:=QX.out.later hq;clear TL er hl hb2 hq
   go_wp2_with fail
   exact bodyPost_ret (v:=a0s 0 0 0 (.slice a1 l.length c1) (.slice none 0 0) (.slice none 0 0) (.slice none 0 0)) (by simp[results,Tryz.results98,go_sem,a0s,q0,q1,q2,q3,q4,q5,q6]) rfl ⟨_,rfl,HF.out _ _ _ _ _ _ _⟩
theorem b5D{s:St}{rw_:Raw}(h:DSt w d s rw_ col)(name:ByteArray)(hn:name.size<=1000)(wi:Bool)(fr til a b:Int)(ha:(if wi then fr else 0)=a)(hb:(if wi then til else 1048320)=b):
  Calls Tryz.prog 64 #[.pointer (some ⟨d,0,none⟩),.iface 170 (.agg #[.string name,.bool wi,.int .i64 fr,.int .i64 til])] w fun e w'=>∃ v,e=.returned v/\a0l w d col (Desk.a0g s (.list name a b)) v w':=by
 have hX:Below w.heap.size w ((w.alloc a0f).alloc (.cells #[.string name,.bool wi,.int .i64 fr,.int .i64 til] 170)):=((zr _ _).alloc (zq _) _).alloc (by simp) _;have hq:((w.alloc a0f).alloc (.cells #[.string name,.bool wi,.int .i64 fr,.int .i64 til] 170)).heap[w.heap.size]?=some a0f:=(Below.heap_alloc _ _ _ (by simp)).trans (a0p w a0f);have hs:w.heap.size<((w.alloc a0f).alloc (.cells #[.string name,.bool wi,.int .i64 fr,.int .i64 til] 170)).heap.size:=by simp;omega
 have EF:=a0b (c2Q (w:=((w.alloc a0f).alloc (.cells #[.string name,.bool wi,.int .i64 fr,.int .i64 til] 170))) (s:=s) ⟨h.dk.later hX,h.of,h.wl,h.hl,h.inv⟩ name hn wi fr til);have HX:=a0b (zA hX (zA (Q7.of hq) (zA (h.dk.none (zq _)) hs)));rw[ha,hb] at EF;clear h hX hq hs ha hb;unfold a0f at EF HX;have noThing:=d0q 170 (by decide);have noBook:=d2o 170 (by decide);have noHold:=d2F 170 (by decide);have noWait:=d3H 170 (by decide);have noSeries:=d0K 170 (by decide);have noConfirm:=d0y 170 (by decide);have noCancel:=d1Q 170 (by decide);have yesList:∀ (xT:TypeId) (v:Value) (w:World),(Instr.typeAssert (.iface 170 v) xT 170 true).run Tryz.prog w=.ok (.tuple #[v,.bool true]) w:=by intro xT v w;simp[Instr.typeAssert,go_sem,Result.andThen,run_underlying Tryz.underlying170]
 go_enter Tryz.func64,Tryz.ntmps64
 go_wp2_with fail
 refine EF.out.mono ?_;rintro e w2 ⟨v,rfl,ep⟩;obtain⟨er,at_,nn,a1,a2,a3,a4,n1,n2,n3,n4,c1,c2,c3,c4,rfl,q7,hf⟩:=ep.up HX.out.1 (zq _) HX.out.2.2.2 HX.out.2.2.1 HX.out.2.1;have HF:=a0b (hf (.int .i64 er) (.int .i64 at_) (.int .i64 nn) (.slice a1 n1 c1) (.slice a2 n2 c2) (.slice a3 n3 c3) (.slice a4 n4 c4));clear ep hf EF noThing noBook noHold noWait noSeries noConfirm noCancel yesList;obtain⟨q0,q1,q2,q3,q4,q5,q6,fq⟩:=q7;simp only[a0s]
 go_wp2_with fail
 exact bodyPost_ret (v:=a0s er at_ nn (.slice a1 n1 c1) (.slice a2 n2 c2) (.slice a3 n3 c3) (.slice a4 n4 c4)) (by simp[results,Tryz.results64,go_sem,a0s,q0,q1,q2,q3,q4,q5,q6]) rfl ⟨_,rfl,HF.out⟩
namespace Desk
theorem a6h(ts:List (ByteArray × Int)):∀ (r done:List Ent),(a0O ts done r).2.length<=r.length
 |[],done=>by simp[a0O]
 |e :: r,done=>by
  simp only[a0O]
  split
  ·show ((a0O ts (done++[a0Q e]) r).2.length+1)<=_;have:=a6h ts r (done++[a0Q e]);simp;omega
  ·have:=a6h ts r (done++[e]);simp;omega
theorem b8x(ts:List (ByteArray × Int))(es:List Ent):(a0R ts es).2.length<=es.length:=a6h ts es []
end Desk
inductive LV:Value->Desk.a7U->Prop where
 |a0k (name:ByteArray) (hn:name.size<=1000) (u:Int):LV (.iface 149 (.agg #[.string name,.int .i64 u])) (.a0k name u)
 |book (name:ByteArray) (hn:name.size<=1000) (u fr til:Int):LV (.iface 154 (.agg #[.string name,.int .i64 u,.int .i64 fr,.int .i64 til])) (.enter 1 name u fr til 0)
 |hold (name:ByteArray) (hn:name.size<=1000) (u fr til long:Int):LV (.iface 156 (.agg #[.string name,.int .i64 u,.int .i64 fr,.int .i64 til,.int .i64 long])) (.enter 2 name u fr til long)
 |wait (name:ByteArray) (hn:name.size<=1000) (u fr til long:Int):LV (.iface 157 (.agg #[.string name,.int .i64 u,.int .i64 fr,.int .i64 til,.int .i64 long])) (.enter 3 name u fr til long)
 |series (name:ByteArray) (hn:name.size<=1000) (u:Int) (r:Rd.a0Y):LV (.iface 165 (.agg #[.string name,.int .i64 u,.int .i64 r.pc,.int .i64 r.ev,.bool (isd r.acc 0),.bool (isd r.acc 1),.bool (isd r.acc 2),.bool (isd r.acc 3),.bool (isd r.acc 4),.bool (isd r.acc 5),.bool (isd r.acc 6),.int .i64 r.fr,.int .i64 r.mn,.int .i64 r.mi,.int .i64 r.ti,.int .i64 r.un])) (.series name u r)
 |confirm (id:Int):LV (.iface 167 (.agg #[.int .i64 id])) (.confirm id)
 |cancel (id:Int):LV (.iface 168 (.agg #[.int .i64 id])) (.cancel id)
 |list (name:ByteArray) (hn:name.size<=1000) (wi:Bool) (fr til a b:Int) (ha:(if wi then fr else 0)=a) (hb:(if wi then til else 1048320)=b):LV (.iface 170 (.agg #[.string name,.bool wi,.int .i64 fr,.int .i64 til])) (.list name a b)
 |waiting:LV (.iface 173 (.agg #[])) (.waiting)
 |peak (name:ByteArray) (hn:name.size<=1000) (fr til:Int):LV (.iface 176 (.agg #[.string name,.int .i64 fr,.int .i64 til])) (.peak name fr til)
 |find (name:ByteArray) (hn:name.size<=1000) (u long fr til:Int):LV (.iface 178 (.agg #[.string name,.int .i64 u,.int .i64 long,.int .i64 fr,.int .i64 til])) (.find name u long fr til)
 |expand (r:Rd.a0Y):LV (.iface 180 (.agg #[.int .i64 r.pc,.int .i64 r.ev,.bool (isd r.acc 0),.bool (isd r.acc 1),.bool (isd r.acc 2),.bool (isd r.acc 3),.bool (isd r.acc 4),.bool (isd r.acc 5),.bool (isd r.acc 6),.int .i64 r.fr,.int .i64 r.mn,.int .i64 r.mi,.int .i64 r.ti,.int .i64 r.un])) (.expand r)
 |tick (n:Int):LV (.iface 182 (.agg #[.int .i64 n])) (.tick n)
 |clock:LV (.iface 183 (.agg #[])) (.clock)
theorem f4d{s:ByteArray}(h:a1s x s=true):s=x:=by
 have e:s.toList=x.toList:=eq_of_beq h;rw[ByteArray.toList_eq,ByteArray.toList_eq] at e;exact Txt.a7x e
theorem c4A(h:n<ws.length)(hB:B (ws.getD n ByteArray.empty)=true):stp ws B (n,false)=(n+1,false):=by
 simp only[stp,tkN,tkW,tkB,a1b,hB,h,decide_true,Bool.not_false,Bool.and_self,if_true]
theorem a6y(ws:List ByteArray)(st:Nat × Bool):a0M ws [] st=st:=rfl
theorem b4m{wr:Bool}(h:tkB ws n wr B=true):wr=false/\n<ws.length/\B (ws.getD n ByteArray.empty)=true:=by
 unfold tkB a1b at h;simp only[Bool.and_eq_true,Bool.not_eq_true',decide_eq_true_eq] at h;exact⟨h.1.1,h.1.2,h.2⟩
theorem a8u(h:(stp ws B st).2=false):tkB ws st.1 st.2 B=true:=by
 unfold stp tkW at h
 cases e:tkB ws st.1 st.2 B
 ·rw[e] at h;simp at h
 ·rfl
theorem a0H(h:(stp ws B st).2=false):st.2=false:=(b4m (a8u h)).1
theorem a0F(h:(stp ws B st).2=false):∃ x,B x=true/\∀ V,a0v ws st B V=V x:=by
 have t:=a8u h;exact⟨_,(b4m t).2.2,fun V=>by unfold a0v tkV;rw[t];rfl⟩
theorem b7G(h:unB x=true):1<=nvF x/\nvF x<=9:=by
 unfold unB a0K at h;simp only[Bool.and_eq_true,decide_eq_true_eq] at h;exact⟨h.1.2,h.2⟩
theorem c0p(h:miB x=true):1<=nvF x/\nvF x<=1048320:=by
 unfold miB a0K at h;simp only[Bool.and_eq_true,decide_eq_true_eq] at h;exact⟨h.1.2,h.2⟩
theorem c3l(h:evB x=true):1<=nvF x/\nvF x<=99:=by
 unfold evB a0K at h;simp only[Bool.and_eq_true,decide_eq_true_eq] at h;exact⟨h.1.2,h.2⟩
theorem c6p(x:ByteArray):0<=nvF x/\nvF x<=9999999:=Txt.a2B _
theorem a2Y(h:a0n x=true):0<=a1J x/\a1J x<=1048320:=by
 unfold a1J;rw[if_pos h];unfold a0n at h;simp only[Bool.and_eq_true,decide_eq_true_eq] at h;exact h.2
theorem c1g(h:Txt.a2y x=true):0<=b0a x/\b0a x<728:=by
 unfold b0a;rw[if_pos h];unfold Txt.a2y at h;exact (of_decide_eq_true h).2
theorem a4o(h:nmB x=true):x.size<=1000:=by
 unfold nmB Txt.a1j at h;rw[Bool.and_eq_true] at h;have:=of_decide_eq_true h.1;have e:x.size=x.data.toList.length:=by rw[Array.length_toList];rfl
 omega
theorem b7b(h:c3M ws st ti un s)(h2:s.2=false):st.2=false/\0<=ti/\ti<=99/\0<=un/\un<728:=by
 cases h with
 |times h =>
  have h2':(stp ws evB (nxt st)).2=false:=h2;obtain⟨x,hx,hv⟩:=a0F h2';have:=c3l hx;have hs:(nxt st).2=false:=a0H h2';rw[hv nvF];exact⟨hs,by omega,by omega,by omega,by omega⟩
 |til h1 h =>
  have h2':(stp ws Txt.a2y (nxt st)).2=false:=h2;obtain⟨x,hx,hv⟩:=a0F h2';have:=c1g hx;have hs:(nxt st).2=false:=a0H h2';rw[hv b0a];exact⟨hs,by omega,by omega,by omega,by omega⟩
 |none h1 h=>cases h2
theorem a7m{ev:Int}(h:b0m ws st pc ev acc fr mn mi ti un s):∃ s0,b0n ws st pc ev acc s0/\c3M ws (c4Y ws s0) ti un s/\fr=a0v ws (a0M ws [a1s a1t] s0) Txt.a2y b0a/\mn=a0v ws (a0M ws [a1s a1t,Txt.a2y,a1s atW] s0) Txt.a3a Txt.a6J/\mi=a0v ws (a0M ws [a1s a1t,Txt.a2y,a1s atW,Txt.a3a,a1s b3z] s0) miB nvF:=by
 cases h
 exact⟨_,by assumption,by assumption,rfl,rfl,rfl⟩
theorem c6m(h:isB ws 0 false x=true)(y:ByteArray):isB ws 0 false y=(x.toList==y.toList):=by
 unfold isB at h ⊢;rw[Bool.and_eq_true] at h;have e:=eq_of_beq h.2;rw[h.1,e,Bool.true_and]
def c2h:Value->Nat
 |.iface t _=>t
 |_=>0
def tyL:List (ByteArray × Nat):=[(a3F,149),(a9P,154),(b5f,156),(b4k,157),(a7l,165),(a4z,167),(a6m,168),(a5Q,170),(a5q,173),(a9a,176),(b5h,178),(a7M,180),(b4n,182),(b1c,183)]
def tyF(f:ByteArray->Bool):Nat:=((tyL.find? fun p=>f p.1).map (·.2)).getD 0
theorem a3p(h:isB ws 0 false x=true):tyF (isB ws 0 false)=tyF (fun y=>x.toList==y.toList):=by
 rw[show isB ws 0 false=fun y=>x.toList==y.toList from funext (c6m h)]
theorem a2H.tag(h:a2H ws v s):c2h v=tyF (isB ws 0 false):=by
 cases h with
 |none h0 h1 h2 h3 h4 h5 h6 h7 h8 h9 h10 h11 h12 h13=>simp[c2h,tyF,tyL,h0,h1,h2,h3,h4,h5,h6,h7,h8,h9,h10,h11,h12,h13]
 |a0k h=>rw[a3p h];exact (by decide +kernel:149=tyF (fun y=>a3F.toList==y.toList))
 |book h=>rw[a3p h];exact (by decide +kernel:154=tyF (fun y=>a9P.toList==y.toList))
 |hold h=>rw[a3p h];exact (by decide +kernel:156=tyF (fun y=>b5f.toList==y.toList))
 |wait h=>rw[a3p h];exact (by decide +kernel:157=tyF (fun y=>b4k.toList==y.toList))
 |series h=>rw[a3p h];exact (by decide +kernel:165=tyF (fun y=>a7l.toList==y.toList))
 |confirm h=>rw[a3p h];exact (by decide +kernel:167=tyF (fun y=>a4z.toList==y.toList))
 |cancel h=>rw[a3p h];exact (by decide +kernel:168=tyF (fun y=>a6m.toList==y.toList))
 |list0 h=>rw[a3p h];exact (by decide +kernel:170=tyF (fun y=>a5Q.toList==y.toList))
 |list1 h=>rw[a3p h];exact (by decide +kernel:170=tyF (fun y=>a5Q.toList==y.toList))
 |waiting h=>rw[a3p h];exact (by decide +kernel:173=tyF (fun y=>a5q.toList==y.toList))
 |peak h=>rw[a3p h];exact (by decide +kernel:176=tyF (fun y=>a9a.toList==y.toList))
 |find h=>rw[a3p h];exact (by decide +kernel:178=tyF (fun y=>b5h.toList==y.toList))
 |expand h=>rw[a3p h];exact (by decide +kernel:180=tyF (fun y=>a7M.toList==y.toList))
 |tick h=>rw[a3p h];exact (by decide +kernel:182=tyF (fun y=>b4n.toList==y.toList))
 |clock h=>rw[a3p h];exact (by decide +kernel:183=tyF (fun y=>b1c.toList==y.toList))
theorem c5u(h:c3M ws st ti un s)(h':c3M ws st ti' un' s'):s=s'/\ti=ti'/\un=un':=by
 cases h <;> cases h' <;> first|exact⟨rfl,rfl,rfl⟩|(simp_all;done)
theorem c2F{ev:Int}(h:b0n ws st pc ev acc s)(h':b0n ws st pc' ev' acc' s'):s=s'/\pc=pc'/\ev=ev'/\(s.2=false->acc=acc'):=by
 cases h with
 |daily h=>cases h' <;> first|exact⟨rfl,rfl,rfl,fun _=>rfl⟩|(simp_all;done)
 |monthly h1 h2 h=>cases h' <;> first|exact⟨rfl,rfl,rfl,fun _=>rfl⟩|(simp_all;done)
 |none h1 h2 h=>cases h' <;> first|exact⟨rfl,rfl,rfl,fun _=>rfl⟩|(simp_all;done)
 |weekly h1 h acc ha =>
  cases h' with
  |daily g=>rw[g] at h1;cases h1
  |weekly g1 g acc' ga =>
   refine⟨rfl,rfl,rfl,fun h2=>?_⟩;have t:tkB ws (a0M ws [evB] (nxt st)).1 (a0M ws [evB] (nxt st)).2 Txt.onB=true:=a8u (B:=Txt.onB) (st:=a0M ws [evB] (nxt st)) h2;exact Option.some.inj ((ha t).symm.trans (ga t))
  |monthly g1 g2 g=>rw[h] at g2;cases g2
  |none g1 g2 g=>rw[h] at g2;cases g2
theorem b6f{ev:Int}{fr' mn' mi':Int}(h:b0m ws st pc ev acc fr mn mi ti un s)(h':b0m ws st pc' ev' acc' fr' mn' mi' ti' un' s'):
  s=s'/\pc=pc'/\ev=ev'/\(s.2=false->acc=acc')/\fr=fr'/\mn=mn'/\mi=mi'/\ti=ti'/\un=un':=by
 obtain⟨s0,hp,he,rfl,rfl,rfl⟩:=a7m h;obtain⟨s0',hp',he',rfl,rfl,rfl⟩:=a7m h';obtain⟨rfl,rfl,rfl,ha⟩:=c2F hp hp';obtain⟨rfl,rfl,rfl⟩:=c5u he he';refine⟨rfl,rfl,rfl,fun h2=>ha ?_,rfl,rfl,rfl,rfl,rfl⟩;have hm:=(b7b he h2).1;have m6:(stp ws miB (stp ws (a1s b3z) (stp ws Txt.a3a (stp ws (a1s atW) (stp ws Txt.a2y (stp ws (a1s a1t) s0)))))).2=false:=hm;exact a0H (a0H (a0H (a0H (a0H (a0H m6)))))
theorem a8x{v':Value}(h1:a2H ws v s)(h2:a2H ws v' s'):s=s'/\(s.2=false->v=v'):=by
 have e:c2h v=c2h v':=h1.tag.trans h2.tag.symm
 cases h1 with
 |series h pc ev acc fr mn mi ti un s hr =>
  cases h2 with
  |series h' pc' ev' acc' fr' mn' mi' ti' un' s' hr' =>
   obtain⟨rfl,rfl,rfl,ha,rfl,rfl,rfl,rfl,rfl⟩:=b6f hr hr';exact⟨rfl,fun h2=>by rw[ha h2]⟩
  |_=>exact absurd e (by simp[c2h])
 |expand h pc ev acc fr mn mi ti un s hr =>
  cases h2 with
  |expand h' pc' ev' acc' fr' mn' mi' ti' un' s' hr' =>
   obtain⟨rfl,rfl,rfl,ha,rfl,rfl,rfl,rfl,rfl⟩:=b6f hr hr';exact⟨rfl,fun h2=>by rw[ha h2]⟩
  |_=>exact absurd e (by simp[c2h])
 |list0 h hm =>
  cases h2 with
  |list0 h' hm'=>exact⟨rfl,fun _=>rfl⟩
  |list1 h' hm'=>rw[hm] at hm';cases hm'
  |_=>exact absurd e (by simp[c2h])
 |list1 h hm =>
  cases h2 with
  |list0 h' hm'=>rw[hm] at hm';cases hm'
  |list1 h' hm'=>exact⟨rfl,fun _=>rfl⟩
  |_=>exact absurd e (by simp[c2h])
 |_=>cases h2 <;> first|exact⟨rfl,fun _=>rfl⟩|exact absurd e (by simp[c2h])
theorem a8v{t:ByteArray}{e e':Ending}(h:a7T t e)(h':a7T t e'):e=e':=by
 cases h with
 |long h =>
  cases h' with
  |long h'=>rfl
  |bad h'=>omega
  |e6J h'=>omega
 |bad h v st hl hb =>
  cases h' with
  |long h'=>omega
  |bad h' v' st' hl' hb'=>obtain⟨rfl,_⟩:=a8x hl hl';rfl
  |e6J h' v' st' hl' h2 hb' =>
   obtain⟨rfl,_⟩:=a8x hl hl';rcases hb with hb|hb
   ·rw[h2] at hb;cases hb
   ·rw[hb'] at hb;cases hb
 |e6J h v st hl h2 hb =>
  cases h' with
  |long h'=>omega
  |bad h' v' st' hl' hb' =>
   obtain⟨rfl,_⟩:=a8x hl hl';rcases hb' with hb' |hb'
   ·rw[h2] at hb';cases hb'
   ·rw[hb] at hb';cases hb'
  |e6J h' v' st' hl' h2' hb'=>obtain⟨rfl,hv⟩:=a8x hl hl';rw[hv h2]
def c4m(t:ByteArray):(Int × Int) ⊕ Desk.a7U->Prop
 |.inl (er,at_)=>er≠0/\(er=1/\at_=0\/er=2/\0<=at_)/\∀ e,a7T t e->e=.returned (.tuple #[.nilIface,.int .i64 er,.int .i64 at_])
 |.inr l=>∃ line,(∀ e,a7T t e->e=.returned (.tuple #[line,.int .i64 0,.int .i64 0]))/\LV line l/\Desk.a1O l
end Go.Proofs.YtfigmlfdnickmaaGreatDoor
namespace Go.Proofs.YtfigmlfdnickmaaGreatDoor.Txt
open Go
theorem b5p:∀ (k u:Nat),u<10 ^ (k+1)->(Lib.decDigits u).length<=k+1
 |0,u,h=>by rw[Lib.decDigits];simp at h;rw[dif_pos h];simp
 |k+1,u,h=>by
  rw[Lib.decDigits]
  split
  ·simp
  ·have:=b5p k (u / 10) (by rw[Nat.pow_succ] at h;omega);simp;omega
def a0x(n:Int):ByteArray:=⟨(Lib.itoa n).toArray⟩
theorem a0I(n:Int)(h0:0<=n)(h:n<=9999999):(a0x n).size<=7:=by
 rw[<- a1d];unfold a0x Lib.itoa;rw[if_neg (by omega)];have:=b5p 6 n.toNat (by omega)
 simpa using this
def pz:Nat->ByteArray->ByteArray
 |0,t=>t
 |k+1,t=>pz k (⟨#[48]⟩++t)
def b8V(n:Int)(size:Nat):ByteArray:=pz (size-(a0x n).size) (a0x n)
theorem e2f:∀ (k:Nat)(t:ByteArray),(pz k t).size=k+t.size
 |0,t=>by simp[pz]
 |k+1,t=>by
  rw[pz,e2f k];have:(⟨#[48]⟩++t:ByteArray).size=1+t.size:=ByteArray.size_append;omega
theorem d1q(n:Int)(size:Nat)(h0:0<=n)(h:n<=9999999):(b8V n size).size<=size+7:=by
 unfold b8V;rw[e2f];have:=a0I n h0 h;omega
theorem e2g:∀ (k:Nat)(t:ByteArray),(pz k t).data.toList=List.replicate k 48++t.data.toList
 |0,t=>rfl
 |k+1,t=>by
  rw[pz,e2g k,a1X];rw[show (ByteArray.mk #[48]).data.toList=[48] from rfl,<- List.append_assoc]
  congr 1
  rw[List.replicate_succ']
end Go.Proofs.YtfigmlfdnickmaaGreatDoor.Txt
namespace Go.Proofs.YtfigmlfdnickmaaGreatDoor
open Go.RowKit
theorem b8w(w:World)(k:Nat)(os:Array Obj):Below w.heap.size w (Sort.grow (w.drewN k) os) :=
 ⟨rfl,rfl,rfl,by simp[Sort.grow],fun j hj=>by simp only[Sort.grow,World.heap_drewN];rw[Array.getElem?_append_left hj]⟩
theorem c2Y(n:Int)(w:World)(he:Env w)(h0:-9223372036854775808<=n)(h1:n<=9223372036854775807):
  Calls Tryz.prog 47 #[.int .i64 n] w fun e w'=>e=.returned (.string (Txt.a0x n))/\Below w.heap.size w w':=by
 refine (Tryz.strconv_Itoa n h0 h1 w he.pow).mono ?_;rintro e w' ⟨rfl,k,os,rfl⟩;exact⟨rfl,b8w w k os⟩
end Go.Proofs.YtfigmlfdnickmaaGreatDoor
namespace Go.Proofs.YtfigmlfdnickmaaGreatDoor.Txt
open Go
def b1m(x:List (List UInt8) × List UInt8)(c:UInt8):List (List UInt8) × List UInt8:=if c=32 then ((if x.2=[] then x.1 else x.1++[x.2]),[]) else (x.1,x.2++[c])
def c4p(l:List UInt8):List (List UInt8) × List UInt8:=l.foldl b1m ([],[])
def c1V(x:List (List UInt8) × List UInt8):List (List UInt8):=if x.2=[] then x.1 else x.1++[x.2]
def b2u(l:List UInt8):List (List UInt8):=c1V (c4p l)
theorem c1t(h:a.data.toList=b.data.toList):a=b:=by
 cases a;cases b
 simp only[ByteArray.mk.injEq];exact Array.toList_inj.1 h
theorem a1l(s:ByteArray):s.data.toList.length=s.size:=by rw[Array.length_toList];rfl
theorem c4i(s:ByteArray)(k:Nat)(h:k<s.size):a0V s k=32↔s.data.toList[k]'(by rw[a1l];exact h)=32:=by
 have hl:k<s.data.toList.length:=by rw[a1l];exact h
 have e:a0V s k=((s.data.toList[k]).toNat:Int):=by
  unfold a0V;rw[List.getD_eq_getElem?_getD,List.getElem?_eq_getElem hl];rfl
 rw[e];constructor
 ·intro e1;apply UInt8.toNat_inj.1;show (s.data.toList[k]).toNat=32;omega
 ·intro k;rw[k];rfl
theorem c2G(s:ByteArray)(k:Nat)(h:k<s.size):(s.extract k (k+1)).data.toList=[s.data.toList[k]'(by rw[a1l];exact h)]:=by
 have hl:k<s.data.toList.length:=by rw[a1l];exact h
 rw[ByteArray.data_extract,Array.toList_extract,List.extract_eq_take_drop];rw[Nat.add_sub_cancel_left,List.drop_eq_getElem_cons hl];simp
theorem a4V(b:ByteArray):b.size=0↔b.data.toList=[]:=by
 rw[<- a1l];exact List.length_eq_zero_iff
theorem c0L(s:ByteArray):∀ k:Nat,k<=s.size->(s.data.toList.take k).foldl b1m ([],[])=((b7w s k).map (·.data.toList),(a8z s k).data.toList)
 |0,_=>by
  have h1:=b5J s 0;have h2:=b7k s 0;have e1:b7w s 0=[]:=List.length_eq_zero_iff.1 (by omega);have e2:(a8z s 0).data.toList=[]:=(a4V _).1 (by omega);simp[e1,e2]
 |k+1,h=>by
  have ih:=c0L s k (by omega);have hl:k<s.data.toList.length:=by rw[a1l];omega
  rw[List.take_succ_eq_append_getElem hl,List.foldl_append,ih];simp only[List.foldl_cons,List.foldl_nil];unfold b1m
  by_cases c:a0V s k=32
  ·rw[if_pos ((c4i s k (by omega)).1 c)];obtain⟨h1,h2⟩:=b3O s k (by omega) c;rw[h1,h2];refine Prod.ext ?_ rfl;show (if (a8z s k).data.toList=[] then _ else _)=_
   by_cases d:(a8z s k).size=0
   ·rw[if_pos ((a4V _).1 d),if_pos d,List.append_nil]
   ·rw[if_neg (fun e=>d ((a4V _).2 e)),if_neg d,List.map_append];rfl
  ·rw[if_neg (fun e=>c ((c4i s k (by omega)).2 e))];obtain⟨h1,h2⟩:=b7l s k c;rw[h2,<- h1,a1X,c2G s k (by omega)]
theorem b7B(s:ByteArray):(a1v s).map (·.data.toList)=b2u s.data.toList:=by
 have h:=c0L s s.size (zq _);rw[List.take_of_length_le (by rw[a1l];exact zq _)] at h;unfold b2u c4p c1V;rw[h,b2t,List.map_append]
 by_cases d:(a8z s s.size).size=0
 ·rw[if_pos d,if_pos ((a4V _).1 d)];simp
 ·rw[if_neg d,if_neg (fun e=>d ((a4V _).2 e))];simp
def a3V(w:List UInt8):Bool:=!w.isEmpty && w.all fun c=>decide (c≠32)
theorem a8C{w:List UInt8}:a3V w=true↔w≠[]/\∀ c∈w,c≠32:=by
 unfold a3V;rw[Bool.and_eq_true,List.all_eq_true];constructor
 ·rintro ⟨h1,h2⟩;exact⟨fun e=>by simp[e] at h1,fun c hc=>by simpa using h2 c hc⟩
 ·rintro ⟨h1,h2⟩;exact⟨by cases w <;> simp at h1 ⊢,fun c hc=>by simpa using h2 c hc⟩
theorem b3A{w:List UInt8}(h:∀ c∈w,c≠32):∀ x:List (List UInt8) × List UInt8,w.foldl b1m x=(x.1,x.2++w):=by
 induction w with
 |nil=>intro x;simp
 |cons c w ih =>
  intro x;rw[List.foldl_cons];have:b1m x c=(x.1,x.2++[c]):=by unfold b1m;rw[if_neg (h c (by simp))]
  rw[this,ih (fun d hd=>h d (by simp[hd]))];simp
theorem b7S(x:List (List UInt8) × List UInt8):b1m x 32=(c1V x,[]):=by
 unfold b1m c1V;rw[if_pos rfl]
end Go.Proofs.YtfigmlfdnickmaaGreatDoor.Txt
namespace Go.Proofs.YtfigmlfdnickmaaGreatDoor.Txt
open Go
end Go.Proofs.YtfigmlfdnickmaaGreatDoor.Txt
namespace Go.Proofs.YtfigmlfdnickmaaGreatDoor
open Go.RowKit
theorem a0G{x:Int}(h1:-9223372036854775808<=x)(h2:x<=9223372036854775807):IntKind.i64.wrap x=x:=by
 rw[IntKind.wrap_i64];omega
def a2s(c n:Int):Int:=(if c<0 then -(c+1) else c) % n
theorem a6G{c n:Int}(hn:1<=n):0<=a2s c n/\a2s c n<n:=⟨Int.emod_nonneg _ (by omega),Int.emod_lt_of_pos _ (by omega)⟩
open Desk (Ent St Ids kept a0C a0Q a1C a2e ofB a0y a2c Mid a1H a0z Inv)
def g2m(w:ByteArray)(lo hi:Int):Bool:=decide (lo<=b4g w 1 7/\b4g w 1 7<=hi)
def g2B(sym w:ByteArray):Bool :=
 if sym.toList==[78,65,77,69] then Txt.a1j w.data.toList else
 if sym.toList==[85,78,73,84,83] then g2m w 1 9 else
 if sym.toList==[77,73,78,85,84,69,83] then g2m w 1 1048320 else
 if sym.toList==[69,86,69,82,89] then g2m w 1 99 else
 if sym.toList==[73,68] then decide (0<=b4g w 1 7) else
 if sym.toList==[84,73,77,69] then decide (0<=g2T w) else
 if sym.toList==[68,65,84,69] then decide (0<=g2R w/\g2R w<728) else
 if sym.toList==[77,73,78,85,84,69] then decide (0<=c5N w) else
 if sym.toList==[79,78] then Txt.onB w else
 sym.toList==w.toList
theorem f9e(sym w:ByteArray)(W:World)(hs:w.size<=160):
  Calls Tryz.prog 125 #[.string sym,.string w] W fun e w'=>e=.returned (.bool (g2B sym w))/\Below W.heap.size W w':=by
 cases c0:(sym.toList==[78,65,77,69])
 case true =>
  go_enter Tryz.func125,Tryz.ntmps125
  go_wp2_with fail
  refine (b0E w 1 7 W hs (by omega) (by omega)).mono ?_;rintro e w1 ⟨rfl,hb1⟩
  go_wp2_with fail
  refine (f4Z w _ hs).mono ?_;rintro e w2 ⟨rfl,rfl⟩;go_wp2;go_ret;exact⟨a2a (by simp[g2B,c0]),hb1⟩
 cases c1:(sym.toList==[85,78,73,84,83])
 case true =>
  have HF:Hid (g2B sym w=g2m w 1 9):=by show g2B sym w=_;simp[g2B,c0,c1]
  by_cases g1:1<=b4g w 1 7
  ·by_cases g2:b4g w 1 7<=9
   ·go_enter Tryz.func125,Tryz.ntmps125
    go_wp2_with fail
    refine (b0E w 1 7 W hs (by omega) (by omega)).mono ?_;rintro e w1 ⟨rfl,hb1⟩;go_wp2;go_ret;exact⟨a2a (by rw[HF.out,g2m,decide_eq_true ⟨g1,g2⟩]),hb1⟩
   ·go_enter Tryz.func125,Tryz.ntmps125
    go_wp2_with fail
    refine (b0E w 1 7 W hs (by omega) (by omega)).mono ?_;rintro e w1 ⟨rfl,hb1⟩;go_wp2;go_ret;exact⟨a2a (by rw[HF.out,g2m,decide_eq_false (by omega)];simp;omega),hb1⟩
  ·go_enter Tryz.func125,Tryz.ntmps125
   go_wp2_with fail
   refine (b0E w 1 7 W hs (by omega) (by omega)).mono ?_;rintro e w1 ⟨rfl,hb1⟩;go_wp2;go_ret;exact⟨a2a (by rw[HF.out,g2m,decide_eq_false (by omega)]),hb1⟩
 cases c2:(sym.toList==[77,73,78,85,84,69,83])
 case true =>
  have HF:Hid (g2B sym w=g2m w 1 1048320):=by show g2B sym w=_;simp[g2B,c0,c1,c2]
  by_cases g1:1<=b4g w 1 7
  ·by_cases g2:b4g w 1 7<=1048320
   ·go_enter Tryz.func125,Tryz.ntmps125
    go_wp2_with fail
    refine (b0E w 1 7 W hs (by omega) (by omega)).mono ?_;rintro e w1 ⟨rfl,hb1⟩;go_wp2;go_ret;exact⟨a2a (by rw[HF.out,g2m,decide_eq_true ⟨g1,g2⟩]),hb1⟩
   ·go_enter Tryz.func125,Tryz.ntmps125
    go_wp2_with fail
    refine (b0E w 1 7 W hs (by omega) (by omega)).mono ?_;rintro e w1 ⟨rfl,hb1⟩;go_wp2;go_ret;exact⟨a2a (by rw[HF.out,g2m,decide_eq_false (by omega)];simp;omega),hb1⟩
  ·go_enter Tryz.func125,Tryz.ntmps125
   go_wp2_with fail
   refine (b0E w 1 7 W hs (by omega) (by omega)).mono ?_;rintro e w1 ⟨rfl,hb1⟩;go_wp2;go_ret;exact⟨a2a (by rw[HF.out,g2m,decide_eq_false (by omega)]),hb1⟩
 cases c3:(sym.toList==[69,86,69,82,89])
 case true =>
  have HF:Hid (g2B sym w=g2m w 1 99):=by show g2B sym w=_;simp[g2B,c0,c1,c2,c3]
  by_cases g1:1<=b4g w 1 7
  ·by_cases g2:b4g w 1 7<=99
   ·go_enter Tryz.func125,Tryz.ntmps125
    go_wp2_with fail
    refine (b0E w 1 7 W hs (by omega) (by omega)).mono ?_;rintro e w1 ⟨rfl,hb1⟩;go_wp2;go_ret;exact⟨a2a (by rw[HF.out,g2m,decide_eq_true ⟨g1,g2⟩]),hb1⟩
   ·go_enter Tryz.func125,Tryz.ntmps125
    go_wp2_with fail
    refine (b0E w 1 7 W hs (by omega) (by omega)).mono ?_;rintro e w1 ⟨rfl,hb1⟩;go_wp2;go_ret;exact⟨a2a (by rw[HF.out,g2m,decide_eq_false (by omega)];simp;omega),hb1⟩
  ·go_enter Tryz.func125,Tryz.ntmps125
   go_wp2_with fail
   refine (b0E w 1 7 W hs (by omega) (by omega)).mono ?_;rintro e w1 ⟨rfl,hb1⟩;go_wp2;go_ret;exact⟨a2a (by rw[HF.out,g2m,decide_eq_false (by omega)]),hb1⟩
 cases c4:(sym.toList==[73,68])
 case true =>
  go_enter Tryz.func125,Tryz.ntmps125
  go_wp2_with fail
  refine (b0E w 1 7 W hs (by omega) (by omega)).mono ?_;rintro e w1 ⟨rfl,hb1⟩;go_wp2;go_ret;exact⟨a2a (by simp[g2B,c0,c1,c2,c3,c4]),hb1⟩
 cases c5:(sym.toList==[84,73,77,69])
 case true =>
  go_enter Tryz.func125,Tryz.ntmps125
  go_wp2_with fail
  refine (b0E w 1 7 W hs (by omega) (by omega)).mono ?_;rintro e w1 ⟨rfl,hb1⟩
  go_wp2_with fail
  refine (d0T w _ hs).mono ?_;rintro e w2 ⟨rfl,hb2⟩;have hbb:=hb1.trans (hb2.mono hb1.size);go_wp2;go_ret;exact⟨a2a (by simp[g2B,c0,c1,c2,c3,c4,c5]),hbb⟩
 cases c6:(sym.toList==[68,65,84,69])
 case true =>
  have HF:Hid (g2B sym w=decide (0<=g2R w/\g2R w<728)):=by show g2B sym w=_;simp[g2B,c0,c1,c2,c3,c4,c5,c6]
  by_cases g1:0<=g2R w
  ·by_cases g2:g2R w<728
   ·go_enter Tryz.func125,Tryz.ntmps125
    go_wp2_with fail
    refine (b0E w 1 7 W hs (by omega) (by omega)).mono ?_;rintro e w1 ⟨rfl,hb1⟩
    go_wp2_with fail
    refine (d4B w _ hs).mono ?_;rintro e w2 ⟨rfl,hb2⟩;have hbb:=hb1.trans (hb2.mono hb1.size);go_wp2;go_ret;exact⟨a2a (by rw[HF.out,decide_eq_true ⟨g1,g2⟩]),hbb⟩
   ·go_enter Tryz.func125,Tryz.ntmps125
    go_wp2_with fail
    refine (b0E w 1 7 W hs (by omega) (by omega)).mono ?_;rintro e w1 ⟨rfl,hb1⟩
    go_wp2_with fail
    refine (d4B w _ hs).mono ?_;rintro e w2 ⟨rfl,hb2⟩;have hbb:=hb1.trans (hb2.mono hb1.size);go_wp2;go_ret;exact⟨a2a (by rw[HF.out,decide_eq_false (by omega)];simp;omega),hbb⟩
  ·go_enter Tryz.func125,Tryz.ntmps125
   go_wp2_with fail
   refine (b0E w 1 7 W hs (by omega) (by omega)).mono ?_;rintro e w1 ⟨rfl,hb1⟩
   go_wp2_with fail
   refine (d4B w _ hs).mono ?_;rintro e w2 ⟨rfl,hb2⟩;have hbb:=hb1.trans (hb2.mono hb1.size);go_wp2;go_ret;exact⟨a2a (by rw[HF.out,decide_eq_false (by omega)]),hbb⟩
 cases c7:(sym.toList==[77,73,78,85,84,69])
 case true =>
  go_enter Tryz.func125,Tryz.ntmps125
  go_wp2_with fail
  refine (b0E w 1 7 W hs (by omega) (by omega)).mono ?_;rintro e w1 ⟨rfl,hb1⟩
  go_wp2_with fail
  refine (c5y w _ hs).mono ?_;rintro e w2 ⟨rfl,hb2⟩;have hbb:=hb1.trans (hb2.mono hb1.size);go_wp2;go_ret;exact⟨a2a (by simp[g2B,c0,c1,c2,c3,c4,c5,c6,c7]),hbb⟩
 cases c8:(sym.toList==[79,78])
 case true =>
  go_enter Tryz.func125,Tryz.ntmps125
  go_wp2_with fail
  refine (b0E w 1 7 W hs (by omega) (by omega)).mono ?_;rintro e w1 ⟨rfl,hb1⟩
  go_wp2_with fail
  refine (g0u w _ hs).mono ?_;rintro e w2 ⟨⟨acc,rfl,_⟩,hb2⟩;have hbb:=hb1.trans (hb2.mono hb1.size);unfold a3E;go_wp2;go_ret;exact⟨a2a (by simp[g2B,c0,c1,c2,c3,c4,c5,c6,c7,c8]),hbb.alloc (Nat.le_trans hb1.size hb2.size) _⟩
 go_enter Tryz.func125,Tryz.ntmps125
 go_wp2_with fail
 refine (b0E w 1 7 W hs (by omega) (by omega)).mono ?_;rintro e w1 ⟨rfl,hb1⟩;go_wp2;go_ret;exact⟨a2a (by simp[g2B,c0,c1,c2,c3,c4,c5,c6,c7,c8]),hb1⟩
def d3a(i:Nat):ByteArray:=match i with|0=>⟨#[100,97,105,108,121,32,69,86,69,82,89]⟩|1=>⟨#[119,101,101,107,108,121,32,69,86,69,82,89,32,79,78]⟩|_=>⟨#[109,111,110,116,104,108,121,32,69,86,69,82,89]⟩
def e9S(i:Nat):ByteArray:=match i with|0=>⟨#[116,105,109,101,115,32,69,86,69,82,89]⟩|_=>⟨#[117,110,116,105,108,32,68,65,84,69]⟩
def g4G:ByteArray:=⟨#[32,102,114,111,109,32,68,65,84,69,32,97,116,32,77,73,78,85,84,69,32,102,111,114,32,77,73,78,85,84,69,83,32]⟩
def f3T(ahead:ByteArray)(i k:Nat):ByteArray:=ahead++⟨#[32]⟩++d3a i++g4G++e9S k
def d1g(ahead:ByteArray)(n:Nat):List ByteArray:=(List.range n).map fun j=>f3T ahead (j / 2) (j % 2)
theorem e6w(ahead:ByteArray)(n:Nat):d1g ahead (n+1)=d1g ahead n++[f3T ahead (n / 2) (n % 2)]:=by
 simp[d1g,List.range_succ]
theorem e4y(i:Nat):(d3a i).size<=15:=by unfold d3a;split <;> decide
theorem e9R(i:Nat):(e9S i).size<=11:=by unfold e9S;split <;> decide
theorem d4F(a b:ByteArray)(m n:Nat)(ha:a.size<=m)(hb:b.size<=n):(a++b).size<=m+n:=by
 have:(a++b).size=a.size+b.size:=ByteArray.size_append;omega
theorem e2I(a b:ByteArray)(m n:Nat)(ha:a.size<=m)(hb:b.size<=n)(h:m+n<=1000):∀ wx,(Op.stringOp .add a b).run Tryz.prog wx=.ok (.string (a++b)) wx:=by
 intro wx;apply run_string_add_sum;omega
theorem c9G{base base' size:Nat}(h:w.ownsRow base e size v n xs)(hb:base'<=base):w.ownsRow base' e size v n xs:=by
 refine⟨h.1,?_⟩;rcases h.2 with h0|⟨g,cap,cur,hv,hg,rest⟩
 ·exact .inl h0
 ·exact .inr ⟨g,cap,cur,hv,Nat.le_trans hb hg,rest⟩
theorem e3P(ahead:ByteArray)(w:World)(ha:ahead.size<=20):
  Calls Tryz.prog 185 #[.string ahead] w fun e w'=>∃ v,e=.returned v/\w'.ownsRow w.heap.size 9 1 v 6 ((d1g ahead 6).map Value.string)/\Below w.heap.size w w':=by
 obtain⟨i0,hi0,hz0,hz1,hz2⟩:=info_parts e4B
 go_enter Tryz.func185,Tryz.ntmps185
 go_wp2;obtain⟨W,hW⟩:∃ W,W=(w.alloc (.cells #[.string (d3a 0),.string (d3a 1),.string (d3a 2)] 9)).alloc (.cells #[.string (e9S 0),.string (e9S 1)] 9):=⟨_,rfl⟩;simp only[d3a,e9S] at hW;rw[<- hW];have hB:Below w.heap.size w W:=by rw[hW];exact ((zr _ _).alloc (zq _) _).alloc (by simp) _
 have hZ:w.heap.size+2=W.heap.size:=by rw[hW];simp
 have cK:∀ i,i<3->W.cell? ⟨w.heap.size,i,none⟩=some (.string (d3a i)):=fun i hi=>by
  rw[hW];rcases (show i=0\/i=1\/i=2 by omega) with rfl|rfl|rfl <;> simp[d3a]
 have cE:∀ i,i<2->W.cell? ⟨w.heap.size+1,i,none⟩=some (.string (e9S i)):=fun i hi=>by
  rw[hW];rcases (show i=0\/i=1 by omega) with rfl|rfl <;> simp[e9S]
 have CK:=hide cK;have CE:=hide cE;clear hW cK cE
 go_loopw [3,6,7] (fun v i _ wx=>∃ a:Nat,a<=3/\i=.int .i64 a/\wx.ownsRow (w.heap.size+2) 9 1 v (2*a) ((d1g ahead (2*a)).map Value.string)/\Below (w.heap.size+2) W wx) (fun _ i _ _=>3-(intOf i).toNat)
 case atStart=>exact⟨0,by omega,rfl,World.ownsRow_nil _ _ _ _,Below.refl _ _⟩
 case round =>
  obtain⟨a,hka,rfl,hown,hnx⟩:=hrel
  by_cases hlt:a<3
  ·have i1:(0:Int)<=(a:Int):=Int.natCast_nonneg _;have i2:(a:Int)<3:=by omega
   go_wp2;obtain⟨wo,hwo⟩:∃ wo:World,wo=wr:=⟨_,rfl⟩;rw[<- hwo] at hown hnx ⊢;clear hwo
   go_loopw [3,7] (fun v k wx=>∃ b:Nat,b<=2/\k=.int .i64 b/\wx.ownsRow (w.heap.size+2) 9 1 v (2*a+b) ((d1g ahead (2*a+b)).map Value.string)/\Below (w.heap.size+2) W wx) (fun _ k _=>2-(intOf k).toNat)
   case atStart=>exact⟨0,by omega,rfl,hown,hnx⟩
   case round =>
    obtain⟨b,hkb,rfl,hown2,hnx2⟩:=hrel
    by_cases hlb:b<2
    ·have kz:=e4y a;have ez:=e9R b;have c1:wr.cell? ⟨w.heap.size,a,none⟩=some (.string (d3a a)):=(hnx2.cell (p:=⟨w.heap.size,a,none⟩) (by simp)).trans (a0d CK a hlt);have c2:wr.cell? ⟨w.heap.size+1,b,none⟩=some (.string (e9S b)):=(hnx2.cell (p:=⟨w.heap.size+1,b,none⟩) (by simp)).trans (a0d CE b hlb);have i3:(0:Int)<=(b:Int):=Int.natCast_nonneg _;have i4:(b:Int)<2:=by omega
     have ne1:u3.ownBlock≠some w.heap.size:=fun e=>by have:=d0U hown2 e;omega
     have ne2:u3.ownBlock≠some (w.heap.size+1):=fun e=>by have:=d0U hown2 e;omega
     have hwz:=hnx2.size;have s1:∀ wx,(Op.stringOp .add ahead ⟨#[32]⟩).run Tryz.prog wx=.ok (.string (ahead++⟨#[32]⟩)) wx:=e2I ahead _ 20 1 ha (by decide) (by decide);have s2:∀ wx,(Op.stringOp .add (ahead++⟨#[32]⟩) (d3a a)).run Tryz.prog wx=.ok (.string (ahead++⟨#[32]⟩++d3a a)) wx:=e2I _ _ 21 15 (d4F _ _ 20 1 ha (by decide)) kz (by decide);have s3:∀ wx,(Op.stringOp .add (ahead++⟨#[32]⟩++d3a a) ⟨#[32,102,114,111,109,32,68,65,84,69,32,97,116,32,77,73,78,85,84,69,32,102,111,114,32,77,73,78,85,84,69,83,32]⟩).run Tryz.prog wx=.ok (.string (ahead++⟨#[32]⟩++d3a a++⟨#[32,102,114,111,109,32,68,65,84,69,32,97,116,32,77,73,78,85,84,69,32,102,111,114,32,77,73,78,85,84,69,83,32]⟩)) wx:=e2I _ _ 36 33 (d4F _ _ 21 15 (d4F _ _ 20 1 ha (by decide)) kz) (by decide) (by decide);have s4:∀ wx,(Op.stringOp .add (ahead++⟨#[32]⟩++d3a a++⟨#[32,102,114,111,109,32,68,65,84,69,32,97,116,32,77,73,78,85,84,69,32,102,111,114,32,77,73,78,85,84,69,83,32]⟩) (e9S b)).run Tryz.prog wx=.ok (.string (ahead++⟨#[32]⟩++d3a a++⟨#[32,102,114,111,109,32,68,65,84,69,32,97,116,32,77,73,78,85,84,69,32,102,111,114,32,77,73,78,85,84,69,83,32]⟩++e9S b)) wx:=e2I _ _ 69 11 (d4F _ _ 36 33 (d4F _ _ 21 15 (d4F _ _ 20 1 ha (by decide)) kz) (by decide)) ez (by decide)
     go_wp2_with fail
     go_region_held3 (fun w'=>w'.cell? ⟨w.heap.size,a,none⟩=some (.string (d3a a))/\w'.cell? ⟨w.heap.size+1,b,none⟩=some (.string (e9S b)))
      (first
       |go_keep
       |(
        go_split_ands
        refine⟨?_,?_⟩
        ·(rw[hgrow.cell_far _ (by simp;omega) (Ne.symm ne1)];assumption)
        ·(rw[hgrow.cell_far _ (by simp;omega) (Ne.symm ne2)];assumption)))
      ((refine step_append_lies _ (by rfl) _ _ _ (by rfl) (w.heap.size+2) 9 i0 _ 1 16 Tryz.underlying26 hi0 hz0 hz1 hz2 rfl (by omega) u3 (2*a+b) ((d1g ahead (2*a+b)).map Value.string) (by rfl) ((hown2.alloc _).drew) ⟨wr.heap.size,0,none⟩ 1 1 [.string (ahead++⟨#[32]⟩++d3a a++⟨#[32,102,114,111,109,32,68,65,84,69,32,97,116,32,77,73,78,85,84,69,32,102,111,114,32,77,73,78,85,84,69,83,32]⟩++e9S b)] (by rfl) (by rfl) (World.news_of_block (cs:=#[.string (ahead++⟨#[32]⟩++d3a a++⟨#[32,102,114,111,109,32,68,65,84,69,32,97,116,32,77,73,78,85,84,69,32,102,111,114,32,77,73,78,85,84,69,83,32]⟩++e9S b)]) (t:=9) (fr:=(0,0)) (heap_alloc_new wr _)) (by simp[Value.oneCell']) (by omega) (by unfold maxLen;omega) (by omega) (by simp;omega) (wr.heap.size+1) (by simp) ?_;intro g cap w1 hown1 hgrow hat hltg))
     have hbw:Below (w.heap.size+2) W w1:=by
      first
       |exact ((hnx2.alloc (by omega) _).drew).grown hgrow (by simp;omega) (fun k hk=>d0U hown2 hk)
       |exact (hnx2.alloc (by omega) _).grown hgrow (by simp;omega) (fun k hk=>d0U hown2 hk)
     have HO:Hid (w1.ownsRow (w.heap.size+2) 9 1 (.slice (some ⟨g,0,none⟩) (2*a+b+1) cap) (2*a+(b+1)) ((d1g ahead (2*a+(b+1))).map Value.string)):=by
      show w1.ownsRow _ _ _ _ _ _;rw[show 2*a+(b+1)=2*a+b+1 from by omega,e6w,show (2*a+b) / 2=a from by omega,show (2*a+b) % 2=b from by omega,List.map_append];exact hown1
     clear hown1;go_wp2;refine⟨?_,?_⟩
     ·first|exact⟨b+1,by omega,by go_num,HO.out,hbw⟩|((repeat apply Exists.intro);exact⟨⟨b+1,by omega,by go_num,HO.out,hbw⟩,rfl⟩)
     ·simp[intOf];omega
    ·obtain rfl:b=2:=by omega
     have HO:Hid (wr.ownsRow (w.heap.size+2) 9 1 u3 (2*(a+1)) ((d1g ahead (2*(a+1))).map Value.string)):=by
      show wr.ownsRow _ _ _ _ _ _;rw[show 2*(a+1)=2*a+2 from by omega];exact hown2
     clear hown2;go_wp2;exact⟨⟨a+1,by omega,by go_num,HO.out,hnx2⟩,by simp[intOf];omega⟩
  ·obtain rfl:a=3:=by omega
   go_wp2;go_ret;exact⟨_,rfl,c9G hown (by omega),hB.trans (hnx.mono (by omega))⟩
def f6J:List ByteArray:=[⟨#[116,104,105,110,103,32,78,65,77,69,32,85,78,73,84,83]⟩,⟨#[98,111,111,107,32,78,65,77,69,32,85,78,73,84,83,32,84,73,77,69,32,84,73,77,69]⟩,⟨#[104,111,108,100,32,78,65,77,69,32,85,78,73,84,83,32,84,73,77,69,32,84,73,77,69,32,77,73,78,85,84,69,83]⟩,⟨#[119,97,105,116,32,78,65,77,69,32,85,78,73,84,83,32,84,73,77,69,32,84,73,77,69,32,77,73,78,85,84,69,83]⟩,⟨#[99,111,110,102,105,114,109,32,73,68]⟩,⟨#[99,97,110,99,101,108,32,73,68]⟩,⟨#[108,105,115,116,32,78,65,77,69]⟩,⟨#[108,105,115,116,32,78,65,77,69,32,84,73,77,69,32,84,73,77,69]⟩,⟨#[119,97,105,116,105,110,103]⟩,⟨#[112,101,97,107,32,78,65,77,69,32,84,73,77,69,32,84,73,77,69]⟩,⟨#[102,105,110,100,32,78,65,77,69,32,85,78,73,84,83,32,77,73,78,85,84,69,83,32,84,73,77,69,32,84,73,77,69]⟩,⟨#[116,105,99,107,32,77,73,78,85,84,69,83]⟩,⟨#[99,108,111,99,107]⟩]
def g2X:ByteArray:=⟨#[115,101,114,105,101,115,32,78,65,77,69,32,85,78,73,84,83]⟩
def g3U:ByteArray:=⟨#[101,120,112,97,110,100]⟩
def d4K:List ByteArray:=f6J++d1g g2X 6++d1g g3U 6
theorem c9H{w':World}{base size:Nat}(h:w.ownsRow base e size v n xs)(hb:Below w.heap.size w w'):w'.ownsRow base e size v n xs:=by
 refine⟨h.1,?_⟩;rcases h.2 with h0|⟨g,cap,cur,hv,hg,hh,rest⟩
 ·exact .inl h0
 ·refine .inr ⟨g,cap,cur,hv,hg,?_,rest⟩
  have:g<w.heap.size:=by
   by_cases hl:g<w.heap.size
   ·exact hl
   ·rw[Array.getElem?_eq_none (by omega)] at hh;cases hh
  rw[hb.block g this];exact hh
theorem d8s{base:Nat}(h:w.ownsRow base e 1 v n xs)(hn:0<n):∃ g cap,v=.slice (some ⟨g,0,none⟩) n cap/\base<=g/\g<w.heap.size/\∀ j u,xs[j]?=some u->w.cell? (Addr.add ⟨g,0,none⟩ j)=some u:=by
 rcases h.2 with ⟨_,h0⟩|⟨g,cap,cur,hv,hg,hh,hc,_,hs,ht⟩
 ·omega
 ·have hl:g<w.heap.size:=by
   by_cases hl:g<w.heap.size
   ·exact hl
   ·rw[Array.getElem?_eq_none (by omega)] at hh;cases hh
  refine⟨g,cap,hv,hg,hl,fun j u hj=>?_⟩
  have ha:Addr.add ⟨g,0,none⟩ j=⟨g,j,none⟩:=by
   unfold Addr.add;split
   ·subst_vars;rfl
   ·simp
  have hjn:j<n:=by
   have h1:=h.1;have:=(List.getElem?_eq_some_iff.1 hj).1;omega
  have hcur:cur[j]?=some u:=by
   rw[<- ht,List.getElem?_take,if_pos (by omega)] at hj
   simpa using hj
  rw[ha];simp[World.cell?,hh,hcur]
theorem e4e(w:World):
  Calls Tryz.prog 124 #[] w fun e w'=>∃ v,e=.returned v/\w'.ownsRow w.heap.size 9 1 v 25 (d4K.map Value.string)/\Below w.heap.size w w':=by
 obtain⟨i0,hi,hz0,hz1,hz2⟩:=info_parts e4B
 go_enter Tryz.func124,Tryz.ntmps124
 go_wp2_with fail
 obtain⟨W,hW⟩:∃ W,W=w.alloc (.cells #[.string ⟨#[116,104,105,110,103,32,78,65,77,69,32,85,78,73,84,83]⟩,.string ⟨#[98,111,111,107,32,78,65,77,69,32,85,78,73,84,83,32,84,73,77,69,32,84,73,77,69]⟩,.string ⟨#[104,111,108,100,32,78,65,77,69,32,85,78,73,84,83,32,84,73,77,69,32,84,73,77,69,32,77,73,78,85,84,69,83]⟩,.string ⟨#[119,97,105,116,32,78,65,77,69,32,85,78,73,84,83,32,84,73,77,69,32,84,73,77,69,32,77,73,78,85,84,69,83]⟩,.string ⟨#[99,111,110,102,105,114,109,32,73,68]⟩,.string ⟨#[99,97,110,99,101,108,32,73,68]⟩,.string ⟨#[108,105,115,116,32,78,65,77,69]⟩,.string ⟨#[108,105,115,116,32,78,65,77,69,32,84,73,77,69,32,84,73,77,69]⟩,.string ⟨#[119,97,105,116,105,110,103]⟩,.string ⟨#[112,101,97,107,32,78,65,77,69,32,84,73,77,69,32,84,73,77,69]⟩,.string ⟨#[102,105,110,100,32,78,65,77,69,32,85,78,73,84,83,32,77,73,78,85,84,69,83,32,84,73,77,69,32,84,73,77,69]⟩,.string ⟨#[116,105,99,107,32,77,73,78,85,84,69,83]⟩,.string ⟨#[99,108,111,99,107]⟩] 9):=⟨_,rfl⟩;rw[<- hW];have hB:Below w.heap.size w W:=by rw[hW];exact (zr _ _).alloc (zq _) _
 have hown:W.ownsRow w.heap.size 9 1 (.slice (some ⟨w.heap.size,0,none⟩) 13 13) 13 (f6J.map Value.string):=by
  refine⟨rfl,.inr ⟨w.heap.size,13,#[.string ⟨#[116,104,105,110,103,32,78,65,77,69,32,85,78,73,84,83]⟩,.string ⟨#[98,111,111,107,32,78,65,77,69,32,85,78,73,84,83,32,84,73,77,69,32,84,73,77,69]⟩,.string ⟨#[104,111,108,100,32,78,65,77,69,32,85,78,73,84,83,32,84,73,77,69,32,84,73,77,69,32,77,73,78,85,84,69,83]⟩,.string ⟨#[119,97,105,116,32,78,65,77,69,32,85,78,73,84,83,32,84,73,77,69,32,84,73,77,69,32,77,73,78,85,84,69,83]⟩,.string ⟨#[99,111,110,102,105,114,109,32,73,68]⟩,.string ⟨#[99,97,110,99,101,108,32,73,68]⟩,.string ⟨#[108,105,115,116,32,78,65,77,69]⟩,.string ⟨#[108,105,115,116,32,78,65,77,69,32,84,73,77,69,32,84,73,77,69]⟩,.string ⟨#[119,97,105,116,105,110,103]⟩,.string ⟨#[112,101,97,107,32,78,65,77,69,32,84,73,77,69,32,84,73,77,69]⟩,.string ⟨#[102,105,110,100,32,78,65,77,69,32,85,78,73,84,83,32,77,73,78,85,84,69,83,32,84,73,77,69,32,84,73,77,69]⟩,.string ⟨#[116,105,99,107,32,77,73,78,85,84,69,83]⟩,.string ⟨#[99,108,111,99,107]⟩],rfl,Nat.le_refl _,?_,Nat.le_refl _,by decide,rfl,rfl⟩⟩;rw[hW];exact heap_alloc_new w _
 clear hW;refine (e3P _ W (by decide)).mono ?_;rintro e w1 ⟨v1,rfl,o1,b1⟩;obtain⟨g1,cap1,rfl,hg1,hl1,hc1⟩:=d8s o1 (by omega);have hown1:=c9H hown b1;have hB1:=hB.trans (b1.mono hB.size);have hS1:=hB1.size;clear o1 hown hB
 go_wp2_with (first
  |(at_builtin;refine wpList_append_own _ rfl _ _ 26 rfl w.heap.size 9 i0 (.string ⟨#[]⟩) 1 16 Tryz.underlying26 hi hz0 hz1 hz2 rfl (by decide) _ 13 (f6J.map Value.string) rfl hown1 ⟨g1,0,none⟩ 6 cap1 ((d1g g2X 6).map Value.string) rfl rfl ?c1 ?c2 ?c3 ?c4 ?c5 ?_))
 case c1=>exact hc1
 case c2=>intro u hu;simp only[List.mem_map] at hu;obtain⟨x,_,rfl⟩:=hu;rfl
 case c3=>decide
 case c4=>decide
 case c5=>exact hS1
 intro v2 w2 hown2 hgrow2 _;have hB2:Below w.heap.size w w2:=hB1.grown hgrow2 hS1 (fun k hk=>d0U hown1 hk);have hS2:=hB2.size;clear hgrow2 hown1
 go_wp2_with fail
 refine (e3P _ w2 (by decide)).mono ?_;rintro e w3 ⟨v3,rfl,o3,b3⟩;obtain⟨g3,cap3,rfl,hg3,hl3,hc3⟩:=d8s o3 (by omega);have hown3:=c9H hown2 b3;have hB3:=hB2.trans (b3.mono hS2);have hS3:=hB3.size;clear o3 hown2
 go_wp2_with (first
  |(at_builtin;refine wpList_append_own _ rfl _ _ 26 rfl w.heap.size 9 i0 (.string ⟨#[]⟩) 1 16 Tryz.underlying26 hi hz0 hz1 hz2 rfl (by decide) v2 (13+6) (f6J.map Value.string++(d1g g2X 6).map Value.string) rfl hown3 ⟨g3,0,none⟩ 6 cap3 ((d1g g3U 6).map Value.string) rfl rfl ?c1 ?c2 ?c3 ?c4 ?c5 ?_))
 case c1=>exact hc3
 case c2=>intro u hu;simp only[List.mem_map] at hu;obtain⟨x,_,rfl⟩:=hu;rfl
 case c3=>decide
 case c4=>decide
 case c5=>exact hS3
 intro v4 w4 hown4 hgrow4 _;have hB4:Below w.heap.size w w4:=hB3.grown hgrow4 hS3 (fun k hk=>d0U hown3 hk)
 have HO:Hid (w4.ownsRow w.heap.size 9 1 v4 25 (d4K.map Value.string)):=by
  show w4.ownsRow _ _ _ _ _ _;rw[d4K,List.map_append,List.map_append];exact hown4
 clear hown4 hgrow4;go_wp2;go_ret;exact⟨v4,rfl,HO.out,hB4⟩
def pre:List ByteArray->List ByteArray->Nat
 |s :: p,w :: ws=>if g2B s w then pre p ws+1 else 0
 |_,_=>0
theorem d8p:∀ (p ws:List ByteArray),pre p ws<=p.length/\pre p ws<=ws.length
 |[],_=>by simp[pre]
 |_ :: _,[]=>by simp[pre]
 |s :: p,w :: ws=>by
  unfold pre;have:=d8p p ws
  split <;> simp <;> omega
theorem e1z:∀ (p ws:List ByteArray)(n:Nat)(h1:n<p.length)(h2:n<ws.length),n<pre p ws->g2B p[n] ws[n]=true
 |[],_,_,h1,_,_=>by simp at h1
 |_ :: _,[],_,_,h2,_=>by simp at h2
 |s :: p,w :: ws,0,_,_,h=>by
  unfold pre at h
  split at h
  ·assumption
  ·omega
 |s :: p,w :: ws,n+1,h1,h2,h=>by
  unfold pre at h
  split at h
  ·exact e1z p ws n (by simpa using h1) (by simpa using h2) (by omega)
  ·omega
theorem e8Y:∀ (p ws:List ByteArray)(n:Nat)(h1:n<p.length)(h2:n<ws.length),n=pre p ws->g2B p[n] ws[n]=false
 |[],_,_,h1,_,_=>by simp at h1
 |_ :: _,[],_,_,h2,_=>by simp at h2
 |s :: p,w :: ws,0,_,_,h=>by
  unfold pre at h
  cases hf:g2B s w
  ·exact hf
  ·rw[if_pos hf] at h;omega
 |s :: p,w :: ws,n+1,h1,h2,h=>by
  unfold pre at h
  split at h
  ·exact e8Y p ws n (by simpa using h1) (by simpa using h2) (by omega)
  ·omega
theorem f8u(h1:n<p.length)(h2:n<ws.length)(hn:n<=pre p ws)(hf:g2B p[n] ws[n]=true):n+1<=pre p ws:=by
 by_cases e:n=pre p ws
 ·have:=e8Y p ws n h1 h2 e;rw[hf] at this;cases this
 ·omega
theorem f8v(h1:n<p.length)(h2:n<ws.length)(hn:n<=pre p ws)(hf:g2B p[n] ws[n]=false):n=pre p ws:=by
 by_cases e:n=pre p ws
 ·exact e
 ·have:=e1z p ws n h1 h2 (by omega);rw[hf] at this;cases this
def scan:List (List ByteArray)->List ByteArray->Nat->Option (List ByteArray) × Nat
 |[],_,m=>(none,m)
 |p :: ps,ws,m=>if pre p ws=p.length/\pre p ws=ws.length then (some p,0) else scan ps ws (if m<pre p ws then pre p ws else m)
def g2n:List (List ByteArray):=d4K.map Txt.a1v
theorem f4m:g2n.length=25:=by simp[g2n,d4K,f6J,d1g]
def g0V(s:ByteArray):Option (List ByteArray) × Nat:=scan g2n (Txt.a1v s) 0
theorem e0i:∀ x∈d4K,x.size<=160:=by
 intro x hx
 have key:∀ a k,(f3T g2X a k).size<=160/\(f3T g3U a k).size<=160:=fun a k=>by
  have h1:=e4y a;have h2:=e9R k;have hm:g4G.size=33:=by decide
  have e1:g2X.size=17:=by decide
  have e2:g3U.size=6:=by decide
  have e3:(⟨#[32]⟩:ByteArray).size=1:=by decide
  unfold f3T;simp only[ByteArray.size_append];omega
 unfold d4K d1g at hx;simp only[List.mem_append,List.mem_map] at hx;rcases hx with (hx|⟨j,_,rfl⟩)|⟨j,_,rfl⟩
 ·revert x;decide
 ·exact (key _ _).1
 ·exact (key _ _).2
theorem d7Q(s:ByteArray):(Txt.a1v s).length<=s.size+1:=by
 rw[Txt.b2t,List.length_append];have:=Txt.b5J s s.size
 split <;> simp <;> omega
structure Row(w:World)(a:Option Addr)(g:Nat)(xs:List ByteArray):Prop where
 at_:0<xs.length->a=some ⟨g,0,none⟩
 cells:∀ (j:Nat) (h:j<xs.length),w.cell? ⟨g,j,none⟩=some (.string xs[j])
theorem Row.later{wx:World}{a:Option Addr}{g:Nat}{xs:List ByteArray}(h:Row w a g xs)(hb:Below w.heap.size w wx):Row wx a g xs :=
 ⟨h.at_,fun j hj=>cell_later hb (h.cells j hj)⟩
theorem e0O{base:Nat}{xs:List ByteArray}(h:w.ownsRow base 9 1 v n (xs.map Value.string))(hn:n=xs.length):∃ a cap g,v=.slice a xs.length cap/\Row w a g xs:=by
 subst hn
 by_cases h0:0<xs.length
 ·obtain⟨g,cap,hv,_,_,hc⟩:=d8s h h0;refine⟨some ⟨g,0,none⟩,cap,g,hv,fun _=>rfl,fun j hj=>?_⟩;have:=hc j (.string xs[j]) (by simp[hj])
  have ha:Addr.add ⟨g,0,none⟩ j=⟨g,j,none⟩:=by
   unfold Addr.add;split
   ·subst_vars;rfl
   ·simp
  rwa [ha] at this
 ·rcases h.2 with ⟨hv,h1⟩|⟨g,cap,cur,hv,_⟩
  ·exact⟨none,0,0,by rw[hv,h1],fun h=>absurd h h0,fun j hj=>absurd hj (by omega)⟩
  ·exact⟨_,cap,g,hv,fun h=>absurd h h0,fun j hj=>absurd hj (by omega)⟩
def boN:Value->Nat
 |.bool true=>1
 |_=>0
theorem f3S{s:ByteArray}{q:List ByteArray}(hk:k<d4K.length)(hq:q=Txt.a1v d4K[k])(h:g0V s=scan (g2n.drop k) (Txt.a1v s) mm):
  g0V s=if pre q (Txt.a1v s)=q.length/\pre q (Txt.a1v s)=(Txt.a1v s).length then (some q,0) else scan (g2n.drop (k+1)) (Txt.a1v s) (if mm<pre q (Txt.a1v s) then pre q (Txt.a1v s) else mm):=by
 have hl:k<g2n.length:=by unfold g2n;simpa using hk
 rw[h,List.drop_eq_getElem_cons hl];have e:g2n[k]=q:=by rw[hq];exact List.getElem_map ..
 rw[e,scan]
theorem f8m{s:ByteArray}(hk:25<=k)(h:g0V s=scan (g2n.drop k) (Txt.a1v s) mm):g0V s=(none,mm):=by
 rw[h,List.drop_of_length_le (by rw[f4m];exact hk)];rfl
def RR(s:ByteArray)(w':World)(e:Ending):Prop :=
 (∃ (p:List ByteArray) (a b:Option Addr) (c d g h:Nat),g0V s=(some p,0)/\e=.returned (.tuple #[.slice a (Txt.a1v s).length c,.slice b p.length d,.int .i64 0,.int .i64 0])/\Row w' a g (Txt.a1v s)/\Row w' b h p) \/
 (∃ m:Nat,g0V s=(none,m)/\e=.returned (.tuple #[.slice none 0 0,.slice none 0 0,.int .i64 2,.int .i64 m]))
theorem d4Z(s:ByteArray)(w:World)(hs:s.size<=160):
  Calls Tryz.prog 78 #[.string s] w fun e w'=>RR s w' e/\Below w.heap.size w w':=by
 have hwl:=d7Q s;have hs2:(s.size:Int)<=160:=by omega
 go_enter Tryz.func78,Tryz.ntmps78
 go_wp2_with fail
 refine (e3b s w hs).mono ?_;rintro e w1 ⟨v1,rfl,o1,b1⟩;obtain⟨aw,cw,gw,rfl,rw1⟩:=e0O o1 rfl
 go_wp2_with fail
 refine (e4e w1).mono ?_;rintro e w2 ⟨v2,rfl,o2,b2⟩;obtain⟨ap,cp,gp,rfl,rp2⟩:=e0O o2 (by decide);have rw2:=rw1.later b2;have hB2:=b1.trans (b2.mono b1.size);clear o1 o2 rw1 b1 b2;obtain rfl:=rp2.at_ (by decide);rw[show d4K.length=25 from by decide];go_wp2
 go_loopw [8,9,10,11,12] (fun m i _ _ _ wx=>∃ k mm:Nat,k<=25/\mm<=161/\i=.int .i64 k/\m=.int .i64 mm/\g0V s=scan (g2n.drop k) (Txt.a1v s) mm/\Row wx aw gw (Txt.a1v s)/\Row wx (some ⟨gp,0,none⟩) gp d4K/\Below w.heap.size w wx) (fun _ i _ _ _ _=>25-(intOf i).toNat)
 case atStart=>exact⟨0,0,by omega,by omega,rfl,rfl,rfl,rw2,rp2,hB2⟩
 case round =>
  obtain⟨k,mm,hk,hmm,rfl,rfl,hsc,rw,rp,hnx⟩:=hrel;have HSC:=hide hsc;clear hsc rw2 rp2 hB2
  by_cases hlt:k<25
  ·have hi:(k:Int)<25:=by omega
   have hpl:k<d4K.length:=by rw[show d4K.length=25 from by decide];exact hlt
   have hc:=rp.cells k hpl
   go_wp2_with fail
   refine (e3b _ _ (e0i _ (zg hpl))).mono ?_;rintro e w3 ⟨v3,rfl,o3,b3⟩;obtain⟨ax,cx,gx,rfl,rx⟩:=e0O o3 rfl;have rw3:=rw.later b3;have rp3:=rp.later b3;have hnx3:=hnx.trans (b3.mono hnx.size);obtain⟨q,hq⟩:∃ q,q=Txt.a1v d4K[k]:=⟨_,rfl⟩;rw[<- hq] at rx ⊢;have HQ:=hide hq;have hql:q.length<=161:=by rw[hq];have:=d7Q d4K[k];have:=e0i _ (zg hpl);omega
   clear hq o3 rw rp hnx b3 hc;go_wp2
   go_loopw [11,12] (fun n mo wx=>∃ (n':Nat) (mo':Bool),n=.int .i64 n'/\mo=.bool mo'/\n'<=pre q (Txt.a1v s)/\(mo'=false->n'=pre q (Txt.a1v s))/\Row wx aw gw (Txt.a1v s)/\Row wx (some ⟨gp,0,none⟩) gp d4K/\Row wx ax gx q/\Below w.heap.size w wx) (fun n mo _=>boN mo+(q.length-(intOf n).toNat))
   case atStart=>exact⟨0,true,rfl,rfl,Nat.zero_le _,fun h=>absurd h (by decide),rw3,rp3,rx,hnx3⟩
   case round =>
    obtain⟨n',mo',rfl,rfl,hn,hmo,rwr,rpr,rxr,hbx⟩:=hrel;have hpl2:=d8p q (Txt.a1v s)
    have hcase:(mo'=true/\n'<q.length/\n'<(Txt.a1v s).length)\/mo'=false\/(mo'=true/\¬ n'<q.length)\/(mo'=true/\n'<q.length/\¬ n'<(Txt.a1v s).length):=by
     cases mo'
     ·simp
     ·simp;omega
    have HMO:=hide hmo;clear hmo rw3 rp3 rx hnx3;rcases hcase with ⟨rfl,h1,h2⟩|hex
    ·obtain rfl:=rxr.at_ (by omega);obtain rfl:=rwr.at_ (by omega);have c1:=rxr.cells n' h1;have c2:=rwr.cells n' h2;have j1:(n':Int)<(q.length:Int):=by omega
     have j2:(n':Int)<((Txt.a1v s).length:Int):=by omega
     have j0:(0:Int)<=(n':Int):=Int.natCast_nonneg _;have hsm:(Txt.a1v s)[n'].size<=160:=Nat.le_trans (b4i s _ (zg h2)) hs;have HSM:=hide hsm;clear hsm
     go_wp2_with fail
     go_region_held3 (fun w'=>w'.cell? ⟨gx,n',none⟩=some (.string q[n'])/\w'.cell? ⟨gw,n',none⟩=some (.string (Txt.a1v s)[n']))
      (first
       |go_keep
       |(
        go_split_ands
        refine⟨?_,?_⟩
        ·exact cell_later hbf (by assumption)
        ·exact cell_later hbf (by assumption)))
      ((go_at_call 125;refine (f9e _ _ _ (a0d HSM)).mono ?_;rintro e w4 ⟨rfl,hbf⟩))
     have hbf':Below wr.heap.size wr w4:=⟨hbf.os,hbf.tape,hbf.output,hbf.size,hbf.block⟩;have hbx4:=hbx.trans (hbf'.mono hbx.size);have rw4:=rwr.later hbf';have rp4:=rpr.later hbf';have rx4:=rxr.later hbf'
     cases hf:g2B q[n'] (Txt.a1v s)[n']
     ·have HP:=hide (f8v h1 h2 hn hf);go_wp2;exact⟨⟨n',false,rfl,rfl,hn,fun _=>a0d HP,rw4,rp4,rx4,hbx4⟩,by simp[boN,intOf]⟩
     ·have HP:=hide (f8u h1 h2 hn hf);go_wp2;exact⟨⟨n'+1,true,by go_num,rfl,a0d HP,fun h=>absurd h (by decide),rw4,rp4,rx4,hbx4⟩,by simp[boN,intOf];omega⟩
    ·have hpn:n'=pre q (Txt.a1v s):=by
      rcases hex with h|⟨_,h⟩|⟨_,_,h⟩
      ·exact a0d HMO h
      ·omega
      ·omega
     have HST:=hide (f3S hpl (a0d HQ) (a0d HSC));rw[<- hpn] at HST;clear hpn
     by_cases hfull:n'=q.length/\n'=(Txt.a1v s).length
     ·obtain⟨f1,f2⟩:=hfull;have HR:Hid (g0V s=(some q,0)):=(a0d HST).trans (if_pos ⟨f1,f2⟩);have g1:((n':Int)==(q.length:Int))=true:=beq_iff_eq.2 (by omega);have g2:((n':Int)==((Txt.a1v s).length:Int))=true:=beq_iff_eq.2 (by omega);have F1:=hide f1;have F2:=hide f2;clear f1 f2;rcases hex with rfl|⟨rfl,hx⟩|⟨rfl,hx,hy⟩
      all_goals
       go_wp2
       (try simp only[Exit.inBlock,Exit.then]);refine bodyPost_ret (b2R rfl _ _ _) rfl ?_
       exact⟨.inl ⟨q,aw,ax,cw,cx,gw,gx,HR.out,rfl,rwr,rxr⟩,hbx⟩
     ·have HR:Hid (g0V s=scan (g2n.drop (k+1)) (Txt.a1v s) (if mm<n' then n' else mm)):=(a0d HST).trans (if_neg hfull)
      have hg:((n':Int)==(q.length:Int))=false\/(((n':Int)==(q.length:Int))=true/\((n':Int)==((Txt.a1v s).length:Int))=false):=by
       by_cases e:n'=q.length
       ·right;exact⟨beq_iff_eq.2 (by omega),beq_eq_false_iff_ne.2 (by omega)⟩
       ·left;exact beq_eq_false_iff_ne.2 (by omega)
      clear hfull;have hmx:mm<n'\/¬ mm<n':=by omega
      rcases hex with rfl|⟨rfl,hx⟩|⟨rfl,hx,hy⟩
      all_goals rcases hg with g1|⟨g1,g2⟩
      all_goals rcases hmx with hm|hm
      all_goals
       go_wp2
       first
        |exact⟨⟨k+1,n',by omega,by omega,by go_num,rfl,HR.out.trans (by rw[if_pos hm]),rwr,rpr,hbx⟩,by simp[intOf];omega⟩
        |exact⟨⟨k+1,mm,by omega,by omega,by go_num,rfl,HR.out.trans (by rw[if_neg hm]),rwr,rpr,hbx⟩,by simp[intOf];omega⟩
  ·have HE:=hide (f8m (by omega) (a0d HSC));go_wp2
   (try simp only[Exit.inBlock,Exit.then]);refine bodyPost_ret (b2R rfl _ _ _) rfl ?_
   exact⟨.inr ⟨mm,a0d HE,rfl⟩,hnx⟩
theorem f2O(h:a=b):Ending.returned (.string a)=.returned (.string b):=by rw[h]
def g2O:Value->Nat
 |.string s=>s.size
 |_=>0
theorem f2P(j:Nat)(t:ByteArray):(⟨#[48]⟩:ByteArray)++Txt.pz j t=Txt.pz (j+1) t:=by
 apply Txt.a7x;rw[Txt.a1X,Txt.e2g,Txt.e2g,List.replicate_succ];rfl
theorem g2o(n:Int)(size:Nat)(w:World)(he:Env w)(h0:0<=n)(h1:n<=9999999)(hs:size<=9):
  Calls Tryz.prog 128 #[.int .i64 n,.int .i64 size] w fun e w'=>e=.returned (.string (Txt.b8V n size))/\Below w.heap.size w w':=by
 have hz:=Txt.a0I n h0 h1;have HE:=hide he;clear he
 go_enter Tryz.func128,Tryz.ntmps128
 go_wp2_with fail
 refine (c2Y n w (a0d HE) (by omega) (by omega)).mono ?_;rintro e w1 ⟨rfl,hb1⟩;go_wp2
 go_loop [5] (fun t=>∃ j:Nat,j<=size-(Txt.a0x n).size/\t=.string (Txt.pz j (Txt.a0x n))) (fun t=>size-g2O t)
 case atStart=>exact⟨0,Nat.zero_le _,rfl⟩
 case round =>
  obtain⟨j,hj,rfl⟩:=hrel;have pzz:=Txt.e2f j (Txt.a0x n);have HZ:=hide pzz;have pb:(Txt.pz j (Txt.a0x n)).size<=20:=by omega
  clear pzz
  by_cases hlt:(Txt.pz j (Txt.a0x n)).size<size
  ·have hlt':((Txt.pz j (Txt.a0x n)).size:Int)<(size:Int):=by omega
   have HN:=hide (f2P j (Txt.a0x n));have HZ2:Hid (((⟨#[48]⟩:ByteArray)++Txt.pz j (Txt.a0x n)).size=1+(Txt.pz j (Txt.a0x n)).size):=ByteArray.size_append;go_wp2
   go_round
   case rel=>exact⟨j+1,by have:=a0d HZ;omega,by rw[a0d HN]⟩
   case measure =>
    have q:=a0d HZ2;show size-((⟨#[48]⟩:ByteArray)++Txt.pz j (Txt.a0x n)).size<size-(Txt.pz j (Txt.a0x n)).size;omega
  ·have hlt':¬ ((Txt.pz j (Txt.a0x n)).size:Int)<(size:Int):=by omega
   have HJ:Hid (Txt.b8V n size=Txt.pz j (Txt.a0x n)):=by
    show Txt.b8V n size=_;unfold Txt.b8V;rw[show size-(Txt.a0x n).size=j from by have:=a0d HZ;omega]
   go_wp2;go_ret;exact⟨f2O (by rw[HJ.out]),hb1⟩
def f4t(y m d:Int):ByteArray:=Txt.b8V y 4++⟨#[45]⟩++Txt.b8V m 2++⟨#[45]⟩++Txt.b8V d 2
def d8f(n:Int):ByteArray:=Txt.b8V (n / 60) 2++⟨#[58]⟩++Txt.b8V (n % 60) 2
def d0L(n:Int):ByteArray:=f4t (Cal.yT n) (Cal.mT n) (Cal.dT n)
def c8H(t:Int):ByteArray:=d0L (t / 1440)++⟨#[47]⟩++d8f (t % 1440)
theorem f6R(a b c:ByteArray):a++b++c=a++(b++c):=by
 apply Txt.a7x;simp only[Txt.a1X,List.append_assoc]
theorem f1E(y m d:Int)(h:Cal.ok y m d=true):(f4t y m d).size<=40:=by
 obtain⟨y1,y2,m1,m2,d1,d2⟩:=(Cal.a2K y m d).1 h;have db:=Cal.b3I y m;have z1:=Txt.d1q y 4 (by omega) (by omega);have z2:=Txt.d1q m 2 (by omega) (by omega);have z3:=Txt.d1q d 2 (by omega) (by omega);have e3:(⟨#[45]⟩:ByteArray).size=1:=by decide
 unfold f4t;simp only[ByteArray.size_append];omega
theorem f3v(n:Int)(h0:0<=n)(h1:n<1440):(d8f n).size<=19:=by
 have z1:=Txt.d1q (n / 60) 2 (by omega) (by omega);have z2:=Txt.d1q (n % 60) 2 (by omega) (by omega);have e3:(⟨#[58]⟩:ByteArray).size=1:=by decide
 unfold d8f;simp only[ByteArray.size_append];omega
theorem f1D(n:Int)(h0:-738885<=n)(h1:n<=2913173):(d0L n).size<=40:=f1E _ _ _ (Cal.c6G n h0 h1).1
def e0s(k:Nat):ByteArray:=⟨(a3C k).toArray⟩
def d5A(acc:List Int):Nat->ByteArray
 |0=>⟨#[]⟩
 |k+1=>if isd acc k then d5A acc k++⟨#[44]⟩++e0s k else d5A acc k
def onT(acc:List Int):ByteArray:=(d5A acc 7).extract 1 (d5A acc 7).size
theorem e4d(k:Nat):(e0s k).size=2:=by
 unfold e0s a3C;split <;> rfl
theorem e0W(acc:List Int):∀ k:Nat,(d5A acc k).size<=3*k
 |0=>zq _
 |k+1=>by
  have ih:=e0W acc k;have n:=e4d k;have e3:(⟨#[44]⟩:ByteArray).size=1:=by decide
  unfold d5A
  split
  ·simp only[ByteArray.size_append];omega
  ·omega
theorem e0V(acc:List Int)(d:Nat)(h:isd acc d=true):∀ k:Nat,d<k->1<=(d5A acc k).size
 |0,hk=>by omega
 |k+1,hk=>by
  have n:=e4d k;unfold d5A
  by_cases e:d=k
  ·subst e;rw[if_pos h];simp only[ByteArray.size_append];omega
  ·have:=e0V acc d h k (by omega)
   split
   ·simp only[ByteArray.size_append];omega
   ·exact this
theorem f0z{d:Int}{r:List Int}(h:Txt.a4D acc d=some r)(hd:d<=6):∃ x:Nat,x<7/\isd r x=true:=by
 unfold Txt.a4D at h
 split at h
 ·rename_i hc
  cases h
  exact⟨d.toNat,by omega,by simp[isd,show ((d.toNat:Nat):Int)=d from by omega]⟩
 ·cases h
theorem e8a:∀ (l:List UInt8)(acc r:List Int),Txt.onC l acc=some r->∃ x:Nat,x<7/\isd r x=true
 |[],_,_,h=>by simp[Txt.onC] at h
 |[_],_,_,h=>by simp[Txt.onC] at h
 |[a,b],acc,r,h=>f0z (acc:=acc) (d:=Txt.wdL [a,b]) h (Txt.c3Q [a,b]).2
 |a :: b :: c :: l,acc,r,h=>by
  unfold Txt.onC at h
  split at h
  ·simp only[Option.bind_eq_some_iff] at h;obtain⟨x,_,h⟩:=h;exact e8a l x r h
  ·cases h
theorem g1e{s:ByteArray}(h:Txt.onW s=some acc):1<=(d5A acc 7).size:=by
 obtain⟨x,hx,hi⟩:=e8a _ _ _ h;exact e0V acc x hi 7 hx
end Go.Proofs.YtfigmlfdnickmaaGreatDoor
