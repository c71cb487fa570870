import Derived.Test.YtfigmlfdnickmaaGreatDoorL19
import Derived.Test.YtfigmlfdnickmaaGreatDoorRows
import Derived.Test.YtfigmlfdnickmaaGreatDoorCards
import Derived.Test.YtfigmlfdnickmaaGreatDoorTie
import Derived.WalkKit
import Derived.ProofKit
import Derived.Deep.DeepWitnessRowRef
import Derived.LaidLaws
import Derived.OpenShut
import Derived.Deep.Slices
import Derived.Deep.DeepHandedRow
import Derived.Lib.LaidTab
import Derived.Lib.LaidU8
import Derived.Shelf.Vars
set_option maxRecDepth 100000
set_option maxHeartbeats 8000000
variable{b:Bool}{k s w:ByteArray}{fr mi mn pc ti un:Int}{ps:List (List ByteArray)}{E H K Q R q ws:List ByteArray}{acc:List Int}{G:List Nat}{B g m n:Nat}{s' st:Nat × Bool}{v:Go.Value}{W:Go.World}
namespace Go.Proofs.YtfigmlfdnickmaaGreatDoor
open Go.RowKit
theorem f4T(h:Txt.isNum w.data.toList=true):b4g w 1 7=nvF w:=by rw[d5I,if_pos h];rfl
theorem d9V{lo hi:Int}(h:a0K w lo hi=true):Txt.isNum w.data.toList=true/\lo<=nvF w/\nvF w<=hi:=by
 unfold a0K at h;simp only[Bool.and_eq_true,decide_eq_true_eq] at h;exact⟨h.1.1,h.1.2,h.2⟩
theorem g3f(h:nmB w=true):b4S w=w:=if_pos h
open Desk (Ent St Ids kept a0C a0Q a1C a2e ofB a0y a2c Mid a1H a0z Inv a0h a2x a1q Rep)
theorem f2r(w:World)(he:Env w):Calls Tryz.prog 44 #[] w fun e w'=>∃ p d col,e=.returned (.pointer (some ⟨p,0,none⟩))/\BD w' p d st0 c2z col/\Below w.heap.size w w'/\(∀ b,b<w.heap.size->col b=none)/\w.heap.size<=p:=by
 have DN:=a0b (b5o w);have HE:=a0b he;have hsz:=he.size;clear he
 go_enter Tryz.func44,Tryz.ntmps44
 go_wp2_with (first
  |(go_at_call 60;refine DN.out.mono ?_;rintro e w1 ⟨v,rfl,rfl,hd,hb⟩))
 have HF:Hid (BD (w1.alloc (.cells #[.pointer (some ⟨w.heap.size+2,0,none⟩)] 99)) w1.heap.size (w.heap.size+2) st0 c2z (c1O w.heap.size)/\Below w.heap.size w (w1.alloc (.cells #[.pointer (some ⟨w.heap.size+2,0,none⟩)] 99))/\(∀ b,b<w.heap.size->c1O w.heap.size b=none)/\w.heap.size<=w1.heap.size):=by
  have k:Below w1.heap.size w1 (w1.alloc (.cells #[.pointer (some ⟨w.heap.size+2,0,none⟩)] 99)):=(zr _ _).alloc (zq _) _;have hlow:∀ b,b<w.heap.size->c1O w.heap.size b=none:=fun b hb'=>by unfold c1O;rw[if_neg (by omega),if_neg (by omega),if_neg (by omega)]
  exact⟨⟨a0p w1 _,hd.dk.none (zq _),⟨hd.dk.later k,hd.of,hd.wl,hd.hl,hd.inv⟩,(HE.out.later hb).later k,fun b hb'=>hlow b (by omega)⟩,hb.trans (k.mono hb.size),hlow,hb.size⟩
 clear hd hb
 go_wp2_with fail
 exact bodyPost_ret (v:=.pointer (some ⟨w1.heap.size,0,none⟩)) (by simp[results,Tryz.results44,go_sem]) rfl ⟨_,_,_,rfl,HF.out⟩
namespace Desk
theorem d9a(p:Ent->Bool):∀ l:List Ent,(l.filter p).length+(l.filter fun e=>!p e).length=l.length
 |[]=>rfl
 |a :: r=>by
  have ih:=d9a p r;simp only[List.filter_cons]
  cases p a <;> simp <;> omega
theorem d8u(ts:List (ByteArray × Int)):∀ (k:Nat)(es:List Ent)(now tq:Int),(a1K ts k es now tq).2.1.length<=es.length
 |0,es,_,_=>by simp[a1K]
 |k+1,es,now,tq=>by
  simp only[a1K]
  split
  ·have h1:=d8u ts k (a0R ts (es.filter fun e=>!a0z (a3D tq es) e)).1 (a3D tq es) tq;have h2:=a7H ts (es.filter fun e=>!a0z (a3D tq es) e);have h3:=d9a (a0z (a3D tq es)) es;simp only[List.length_append,List.length_map];omega
  ·simp
structure f5z(s:St)(r:Rep):Prop where
 en:r.entries.length<=60
 es:∀ e∈r.entries,e∈s.es
 da:r.days.length<=60
 ed:r.ended.length<=60
theorem f5z.plain{s:St}{r:Rep}(h1:r.entries=[])(h2:r.days=[])(h3:r.ended=[]):f5z s r:=⟨by rw[h1];simp,by rw[h1];simp,by rw[h2];simp,by rw[h3];simp⟩
theorem e7j{s:St}(h:Inv s){l:a7U}(hl:a1O l):f5z s (a0g s l).2:=by
 cases l with
 |a0k name u=>simp only[a0g];split <;> first|exact .plain rfl rfl rfl|(split <;> exact .plain rfl rfl rfl)
 |enter k name u fr til long=>simp only[a0g];split <;> exact .plain rfl rfl rfl
 |series name u r=>simp only[a0g];split <;> exact .plain rfl rfl rfl
 |confirm id =>
  simp only[a0g]
  split
  ·exact .plain rfl rfl rfl
  ·split <;> exact .plain rfl rfl rfl
 |cancel id=>simp only[a0g];split <;> exact .plain rfl rfl rfl
 |list name fr til =>
  simp only[a0g]
  split
  ·exact .plain rfl rfl rfl
  ·split
   ·exact .plain rfl rfl rfl
   ·have hm:∀ e∈a2x name fr til s.es,e∈s.es:=fun e he=>(List.mem_filter.1 (a4U.1 he)).1
    have hlen:(a2x name fr til s.es).length<=60:=by
     have:=c6C h;have e:=(a3Y (a:=fr) (b:=til) (s.es.filter (b7U name fr til))).length_eq;have f:=List.length_filter_le (b7U name fr til) s.es;unfold a2x;omega
    exact⟨hlen,hm,by simp[Rep.num],by simp[Rep.num]⟩
 |waiting=>exact⟨Nat.le_trans (List.length_filter_le ..) (c6C h),fun e he=>(List.mem_filter.1 he).1,by simp[a0g,Rep.num],by simp[a0g,Rep.num]⟩
 |peak name fr til=>simp only[a0g];split <;> first|exact .plain rfl rfl rfl|(split <;> exact .plain rfl rfl rfl)
 |find name u long fr til=>simp only[a0g];split <;> first|exact .plain rfl rfl rfl|(split <;> exact .plain rfl rfl rfl)
 |expand r =>
  simp only[a0g]
  split
  ·exact .plain rfl rfl rfl
  ·rename_i c
   have hf:Rd.a6s r:=hl;have:=((Rd.a5K hf).2 (by omega)).2.2.1;exact⟨by simp[Rep.num],by simp[Rep.num],by show (Rd.a0E r).length<=60;omega,by simp[Rep.num]⟩
 |tick n =>
  simp only[a0g]
  split
  ·exact .plain rfl rfl rfl
  ·have h1:=d8u s.ts (s.es.length+1) s.es s.now (s.now+n);have h2:=c6C h;exact⟨by simp[Rep.num],by simp[Rep.num],by simp[Rep.num],by show (a1K s.ts (s.es.length+1) s.es s.now (s.now+n)).2.1.length<=60;omega⟩
 |clock=>exact .plain rfl rfl rfl
theorem e6u{s:St}(h:Inv s){l:a7U}(hl:a1O l):f5z s (a1q s l).2/\(a1q s l).2.granted.length<=100000:=by
 have h1:=e7j h hl;have h2:=c3u h.mid l;unfold a1q
 split
 ·exact⟨h1,by omega⟩
 ·refine⟨⟨h1.en,h1.es,h1.da,h1.ed⟩,?_⟩;have h3:=b8x (a0g s l).1.ts (a0g s l).1.es;have h4:=a1x (b7f h hl);simp only[List.length_append];omega
end Desk
end Go.Proofs.YtfigmlfdnickmaaGreatDoor
namespace Go.Proofs.YtfigmlfdnickmaaGreatDoor.Laid
def val:DataW Unit->Value
 |.lit (.int k n)=>.int k n
 |.lit (.string b)=>.string ⟨b.toArray⟩
 |_=>.bool false
def row:DataW Unit->List Value
 |.agg l=>l.map val
 |_=>[]
def rows:DataW Unit->List Value
 |.agg l=>l.flatMap row
 |_=>[]
def text:DataW Unit->Value
 |.iface _ (.ptr (.agg [d]))=>val d
 |_=>.bool false
def put(l:List Value):Obj->Obj
 |.cells _ t frozen=>.cells l.toArray t frozen
 |o=>o
def c6N(w:World):World :=
 { w with heap:=(((((((((w.heap.modify 1 (put (row Rows.laid_bookings_calendar_monthDays))).modify 0 (put (row Rows.laid_internal_strconv_uint64pow10))).modify 6 (put [.iface 369 (.pointer (some ⟨w.heap.size,0,none⟩))])).modify 7 (put [.iface 369 (.pointer (some ⟨w.heap.size+1,0,none⟩))])).modify 3 (put (row Rows.laid_bookings_lines_weekdays))).modify 4 (put (row Rows.laid_math_bits_deBruijn32tab))).modify 5 (put (row Rows.laid_math_bits_deBruijn64tab))).modify 8 (put (row Rows.laid_unicode_utf8_first))).modify 9 (put (rows Rows.laid_unicode_utf8_acceptRanges))).push (.cells #[text Rows.laid_strconv_ErrSyntax] 371) |>.push (.cells #[text Rows.laid_strconv_ErrRange] 371) }
end Go.Proofs.YtfigmlfdnickmaaGreatDoor.Laid
namespace Go.Proofs.YtfigmlfdnickmaaGreatDoor.datesLaw
open Go.ChangeShapes Go.WideShapes Go.ChangeAt Go.RowKit
theorem own:ownKnob Tryz.prog.godebug=none:=by kernel_rfl
theorem c5b:laidOutB Tryz.prog=true:=by kernel_rfl
theorem c3D:Tryz.prog.cellsOf 3=1:=by kernel_rfl
theorem b7n:Tryz.prog.cellsOf 9=1:=by kernel_rfl
theorem e7q:Tryz.prog.cellsOf 89=6:=by kernel_rfl
theorem six{α:Type}{l:List α}(h:l.length=6):∃ a b c d e f,l=[a,b,c,d,e,f]:=by
 match l,h with
 |[a,b,c,d,e,f],_=>exact⟨a,b,c,d,e,f,rfl⟩
end Go.Proofs.YtfigmlfdnickmaaGreatDoor.datesLaw
namespace Go.Proofs.YtfigmlfdnickmaaGreatDoor.EnvLaid
open Go.ChangeShapes Go.WideShapes Go.ChangeAt Go.RowKit
theorem b2G{P:Program}{name:String}{k:IntKind}{zs:List Int}{t e:TypeId}
  (hg:P.globalNamed name=some g) (hty:(P.globals[g]?).map (·.type)=some t) (ht:P.underlying t=some (.array n e)) (he:P.underlying e=some (.int k)) (hce:P.cellsOf e=1) (hct:P.cellsOf t=n)
  (h:Lib.VarReads P W name (Lib.tabData k zs)):Lib.TabIs P W name k zs:=by
 obtain⟨g',t',cs,fuel,p,hg',ht',hvar,hd⟩:=h;obtain rfl:=Option.some.inj (hg.symm.trans hg');obtain rfl:=Option.some.inj (hty.symm.trans ht');unfold Lib.TabIs;rw[hvar,<- Lib.cells_of_tab ht he hce hct hd]
theorem b9t{P:Program}{name:String}{zs:List (List UInt8)}{t e:TypeId}
  (hg:P.globalNamed name=some g) (hty:(P.globals[g]?).map (·.type)=some t) (ht:P.underlying t=some (.array n e)) (he:P.underlying e=some .string) (hce:P.cellsOf e=1)
  (h:Lib.VarReads P W name (.agg (zs.map fun z=>.lit (.string z)))) (i:Nat) (z:List UInt8) (hz:zs[i]?=some z):W.cell? ⟨g,i,none⟩=some (.string ⟨z.toArray⟩):=by
 obtain⟨g',t',cs,fuel,p,hg',ht',hvar,hd⟩:=h;obtain rfl:=Option.some.inj (hg.symm.trans hg');obtain rfl:=Option.some.inj (hty.symm.trans ht');obtain⟨xs,m,_,hx,_,hxl,hall⟩:=DataW.trod_array ht hd
 have hx1:zs.map (fun z=>(DataW.lit (.string z):DataW Unit))=xs.map (·.1):=by
  have:=congrArg Prod.fst hx
  simpa using this
 have hlen:zs.length=xs.length:=by
  have:=congrArg List.length hx1
  simpa using this
 have hi:i<zs.length:=(List.getElem?_eq_some_iff.1 hz).1;have hxi:xs[i]?=some xs[i]:=List.getElem?_eq_getElem (by omega);have hti:=hall i (by omega);rw[hxi,hce] at hti;obtain⟨s,hs1,hs2,_⟩:=DataW.trod_string he hti
 have h1:(xs.map (·.1))[i]?=some (DataW.lit (.string z):DataW Unit):=by rw[<- hx1];simp[hz]
 have h2:(xs.map (·.1))[i]?=some (DataW.lit (.string s.data.toList):DataW Unit):=by simp[hxi,hs2]
 have h3:z=s.data.toList:=by
  have:=h1.symm.trans h2
  simpa using this
 have h4:cs[i]?=some (.string s):=by
  have:=congrArg (·[0]?) hs1
  simpa[List.getElem?_take,List.getElem?_drop] using this
 rw[World.var?_cell hg hvar i,h4,h3]
theorem c3f:(Tryz.prog.globals[0]?).map (·.type)=some 306:=by kernel_rfl
theorem c3B:Tryz.prog.cellsOf 306=20:=by kernel_rfl
theorem c3z:Tryz.prog.cellsOf 265=1:=by kernel_rfl
theorem c6X : Tryz.prog.globalNamed "bookings/lines.weekdays" = some 3 := by kernel_rfl
theorem c0J:(Tryz.prog.globals[3]?).map (·.type)=some 352:=by kernel_rfl
theorem b8z : Tryz.prog.globalNamed "bookings/calendar.monthDays" = some 1 := by kernel_rfl
theorem c3g:(Tryz.prog.globals[1]?).map (·.type)=some 314:=by kernel_rfl
theorem c3C:Tryz.prog.cellsOf 314=12:=by kernel_rfl
theorem c6I:Tryz.prog.cellsOf 3=1:=by kernel_rfl
theorem b7n:Tryz.prog.cellsOf 9=1:=by kernel_rfl
theorem c6Y {W: World} {l: List (String × DataW Unit)} (hM : laidMet Tryz.prog l W) (hS : W.ShapedOpen Tryz.prog) (m1 : ("bookings/calendar.monthDays", Rows.laid_bookings_calendar_monthDays) ∈ l) (m2 : ("internal/strconv.uint64pow10", Rows.laid_internal_strconv_uint64pow10) ∈ l) (m3 : ("bookings/lines.weekdays", Rows.laid_bookings_lines_weekdays) ∈ l) : Env W := by
 have ht : Lib.VarReads Tryz.prog W "bookings/calendar.monthDays" (Lib.tabData .i64 [31, 28, 31, 30, 31, 30, 31, 31, 30, 31, 30, 31]) := Lib.laidMet.reads hM (d := Rows.laid_bookings_calendar_monthDays) m1;have hp : Lib.VarReads Tryz.prog W "internal/strconv.uint64pow10" (Lib.tabData .u64 Lib.pow10Tab) := Lib.laidMet.reads hM (d := Rows.laid_internal_strconv_uint64pow10) m2;have hd : Lib.VarReads Tryz.prog W "bookings/lines.weekdays" (.agg ([[109, 111], [116, 117], [119, 101], [116, 104], [102, 114], [115, 97], [115, 117]].map fun z => .lit (.string z))) := Lib.laidMet.reads hM (d := Rows.laid_bookings_lines_weekdays) m3;have day:=fun i z hz=>b9t c6X c0J Tryz.underlying352 Tryz.underlying9 b7n hd i z hz
 have tb:=b2G b8z c3g Tryz.underlying314 Tryz.underlying3 c6I c3C ht
 have hsz:10<=W.heap.size:=by
  have h0:(((begin Tryz.prog (fun _ _=>0) default).world.heap[9]?).bind Obj.row?).isSome=true:=by kernel_rfl
  obtain⟨⟨zero,t⟩,h1⟩:=Option.isSome_iff_exists.1 h0;obtain⟨cs,hh,_⟩:=hS.1 9 zero t (of_decide_eq_true (by kernel_rfl)) h1;exact (Array.getElem?_eq_some_iff.1 hh).1
 exact⟨⟨tb.cell b8z 0 (by decide),tb.cell b8z 1 (by decide),tb.cell b8z 2 (by decide),tb.cell b8z 3 (by decide),tb.cell b8z 4 (by decide),tb.cell b8z 5 (by decide),tb.cell b8z 6 (by decide),tb.cell b8z 7 (by decide),tb.cell b8z 8 (by decide),tb.cell b8z 9 (by decide),tb.cell b8z 10 (by decide),tb.cell b8z 11 (by decide)⟩,cell_of_shapedOpen_int (zero:=#[.int .i64 0]) (t:=3) hS (of_decide_eq_true (by kernel_rfl)) (by kernel_rfl) rfl (by kernel_rfl) (by kernel_rfl) Tryz.underlying3,
  b2G c6q c3f Tryz.underlying306 Tryz.underlying265 c3z c3B hp,hsz,
  day 0 _ rfl,day 1 _ rfl,day 2 _ rfl,day 3 _ rfl,day 4 _ rfl,day 5 _ rfl,day 6 _ rfl⟩
end Go.Proofs.YtfigmlfdnickmaaGreatDoor.EnvLaid
namespace Go.Proofs.YtfigmlfdnickmaaGreatDoor
open Go.RowKit
def g4X:List ByteArray:=[a1t,g3A,atW,g1M,b3z,c8M]
def g4f:List ByteArray:=[b0Y,e9O]
def g4d:List ByteArray:=[a8D,e9O,onY]
def g4e:List ByteArray:=[a8w,e9O]
def g5c:List ByteArray:=[b2z,e9O]
def g5b:List ByteArray:=[b5O,g3A]
def g4c:List (List ByteArray):=[g4f,g4d,g4e]
def ends:List (List ByteArray):=[g5c,g5b]
def g4E(H:List ByteArray):List (List ByteArray):=g4c.flatMap fun K=>ends.map fun E=>H++K++g4X++E
def g4M:List ByteArray:=[a7l,c8r,c8Z]
def g4Z:List ByteArray:=[a7M]
def e1B:List (List ByteArray):=[[a3F,c8r,c8Z],[a9P,c8r,c8Z,c7X,c7X],[b5f,c8r,c8Z,c7X,c7X,c8M],[b4k,c8r,c8Z,c7X,c7X,c8M],[a4z,idY],[a6m,idY],[a5Q,c8r],[a5Q,c8r,c7X,c7X],[a5q],[a9a,c8r,c7X,c7X],[b5h,c8r,c8Z,c8M,c7X,c7X],[b4n,c8M],[b1c]]++g4E g4M++g4E g4Z
theorem g1H:g2n=e1B:=by decide +kernel
theorem g1G:∀ p∈e1B,p≠[]:=by decide +kernel
def e7c(k:ByteArray)(p:List ByteArray):Bool:=g2B (p.headD ByteArray.empty) k
theorem e7b(h:isB ws 0 false k=true):∃ t,ws=k :: t:=by
 rw[f5u] at h;obtain⟨_,h1,h2⟩:=d7C h;have e:=f4d h2
 match ws,h1 with
 |a :: t,_=>exact⟨t,by rw[show a=k from e]⟩
theorem e3O{t:List ByteArray}(hw:Txt.a1v s=k :: t):g0V s=scan (e1B.filter (e7c k)) (Txt.a1v s) 0:=by
 unfold g0V;rw[g1H,d8j _ (e7c k) e1B 0];intro p hp hf;have hne:=g1G p hp;refine⟨?_,hne⟩
 match p,hne,hf with
 |a :: p',_,hf =>
  have e:g2B a k=false:=hf;rw[hw,pre,e];rfl
theorem st1(h:isB ws 0 false k=true)(hk:d1Z k=true)(p:List ByteArray):a0M ws (p.map g2B) (1,false)=a0M ws ((k :: p).map g2B) (0,false):=by
 have e:stp ws (g2B k) (0,false)=(1,false):=by
  obtain⟨_,h1,h2⟩:=d7C (f5u ws 0 false k ▸ h);rw[g4I k hk];exact c4A h1 h2
 show _=a0M ws (p.map g2B) (stp ws (g2B k) (0,false));rw[e]
theorem f3r(h:a0M ws (q.map g2B) (0,false)=st):Sum [q] ws st q:=by
 obtain⟨n,b⟩:=st;have hp:=e4b h;have one:∀ p∈[q],p=q:=fun p hp=>List.mem_singleton.1 hp
 refine⟨List.mem_singleton.2 rfl,fun p hp'=>by rw[one p hp'];exact Nat.le_of_eq hp,hp,fun hb p hp' e=>?_,fun hb=>⟨?_,fun p hp' hne=>absurd (one p hp') hne⟩⟩
 ·cases hb
  rw[one p hp'] at e;have:=f6K h;omega
 ·cases hb
  rw[hp];exact f4z h
theorem e8Z:∀ (Q R ws:List ByteArray),pre Q ws<=pre (Q++R) ws
 |[],_,_=>by simp[pre]
 |_ :: _,_,[]=>by simp[pre]
 |s :: Q,R,w :: ws=>by
  have:=e8Z Q R ws;simp only[List.cons_append,pre]
  split <;> omega
theorem f3t(h:a0M ws ([a5Q,c8r].map g2B) (0,false)=st)(hm:a1b ws.length st.1 st.2=false):Sum [[a5Q,c8r],[a5Q,c8r,c7X,c7X]] ws st [a5Q,c8r]:=by
 obtain⟨n,b⟩:=st;have hp:=e4b h;have hl:=(d8p [a5Q,c8r,c7X,c7X] ws).2
 have h2:pre [a5Q,c8r,c7X,c7X] ws<=n:=by
  cases b
  ·have:¬ n<ws.length:=by simpa[a1b] using hm
   omega
  ·exact Nat.le_of_eq (g1F [c7X,c7X] h)
 have hn:n<=2:=by have:=(d8p [a5Q,c8r] ws).1;rw[hp] at this;exact this
 refine⟨by simp,?_,hp,?_,?_⟩
 ·intro p hp';rcases List.mem_cons.1 hp' with rfl|hp'
  ·exact Nat.le_of_eq hp
  ·rw[List.mem_singleton.1 hp'];exact h2
 ·intro hb p hp' e
  cases hb
  have hbad:n<2:=f6K h;rcases List.mem_cons.1 hp' with rfl|hp'
  ·rw[hp] at e;exact absurd e.1 (by show ¬ n=2;omega)
  ·rw[List.mem_singleton.1 hp'] at e;exact absurd e.1 (by show ¬ _=4;omega)
 ·intro hb
  cases hb
  refine⟨hp.trans (f4z h),fun p hp' hne e=>?_⟩;rcases List.mem_cons.1 hp' with rfl|hp'
  ·exact hne rfl
  ·rw[List.mem_singleton.1 hp'] at e;exact absurd e.1 (by show ¬ _=4;omega)
theorem f3s{st':Nat × Bool}(h:a0M ws ([a5Q,c8r].map g2B) (0,false)=st)(hm:a1b ws.length st.1 st.2=true)(h':a0M ws ([a5Q,c8r,c7X,c7X].map g2B) (0,false)=st'):Sum [[a5Q,c8r],[a5Q,c8r,c7X,c7X]] ws st' [a5Q,c8r,c7X,c7X]:=by
 obtain⟨n,b⟩:=st;obtain⟨n',b'⟩:=st';have hp:=e4b h;have hp':=e4b h';have hlt:=a4q hm;have hmono:pre [a5Q,c8r] ws<=pre [a5Q,c8r,c7X,c7X] ws:=e8Z [a5Q,c8r] [c7X,c7X] ws;refine⟨by simp,?_,hp',?_,?_⟩
 ·intro p hq;rcases List.mem_cons.1 hq with rfl|hq
  ·show _<=n';omega
  ·rw[List.mem_singleton.1 hq];exact Nat.le_of_eq hp'
 ·intro hb p hq e
  cases hb
  have hbad:n'<4:=f6K h';rcases List.mem_cons.1 hq with rfl|hq
  ·have:n<ws.length:=hlt;omega
  ·rw[List.mem_singleton.1 hq] at e;have e1:pre [a5Q,c8r,c7X,c7X] ws=4:=e.1;omega
 ·intro hb
  cases hb
  refine⟨hp'.trans (f4z h'),fun p hq hne e=>?_⟩;rcases List.mem_cons.1 hq with rfl|hq
  ·have:n<ws.length:=hlt;omega
  ·exact hne (List.mem_singleton.1 hq)
theorem f8X{p:List ByteArray}(h:p∈g4E H):∃ K∈g4c,∃ E∈ends,p=H++K++g4X++E:=by
 unfold g4E at h;simp only[List.mem_flatMap,List.mem_map] at h;obtain⟨K,hK,E,hE,rfl⟩:=h;exact⟨K,hK,E,hE,rfl⟩
theorem g0e(hK:K∈g4c)(hE:E∈ends):H++K++g4X++E∈g4E H:=by
 unfold g4E;simp only[List.mem_flatMap,List.mem_map];exact⟨K,hK,E,hE,rfl⟩
theorem g7V(h:K∈g4c):∃ K',K=K.headD ByteArray.empty :: K':=by
 simp only[g4c,List.mem_cons,List.not_mem_nil,or_false] at h;rcases h with rfl|rfl|rfl
 ·exact⟨[e9O],rfl⟩
 ·exact⟨[e9O,onY],rfl⟩
 ·exact⟨[e9O],rfl⟩
theorem h1W(h:E∈ends):∃ E',E=E.headD ByteArray.empty :: E':=by
 simp only[ends,List.mem_cons,List.not_mem_nil,or_false] at h;rcases h with rfl|rfl
 ·exact⟨[e9O],rfl⟩
 ·exact⟨[g3A],rfl⟩
theorem f9L(hK:K∈g4c)(hn:a0M ws (H.map g2B) (0,false)=(n,false))(hk:tkB ws n false (g2B (K.headD ByteArray.empty))=false):pre (H++K++g4X++E) ws=n/\n<(H++K++g4X++E).length:=by
 obtain⟨K',e⟩:=g7V hK;have hl:=f4z hn
 have e2:H++K++g4X++E=H++K.headD ByteArray.empty :: (K'++g4X++E):=by
  conv=>lhs;rw[e]
  simp
 rw[e2];exact⟨g7L _ hn hk,by simp;omega⟩
theorem g8d(hE:E∈ends)(hn:a0M ws (Q.map g2B) (0,false)=(n,false))(hk:tkB ws n false (g2B (E.headD ByteArray.empty))=false):pre (Q++E) ws=n/\n<(Q++E).length:=by
 obtain⟨E',e⟩:=h1W hE;have hl:=f4z hn;rw[e];exact⟨g7L _ hn hk,by simp;omega⟩
theorem h5P(hn:a0M ws (Q.map g2B) (0,false)=(n,true)):pre (Q++E) ws=n/\n<(Q++E).length:=by
 have:=f6K hn;exact⟨g1F _ hn,by simp;omega⟩
theorem g1P(hK:K∈g4c)(hE:E∈ends)(hn:a0M ws (H.map g2B) (0,false)=(n,false))
  (hk:∀ K2∈g4c,K2≠K->tkB ws n false (g2B (K2.headD ByteArray.empty))=false) (hm:a0M ws ((H++K++g4X).map g2B) (0,false)=(m,false))
  (he:∀ E2∈ends,E2≠E->tkB ws m false (g2B (E2.headD ByteArray.empty))=false) (hst:a0M ws ((H++K++g4X++E).map g2B) (0,false)=st):Sum (g4E H) ws st (H++K++g4X++E):=by
 obtain⟨l,b⟩:=st;have hp:=e4b hst
 have hn1:n<=l:=by
  have h1:=e8Z H (K++g4X++E) ws;rw[e4b hn,<- List.append_assoc,<- List.append_assoc,hp] at h1;exact h1
 have hm1:m<=l:=by
  have h1:=e8Z (H++K++g4X) E ws;rw[e4b hm,hp] at h1;exact h1
 have key:∀ p∈g4E H,p=H++K++g4X++E\/(pre p ws<=l/\pre p ws<p.length):=by
  intro p hp';obtain⟨K2,hK2,E2,hE2,rfl⟩:=f8X hp'
  by_cases e1:K2=K
  ·subst e1
   by_cases e2:E2=E
   ·subst e2;exact .inl rfl
   ·obtain⟨q1,q2⟩:=g8d hE2 hm (he E2 hE2 e2);exact .inr ⟨by omega,by omega⟩
  ·obtain⟨q1,q2⟩:=f9L (E:=E2) hK2 hn (hk K2 hK2 e1);exact .inr ⟨by omega,by omega⟩
 refine⟨g0e hK hE,fun p hp'=>?_,hp,fun hb p hp' e=>?_,fun hb=>⟨?_,fun p hp' hne e=>?_⟩⟩
 ·rcases key p hp' with rfl|h
  ·exact Nat.le_of_eq hp
  ·exact h.1
 ·cases hb
  have hbad:=f6K hst;rcases key p hp' with rfl|h
  ·omega
  ·omega
 ·cases hb;exact hp.trans (f4z hst)
 ·rcases key p hp' with h|h
  ·exact hne h
  ·omega
theorem g7g(hK:K∈g4c)(hn:a0M ws (H.map g2B) (0,false)=(n,false))
  (hk:∀ K2∈g4c,K2≠K->tkB ws n false (g2B (K2.headD ByteArray.empty))=false) (hm:a0M ws ((H++K++g4X).map g2B) (0,false)=(m,b))
  (he:∀ E2∈ends,tkB ws m b (g2B (E2.headD ByteArray.empty))=false):Sum (g4E H) ws (m,true) (H++K++g4X++g5c):=by
 have hE:g5c∈ends:=by simp[ends]
 have hn1:n<=m:=by
  have h1:=e8Z H (K++g4X) ws;rw[e4b hn,<- List.append_assoc,e4b hm] at h1;exact h1
 have same:∀ E2∈ends,pre (H++K++g4X++E2) ws=m/\m<(H++K++g4X++E2).length:=by
  intro E2 hE2
  cases b
  ·exact g8d hE2 hm (he E2 hE2)
  ·exact h5P hm
 have key:∀ p∈g4E H,pre p ws<=m/\pre p ws<p.length:=by
  intro p hp';obtain⟨K2,hK2,E2,hE2,rfl⟩:=f8X hp'
  by_cases e1:K2=K
  ·subst e1;obtain⟨q1,q2⟩:=same E2 hE2;exact⟨by omega,by omega⟩
  ·obtain⟨q1,q2⟩:=f9L (E:=E2) hK2 hn (hk K2 hK2 e1);exact⟨by omega,by omega⟩
 exact⟨g0e hK hE,fun p hp'=>(key p hp').1,(same g5c hE).1,fun _ p hp' e=>by have:=key p hp';omega,fun hb=>absurd hb (by simp)⟩
theorem g5k(hn:a0M ws (H.map g2B) (0,false)=(n,b))
  (hk:∀ K2∈g4c,tkB ws n b (g2B (K2.headD ByteArray.empty))=false):Sum (g4E H) ws (n,true) (H++g4f++g4X++g5c):=by
 have hK:g4f∈g4c:=by simp[g4c]
 have hE:g5c∈ends:=by simp[ends]
 have same:∀ K2∈g4c,∀ E2:List ByteArray,pre (H++K2++g4X++E2) ws=n/\n<(H++K2++g4X++E2).length:=by
  intro K2 hK2 E2
  cases b
  ·exact f9L hK2 hn (hk K2 hK2)
  ·have h1:=h5P (E:=K2++g4X++E2) hn;rw[<- List.append_assoc,<- List.append_assoc] at h1;exact h1
 have key:∀ p∈g4E H,pre p ws<=n/\pre p ws<p.length:=by
  intro p hp';obtain⟨K2,hK2,E2,_,rfl⟩:=f8X hp';obtain⟨q1,q2⟩:=same K2 hK2 E2;exact⟨by omega,by omega⟩
 exact⟨g0e hK hE,fun p hp'=>(key p hp').1,(same g4f hK g5c).1,fun _ p hp' e=>by have:=key p hp';omega,fun hb=>absurd hb (by simp)⟩
theorem g2Q(h:a0M ws ((Q++s :: R).map g2B) (0,false)=(n,false))(V:ByteArray->Int):a0v ws (a0M ws (Q.map g2B) (0,false)) (g2B s) V=V (ws.getD Q.length ByteArray.empty):=by
 rw[f4n h];unfold a0v tkV;rw[if_pos (e9K h)]
theorem g3w(h:a0M ws ((Q++s :: R).map g2B) (0,false)=(n,false)):g2B s (ws.getD Q.length ByteArray.empty)=true:=(d7C (e9K h)).2.2
theorem g7Z:g4f.map g2B=[a1s b0Y,evB]:=by
 simp only[g4f,List.map,h2U,g4I b0Y (by decide +kernel)]
theorem g7X:g4d.map g2B=[a1s a8D,evB,Txt.onB]:=by
 simp only[g4d,List.map,h2U,h6S,g4I a8D (by decide +kernel)]
theorem g7Y:g4e.map g2B=[a1s a8w,evB]:=by
 simp only[g4e,List.map,h2U,g4I a8w (by decide +kernel)]
theorem h1Y:g5c.map g2B=[a1s b2z,evB]:=by
 simp only[g5c,List.map,h2U,g4I b2z (by decide +kernel)]
theorem h1X:g5b.map g2B=[a1s b5O,Txt.a2y]:=by
 simp only[g5b,List.map,h6f,g4I b5O (by decide +kernel)]
theorem h1r:g4X.map g2B=[a1s a1t,Txt.a2y,a1s atW,Txt.a3a,a1s b3z,miB]:=by
 simp only[g4X,List.map,h6f,h6T,f9f,g4I a1t (by decide +kernel),g4I atW (by decide +kernel),g4I b3z (by decide +kernel)]
inductive h2B (ws:List ByteArray) (c:Nat):Int->Int->List Int->List ByteArray->Prop where
 |daily (h0:ws.getD c ByteArray.empty=b0Y) (h:evB (ws.getD (c+1) ByteArray.empty)=true):h2B ws c 1 (nvF (ws.getD (c+1) ByteArray.empty)) [] g4f
 |weekly (acc:List Int) (h0:ws.getD c ByteArray.empty=a8D) (h:evB (ws.getD (c+1) ByteArray.empty)=true) (ho:Txt.onW (ws.getD (c+2) ByteArray.empty)=some acc):h2B ws c 2 (nvF (ws.getD (c+1) ByteArray.empty)) acc g4d
 |monthly (h0:ws.getD c ByteArray.empty=a8w) (h:evB (ws.getD (c+1) ByteArray.empty)=true):h2B ws c 3 (nvF (ws.getD (c+1) ByteArray.empty)) [] g4e
inductive h6k (ws:List ByteArray) (d:Nat):Int->Int->List ByteArray->Prop where
 |times (h0:ws.getD d ByteArray.empty=b2z) (h:evB (ws.getD (d+1) ByteArray.empty)=true):h6k ws d (nvF (ws.getD (d+1) ByteArray.empty)) 0 g5c
 |til (h0:ws.getD d ByteArray.empty=b5O) (h:Txt.a2y (ws.getD (d+1) ByteArray.empty)=true):h6k ws d 0 (b0a (ws.getD (d+1) ByteArray.empty)) g5b
structure h6W(ws:List ByteArray)(d:Nat)(fr mn mi:Int):Prop where
 h0:ws.getD d ByteArray.empty=a1t
 h1:Txt.a2y (ws.getD (d+1) ByteArray.empty)=true
 h2:ws.getD (d+2) ByteArray.empty=atW
 h3:Txt.a3a (ws.getD (d+3) ByteArray.empty)=true
 h4:ws.getD (d+4) ByteArray.empty=b3z
 h5:miB (ws.getD (d+5) ByteArray.empty)=true
 fr_:fr=b0a (ws.getD (d+1) ByteArray.empty)
 mn_:mn=Txt.a6J (ws.getD (d+3) ByteArray.empty)
 mi_:mi=nvF (ws.getD (d+5) ByteArray.empty)
structure h5X(H ws:List ByteArray)(pc ev:Int)(acc:List Int)(fr mn mi ti un:Int)(K E:List ByteArray):Prop where
 h7p:h2B ws H.length pc ev acc K
 mid:h6W ws (H.length+K.length) fr mn mi
 end_:h6k ws (H.length+K.length+6) ti un E
theorem e4U{x y:ByteArray}{wr:Bool}(h:isB ws n wr x=true)(hy:g2B y x=false):tkB ws n false (g2B y)=false:=by
 obtain⟨_,_,h2⟩:=d7C (f5u ws n wr x ▸ h);have e:=f4d h2;exact g0U (by rw[e];exact hy)
theorem h1f:∀ K2∈g4c,K2≠g4f->g2B (K2.headD ByteArray.empty) b0Y=false:=by decide +kernel
theorem h0Y:∀ K2∈g4c,K2≠g4d->g2B (K2.headD ByteArray.empty) a8D=false:=by decide +kernel
theorem h1e:∀ K2∈g4c,K2≠g4e->g2B (K2.headD ByteArray.empty) a8w=false:=by decide +kernel
theorem h1d:∀ E2∈ends,E2≠g5c->g2B (E2.headD ByteArray.empty) b2z=false:=by decide +kernel
theorem h0Z:∀ E2∈ends,E2≠g5b->g2B (E2.headD ByteArray.empty) b5O=false:=by decide +kernel
theorem f0L{s:Nat × Bool}(hs:s=a0M ws ((H++K).map g2B) (0,false))(h:a0M ws ((H++K++g4X++E).map g2B) (0,false)=(n,false)):
  h6W ws (H.length+K.length) (a0v ws (a0M ws [a1s a1t] s) Txt.a2y b0a) (a0v ws (a0M ws [a1s a1t,Txt.a2y,a1s atW] s) Txt.a3a Txt.a6J) (a0v ws (a0M ws [a1s a1t,Txt.a2y,a1s atW,Txt.a3a,a1s b3z] s) miB nvF):=by
 have f0:=g4I a1t (by decide +kernel);have f1:=g4I atW (by decide +kernel);have f2:=g4I b3z (by decide +kernel);have e0:H++K++g4X++E=(H++K)++a1t :: ([g3A,atW,g1M,b3z,c8M]++E):=by simp[g4X]
 have e1:H++K++g4X++E=(H++K++[a1t])++g3A :: ([atW,g1M,b3z,c8M]++E):=by simp[g4X]
 have e2:H++K++g4X++E=(H++K++[a1t,g3A])++atW :: ([g1M,b3z,c8M]++E):=by simp[g4X]
 have e3:H++K++g4X++E=(H++K++[a1t,g3A,atW])++g1M :: ([b3z,c8M]++E):=by simp[g4X]
 have e4:H++K++g4X++E=(H++K++[a1t,g3A,atW,g1M])++b3z :: ([c8M]++E):=by simp[g4X]
 have e5:H++K++g4X++E=(H++K++[a1t,g3A,atW,g1M,b3z])++c8M :: E:=by simp[g4X]
 have l0:(H++K).length=H.length+K.length:=by simp
 have l1:(H++K++[a1t]).length=H.length+K.length+1:=by simp;omega
 have l2:(H++K++[a1t,g3A]).length=H.length+K.length+2:=by simp;omega
 have l3:(H++K++[a1t,g3A,atW]).length=H.length+K.length+3:=by simp;omega
 have l4:(H++K++[a1t,g3A,atW,g1M]).length=H.length+K.length+4:=by simp;omega
 have l5:(H++K++[a1t,g3A,atW,g1M,b3z]).length=H.length+K.length+5:=by simp;omega
 have a0:=g3w (e0 ▸ h);have a1:=g3w (e1 ▸ h);have a2:=g3w (e2 ▸ h);have a3:=g3w (e3 ▸ h);have a4:=g3w (e4 ▸ h);have a5:=g3w (e5 ▸ h);have v1:=g2Q (e1 ▸ h) b0a;have v3:=g2Q (e3 ▸ h) Txt.a6J;have v5:=g2Q (e5 ▸ h) nvF;rw[List.map_append,e1r,<- hs] at v1 v3 v5;simp only[List.map,f0,f1,f2,h6f,h6T,f9f] at a0 a1 a2 a3 a4 a5 v1 v3 v5;rw[l0] at a0;rw[l1] at a1 v1;rw[l2] at a2;rw[l3] at a3 v3;rw[l4] at a4;rw[l5] at a5 v5;exact⟨f4d a0,a1,f4d a2,a3,f4d a4,a5,v1,v3,v5⟩
theorem e1q{s:Nat × Bool}(hK:K∈g4c)(hn:a0M ws (H.map g2B) (0,false)=(n,false))
  (hk:∀ K2∈g4c,K2≠K->tkB ws n false (g2B (K2.headD ByteArray.empty))=false) (hs:s=a0M ws ((H++K).map g2B) (0,false)) (he:c3M ws (c4Y ws s) ti un s'):
  ∃ E,Sum (g4E H) ws s' (H++K++g4X++E)/\(s'.2=false->a0M ws ((H++K++g4X++E).map g2B) (0,false)=s'/\h6k ws (H.length+K.length+6) ti un E):=by
 have hmid:c4Y ws s=a0M ws ((H++K++g4X).map g2B) (0,false):=by
  unfold c4Y;rw[<- h1r,List.map_append (l₁:=H++K),e1r,<- hs]
 obtain⟨m,b,hm⟩:∃ m b,a0M ws ((H++K++g4X).map g2B) (0,false)=(m,b):=⟨_,_,rfl⟩;have hl:(H++K++g4X).length=H.length+K.length+6:=by simp[g4X];omega
 rw[hmid,hm] at he
 cases he with
 |times h =>
  have hb:b=false:=(d7C (f5u ws m b b2z ▸ h)).1;subst hb
  have hst:a0M ws ((H++K++g4X++g5c).map g2B) (0,false)=a0M ws [evB] (nxt (m,false)):=by
   rw[List.map_append,e1r,hm,h1Y,d3N h];rfl
  refine⟨g5c,g1P hK (by simp[ends]) hn hk hm (fun E2 hE2 hne=>e4U h (h1d E2 hE2 hne)) hst,fun h2=>⟨hst,?_⟩⟩;obtain⟨l,hl'⟩:∃ l,a0M ws ((H++K++g4X++g5c).map g2B) (0,false)=(l,false):=⟨_,by rw[hst];exact Prod.ext rfl h2⟩;have e1:H++K++g4X++g5c=(H++K++g4X++[b2z])++e9O :: []:=by simp[g5c]
  have e0:H++K++g4X++g5c=(H++K++g4X)++b2z :: [e9O]:=by simp[g5c]
  have a0:=g3w (e0 ▸ hl');have a1:=g3w (e1 ▸ hl');have v1:=g2Q (e1 ▸ hl') nvF;rw[List.map_append,e1r,hm] at v1;have lt:=g4I b2z (by decide +kernel);simp only[List.map,lt,h2U] at a0 a1 v1;have e3:a0M ws [a1s b2z] (m,false)=nxt (m,false):=(d3N h).symm;rw[e3] at v1;have l1:(H++K++g4X++[b2z]).length=H.length+K.length+6+1:=by simp[g4X];omega
  rw[l1] at a1 v1;rw[hl] at a0;rw[v1];exact .times (f4d a0) a1
 |til h1 h =>
  have hb:b=false:=(d7C (f5u ws m b b5O ▸ h)).1;subst hb
  have hst:a0M ws ((H++K++g4X++g5b).map g2B) (0,false)=a0M ws [Txt.a2y] (nxt (m,false)):=by
   rw[List.map_append,e1r,hm,h1X,d3N h];rfl
  refine⟨g5b,g1P hK (by simp[ends]) hn hk hm (fun E2 hE2 hne=>e4U h (h0Z E2 hE2 hne)) hst,fun h2=>⟨hst,?_⟩⟩;obtain⟨l,hl'⟩:∃ l,a0M ws ((H++K++g4X++g5b).map g2B) (0,false)=(l,false):=⟨_,by rw[hst];exact Prod.ext rfl h2⟩;have e1:H++K++g4X++g5b=(H++K++g4X++[b5O])++g3A :: []:=by simp[g5b]
  have e0:H++K++g4X++g5b=(H++K++g4X)++b5O :: [g3A]:=by simp[g5b]
  have a0:=g3w (e0 ▸ hl');have a1:=g3w (e1 ▸ hl');have v1:=g2Q (e1 ▸ hl') b0a;rw[List.map_append,e1r,hm] at v1;have lt:=g4I b5O (by decide +kernel);simp only[List.map,lt,h6f] at a0 a1 v1;have e3:a0M ws [a1s b5O] (m,false)=nxt (m,false):=(d3N h).symm;rw[e3] at v1;have l1:(H++K++g4X++[b5O]).length=H.length+K.length+6+1:=by simp[g4X];omega
  rw[l1] at a1 v1;rw[hl] at a0;rw[v1];exact .til (f4d a0) a1
 |none h1 h =>
  refine⟨g5c,g7g hK hn hk hm ?_,fun h2=>absurd h2 (by simp)⟩;intro E2 hE2;simp only[ends,List.mem_cons,List.not_mem_nil,or_false] at hE2;rcases hE2 with rfl|rfl
  ·show tkB ws m b (g2B b2z)=false;rw[g4I b2z (by decide +kernel)];exact h1
  ·show tkB ws m b (g2B b5O)=false;rw[g4I b5O (by decide +kernel)];exact h
theorem e2s{ev:Int}(hr:b0m ws (a0M ws (H.map g2B) (0,false)) pc ev acc fr mn mi ti un s'):
  ∃ q,Sum (g4E H) ws s' q/\(s'.2=false->∃ K E,q=H++K++g4X++E/\a0M ws (q.map g2B) (0,false)=s'/\h5X H ws pc ev acc fr mn mi ti un K E):=by
 obtain⟨n,b,hn⟩:∃ n b,a0M ws (H.map g2B) (0,false)=(n,b):=⟨_,_,rfl⟩;rw[hn] at hr
 cases hr with
 |mk s _ _ _ hp he =>
  cases hp with
  |daily h =>
   have hb:b=false:=(d7C (f5u ws n b b0Y ▸ h)).1;subst hb
   have hs:a0M ws [evB] (nxt (n,false))=a0M ws ((H++g4f).map g2B) (0,false):=by
    rw[List.map_append,e1r,hn,g7Z,d3N h];rfl
   obtain⟨E,hS,hg⟩:=e1q (K:=g4f) (by simp[g4c]) hn (fun K2 hK2 hne=>e4U h (h1f K2 hK2 hne)) hs he;refine⟨_,hS,fun h2=>⟨g4f,E,rfl,(hg h2).1,?_,?_,(hg h2).2⟩⟩
   ·have hl':a0M ws ((H++g4f++g4X++E).map g2B) (0,false)=(s'.1,false):=by rw[(hg h2).1];exact Prod.ext rfl h2
    have e0:H++g4f++g4X++E=H++b0Y :: ([e9O]++g4X++E):=by simp[g4f]
    have e1:H++g4f++g4X++E=(H++[b0Y])++e9O :: (g4X++E):=by simp[g4f]
    have a0:=g3w (e0 ▸ hl');have a1:=g3w (e1 ▸ hl');have v1:=g2Q (e1 ▸ hl') nvF;have lt:=g4I b0Y (by decide +kernel);rw[List.map_append,e1r,hn] at v1;simp only[List.map,lt,h2U] at a0 a1 v1;have e3:a0M ws [a1s b0Y] (n,false)=nxt (n,false):=(d3N h).symm;rw[e3] at v1;have l1:(H++[b0Y]).length=H.length+1:=by simp
    rw[l1] at a1 v1;rw[v1];exact .daily (f4d a0) a1
   ·exact f0L (E:=E) (n:=s'.1) hs (by rw[(hg h2).1];exact Prod.ext rfl h2)
  |weekly h1 h acc ha =>
   have hb:b=false:=(d7C (f5u ws n b a8D ▸ h)).1;subst hb
   have hs:a0M ws [evB,Txt.onB] (nxt (n,false))=a0M ws ((H++g4d).map g2B) (0,false):=by
    rw[List.map_append,e1r,hn,g7X,d3N h];rfl
   obtain⟨E,hS,hg⟩:=e1q (K:=g4d) (by simp[g4c]) hn (fun K2 hK2 hne=>e4U h (h0Y K2 hK2 hne)) hs he;refine⟨_,hS,fun h2=>⟨g4d,E,rfl,(hg h2).1,?_,?_,(hg h2).2⟩⟩
   ·have hl':a0M ws ((H++g4d++g4X++E).map g2B) (0,false)=(s'.1,false):=by rw[(hg h2).1];exact Prod.ext rfl h2
    have e0:H++g4d++g4X++E=H++a8D :: ([e9O,onY]++g4X++E):=by simp[g4d]
    have e1:H++g4d++g4X++E=(H++[a8D])++e9O :: ([onY]++g4X++E):=by simp[g4d]
    have e2:H++g4d++g4X++E=(H++[a8D,e9O])++onY :: (g4X++E):=by simp[g4d]
    have a0:=g3w (e0 ▸ hl');have a1:=g3w (e1 ▸ hl');have a2:=e9K (e2 ▸ hl');have p2:=f4n (e2 ▸ hl');have v1:=g2Q (e1 ▸ hl') nvF;have lt:=g4I a8D (by decide +kernel);rw[List.map_append,e1r,hn] at v1 p2;simp only[List.map,lt,h2U,h6S] at a0 a1 a2 p2 v1;have e3:a0M ws [a1s a8D] (n,false)=nxt (n,false):=(d3N h).symm;have e4:a0M ws [a1s a8D,evB] (n,false)=a0M ws [evB] (nxt (n,false)):=by rw[d3N h];rfl
    rw[e3] at v1;rw[e4] at p2;have l1:(H++[a8D]).length=H.length+1:=by simp
    have l2:(H++[a8D,e9O]).length=H.length+2:=by simp
    rw[l1] at a1 v1;rw[l2] at a2 p2;rw[p2] at ha;rw[v1];exact .weekly acc (f4d a0) a1 (ha a2)
   ·exact f0L (E:=E) (n:=s'.1) hs (by rw[(hg h2).1];exact Prod.ext rfl h2)
  |monthly h1 h1' h =>
   have hb:b=false:=(d7C (f5u ws n b a8w ▸ h)).1;subst hb
   have hs:a0M ws [evB] (nxt (n,false))=a0M ws ((H++g4e).map g2B) (0,false):=by
    rw[List.map_append,e1r,hn,g7Y,d3N h];rfl
   obtain⟨E,hS,hg⟩:=e1q (K:=g4e) (by simp[g4c]) hn (fun K2 hK2 hne=>e4U h (h1e K2 hK2 hne)) hs he;refine⟨_,hS,fun h2=>⟨g4e,E,rfl,(hg h2).1,?_,?_,(hg h2).2⟩⟩
   ·have hl':a0M ws ((H++g4e++g4X++E).map g2B) (0,false)=(s'.1,false):=by rw[(hg h2).1];exact Prod.ext rfl h2
    have e0:H++g4e++g4X++E=H++a8w :: ([e9O]++g4X++E):=by simp[g4e]
    have e1:H++g4e++g4X++E=(H++[a8w])++e9O :: (g4X++E):=by simp[g4e]
    have a0:=g3w (e0 ▸ hl');have a1:=g3w (e1 ▸ hl');have v1:=g2Q (e1 ▸ hl') nvF;have lt:=g4I a8w (by decide +kernel);rw[List.map_append,e1r,hn] at v1;simp only[List.map,lt,h2U] at a0 a1 v1;have e3:a0M ws [a1s a8w] (n,false)=nxt (n,false):=(d3N h).symm;rw[e3] at v1;have l1:(H++[a8w]).length=H.length+1:=by simp
    rw[l1] at a1 v1;rw[v1];exact .monthly (f4d a0) a1
   ·exact f0L (E:=E) (n:=s'.1) hs (by rw[(hg h2).1];exact Prod.ext rfl h2)
  |none h1 h2 h =>
   have hmid:c4Y ws (n,true)=(n,true):=by unfold c4Y;exact d4m ws _ n
   have hS:Sum (g4E H) ws (n,true) (H++g4f++g4X++g5c):=by
    refine g5k hn ?_;intro K2 hK2;simp only[g4c,List.mem_cons,List.not_mem_nil,or_false] at hK2;rcases hK2 with rfl|rfl|rfl
    ·show tkB ws n b (g2B b0Y)=false;rw[g4I b0Y (by decide +kernel)];exact h1
    ·show tkB ws n b (g2B a8D)=false;rw[g4I a8D (by decide +kernel)];exact h2
    ·show tkB ws n b (g2B a8w)=false;rw[g4I a8w (by decide +kernel)];exact h
   rw[hmid] at he
   cases he with
   |times h=>exact absurd (d7C (f5u ws n true b2z ▸ h)).1 (by decide)
   |til _ h=>exact absurd (d7C (f5u ws n true b5O ▸ h)).1 (by decide)
   |none _ _=>exact⟨_,hS,fun h2=>absurd h2 (by simp)⟩
theorem f0D(h:isB ws 0 false k=true)(hk:d1Z k=true)(hall:a0M ws ((k :: (Q++s :: R)).map g2B) (0,false)=(n,false))(V:ByteArray->Int):a0v ws (a0M ws (Q.map g2B) (1,false)) (g2B s) V=V (ws.getD (Q.length+1) ByteArray.empty):=by
 rw[st1 h hk];exact g2Q (Q:=k :: Q) hall V
theorem e9L(Q:List ByteArray)(hall:a0M ws ((k :: (Q++s :: R)).map g2B) (0,false)=(n,false)):g2B s (ws.getD (Q.length+1) ByteArray.empty)=true:=g3w (Q:=k :: Q) hall
theorem f1t(hall:a0M ws ((k :: c8r :: R).map g2B) (0,false)=(n,false)):a2F ws (1,false)=ws.getD 1 ByteArray.empty:=by
 have h:=e9K (Q:=[k]) (s:=c8r) (R:=R) hall;rw[d9O] at h;have h2:=(d7C h).2.2;unfold a2F tkS;rw[if_pos (show tkB ws 1 false (fun s=>Txt.a1j s.data.toList)=true from h)];exact g3f h2
structure Full(s:ByteArray)(p:List ByteArray):Prop where
 sc:g0V s=(some p,0)
 all:a0M (Txt.a1v s) (p.map g2B) (0,false)=(p.length,false)
 len:(Txt.a1v s).length=p.length
theorem e7e(h:isB (Txt.a1v s) 0 false k=true)(hf:e1B.filter (e7c k)=ps)(hS:Sum ps (Txt.a1v s) st q)(hst:a0M (Txt.a1v s) (q.map g2B) (0,false)=st)(h2:st.2=false)(hm:a1b (Txt.a1v s).length st.1 st.2=false):Full s q:=by
 obtain⟨t,ht⟩:=e7b h;obtain⟨n,b⟩:=st;have hl:=hS.at_;have hp:=(d8p q (Txt.a1v s)).2;have hn:¬ n<(Txt.a1v s).length:=by simpa[a1b,show b=false from h2] using hm
 have h2':b=false:=h2;subst h2';have hok:=f4z hst;refine⟨(e3O ht).trans (by rw[hf];exact hS.yes rfl hm),by rw[hst,hok],?_⟩;have:pre q (Txt.a1v s)=n:=hl;omega
theorem e6O(h:isB (Txt.a1v s) 0 false k=true)(hf:e1B.filter (e7c k)=ps)(hS:Sum ps (Txt.a1v s) st q)(hb:st.2=true\/a1b (Txt.a1v s).length st.1 st.2=true):g0V s=(none,st.1):=by
 obtain⟨t,ht⟩:=e7b h;rw[e3O ht,hf];exact hS.no hb
theorem g3s(h:isB ws 0 false k=true):ws.getD 0 ByteArray.empty=k:=by
 obtain⟨t,ht⟩:=e7b h;rw[ht];rfl
def f2K(s:ByteArray)(st:Nat × Bool):Prop:=st.2=true\/a1b (Txt.a1v s).length st.1 st.2=true->g0V s=(none,st.1)
theorem f9a(h:isB (Txt.a1v s) 0 false a7l=true){ev:Int}(hr:b0m (Txt.a1v s) (a0M (Txt.a1v s) [nmB,unB] (1,false)) pc ev acc fr mn mi ti un st):f2K s st:=by
 have hk:d1Z a7l=true:=by decide +kernel
 have hf:e1B.filter (e7c a7l)=g4E g4M:=by decide +kernel
 have hst:a0M (Txt.a1v s) (g4M.map g2B) (0,false)=(a0M (Txt.a1v s) [nmB,unB] (1,false)):=by
  unfold g4M;rw[<- st1 h hk];simp only[List.map,d9O,f5O]
 rw[<- hst] at hr;obtain⟨q,hS,hg⟩:=e2s hr;exact e6O h hf hS
theorem g0B(h:isB (Txt.a1v s) 0 false a7M=true){ev:Int}(hr:b0m (Txt.a1v s) (1,false) pc ev acc fr mn mi ti un st):f2K s st:=by
 have hk:d1Z a7M=true:=by decide +kernel
 have hf:e1B.filter (e7c a7M)=g4E g4Z:=by decide +kernel
 have hst:a0M (Txt.a1v s) (g4Z.map g2B) (0,false)=(1,false):=by
  unfold g4Z;rw[<- st1 h hk];rfl
 rw[<- hst] at hr;obtain⟨q,hS,hg⟩:=e2s hr;exact e6O h hf hS
structure g3P(w:World)(b:Nat)(x:Desk.Ent × Nat × Nat):Prop where
 c0:w.cell? ⟨b,0,none⟩=some (.int .i64 x.1.id)
 c1:w.cell? ⟨b,1,none⟩=some (.int .i64 x.1.kind)
 c2:w.cell? ⟨b,2,none⟩=some (.string x.1.a0k)
 c3:w.cell? ⟨b,3,none⟩=some (.int .i64 x.1.a0c)
 c4:w.cell? ⟨b,4,none⟩=some (.slice (some ⟨x.2.1,0,none⟩) x.1.a0e.length x.2.2)
 c5:w.cell? ⟨b,5,none⟩=some (.int .i64 x.1.a0Z)
theorem g3P.off{w w':World}{b:Nat}{x:Desk.Ent × Nat × Nat}(h:g3P w b x)(k:Off G w w')(hb:b ∉ G):g3P w' b x :=
 ⟨k.cell hb h.c0,k.cell hb h.c1,k.cell hb h.c2,k.cell hb h.c3,k.cell hb h.c4,k.cell hb h.c5⟩
theorem f5s(d:Nat)(ts:List (ByteArray × Int))(xs:List (Desk.Ent × Nat × Nat))(given now:Int)(F:List Nat)(x:Desk.Ent × Nat × Nat)(w:World)(h:RD w d ts xs given now F)(hx:RSL w x.2.1 x.1.a0e)(hxF:x.2.1 ∉ F)(hxl:x.2.1<w.heap.size)(hF:∀ k∈F,k<w.heap.size)(hl:xs.length<=1000)(hg0:0<=given)(hg1:given<=1000):
  Calls Tryz.prog 232 #[.pointer (some ⟨d,0,none⟩),.agg (c7a x).toArray] w fun e w'=>e=.returned (e3T 0 (given+1))/\g3V w d ts (xs++[({ x.1 with id:=given+1 },x.2)]) (given+1) now F w':=by
 obtain⟨i0,hi0,hz0,hz1,hz2⟩:=info_parts e2i;have hd:d<w.heap.size:=hF d h.dF;have H:=a0b h;have HX:=a0b (zA hx (zA hxF hxl));simp only[c7a];clear h hx hxF hxl
 go_enter Tryz.func232,Tryz.ntmps232
 go_upto_region 1 with fail
 have oX:Off [] w ((w.alloc (.cells #[.int .i64 x.1.id,.int .i64 x.1.kind,.string x.1.a0k,.int .i64 x.1.a0c,.slice (some ⟨x.2.1,0,none⟩) x.1.a0e.length x.2.2,.int .i64 x.1.a0Z] 58)).alloc (.cells #[.int .i64 0,.int .i64 0,.int .i64 0,.slice none 0 0,.slice none 0 0,.slice none 0 0,.slice none 0 0] 40)):=((Off.refl _ _).alloc _).alloc _;have bX:g3P ((w.alloc (.cells #[.int .i64 x.1.id,.int .i64 x.1.kind,.string x.1.a0k,.int .i64 x.1.a0c,.slice (some ⟨x.2.1,0,none⟩) x.1.a0e.length x.2.2,.int .i64 x.1.a0Z] 58)).alloc (.cells #[.int .i64 0,.int .i64 0,.int .i64 0,.slice none 0 0,.slice none 0 0,.slice none 0 0,.slice none 0 0] 40)) w.heap.size x:=⟨by simp,by simp,by simp,by simp,by simp,by simp⟩
 have rX:((w.alloc (.cells #[.int .i64 x.1.id,.int .i64 x.1.kind,.string x.1.a0k,.int .i64 x.1.a0c,.slice (some ⟨x.2.1,0,none⟩) x.1.a0e.length x.2.2,.int .i64 x.1.a0Z] 58)).alloc (.cells #[.int .i64 0,.int .i64 0,.int .i64 0,.slice none 0 0,.slice none 0 0,.slice none 0 0,.slice none 0 0] 40)).heap[w.heap.size+1]?=some (.cells #[.int .i64 0,.int .i64 0,.int .i64 0,.slice none 0 0,.slice none 0 0,.slice none 0 0,.slice none 0 0] 40):=by
  have:=a0p (w.alloc (.cells #[.int .i64 x.1.id,.int .i64 x.1.kind,.string x.1.a0k,.int .i64 x.1.a0c,.slice (some ⟨x.2.1,0,none⟩) x.1.a0e.length x.2.2,.int .i64 x.1.a0Z] 58)) (.cells #[.int .i64 0,.int .i64 0,.int .i64 0,.slice none 0 0,.slice none 0 0,.slice none 0 0,.slice none 0 0] 40)
  rwa [World.size_alloc] at this
 have fX:((w.alloc (.cells #[.int .i64 x.1.id,.int .i64 x.1.kind,.string x.1.a0k,.int .i64 x.1.a0c,.slice (some ⟨x.2.1,0,none⟩) x.1.a0e.length x.2.2,.int .i64 x.1.a0Z] 58)).alloc (.cells #[.int .i64 0,.int .i64 0,.int .i64 0,.slice none 0 0,.slice none 0 0,.slice none 0 0,.slice none 0 0] 40)).frozen? ⟨w.heap.size,0,none⟩=false:=by
  have a:=World.frozen?_alloc_new w #[.int .i64 x.1.id,.int .i64 x.1.kind,.string x.1.a0k,.int .i64 x.1.a0c,.slice (some ⟨x.2.1,0,none⟩) x.1.a0e.length x.2.2,.int .i64 x.1.a0Z] 58 0;exact (((Off.refl [] (w.alloc (.cells #[.int .i64 x.1.id,.int .i64 x.1.kind,.string x.1.a0k,.int .i64 x.1.a0c,.slice (some ⟨x.2.1,0,none⟩) x.1.a0e.length x.2.2,.int .i64 x.1.a0Z] 58))).alloc (.cells #[.int .i64 0,.int .i64 0,.int .i64 0,.slice none 0 0,.slice none 0 0,.slice none 0 0,.slice none 0 0] 40)).frozen (by simp) (by simp)).trans a
 have OX:=a0b (zA oX (zA bX (zA rX fX)));clear oX bX rX fX;generalize (World.alloc _ (.cells #[.int .i64 0,.int .i64 0,.int .i64 0,.slice none 0 0,.slice none 0 0,.slice none 0 0,.slice none 0 0] 40))=X at OX ⊢;obtain⟨N,hN⟩:∃ N,N=w.heap.size:=⟨_,rfl⟩;rw[<- hN] at OX ⊢;have hdN:d≠N:=by omega
 have HN:=a0b hN;clear hN hd;have rd:=H.out.off OX.out.1 (by simp) (by simp);have c2:=rd.c2;have f2:=rd.fz 2;have fN:=OX.out.2.2.2;have n0:=OX.out.2.1.c0;have RDX1:=a0b rd;clear rd
 go_upto_region 3 with fail
 have hNF:N ∉ F:=fun e=>by have:=hF N e;have:=HN.out;omega
 have oY:Off F X ((X.setCell ⟨d,2,none⟩ (.int .i64 (given+1))).setCell ⟨N,0,none⟩ (.int .i64 (given+1)))\/True:=.inr trivial;have kN:Off [N] (X.setCell ⟨d,2,none⟩ (.int .i64 (given+1))) ((X.setCell ⟨d,2,none⟩ (.int .i64 (given+1))).setCell ⟨N,0,none⟩ (.int .i64 (given+1))):=Off.set0 ..;have kd:Off [d] X (X.setCell ⟨d,2,none⟩ (.int .i64 (given+1))):=Off.set0 ..
 have rdY:RD ((X.setCell ⟨d,2,none⟩ (.int .i64 (given+1))).setCell ⟨N,0,none⟩ (.int .i64 (given+1))) d ts xs (given+1) now F :=
  (RDX1.out.set2 (given+1)).off kN (fun y hy=>by simp;rintro rfl;exact hNF hy) (fun y hy=>by
   have h1:=(H.out.sp y hy).2.2;have h2:=HN.out
   simp;omega)
 have wY:Off F w ((X.setCell ⟨d,2,none⟩ (.int .i64 (given+1))).setCell ⟨N,0,none⟩ (.int .i64 (given+1))) :=
  ((OX.out.1.mono (by simp)).setCell (.inl H.out.dF) _ _).setCell (.inr (by have:=HN.out;omega)) _ _
 have bxX:=OX.out.2.1.off kd (by simp;exact fun e=>hdN e.symm)
 have bxY:g3P ((X.setCell ⟨d,2,none⟩ (.int .i64 (given+1))).setCell ⟨N,0,none⟩ (.int .i64 (given+1))) N ({ x.1 with id:=given+1 },x.2) :=
  ⟨zm _ _ _ bxX.c0,(zS _ _ _ _ (by simp)).trans bxX.c1,(zS _ _ _ _ (by simp)).trans bxX.c2,(zS _ _ _ _ (by simp)).trans bxX.c3,(zS _ _ _ _ (by simp)).trans bxX.c4,(zS _ _ _ _ (by simp)).trans bxX.c5⟩
 have hN1:N+1<X.heap.size:=by
  by_cases hx:N+1<X.heap.size
  ·exact hx
  ·have:=OX.out.2.2.1;rw[Array.getElem?_eq_none (by omega)] at this;cases this
 have rY:((X.setCell ⟨d,2,none⟩ (.int .i64 (given+1))).setCell ⟨N,0,none⟩ (.int .i64 (given+1))).heap[N+1]?=some (.cells #[.int .i64 0,.int .i64 0,.int .i64 0,.slice none 0 0,.slice none 0 0,.slice none 0 0,.slice none 0 0] 40):=by
  rw[kN.block (N+1) (zL hN1 kd.size) (by simp),kd.block (N+1) hN1 (by simp;have:=hF d H.out.dF;have:=HN.out;omega)];exact OX.out.2.2.1
 have YY:=a0b (zA rdY (zA wY (zA bxY rY)));clear oY kN kd rdY wY bxX bxY rY hN1 c2 f2 fN n0 OX RDX1;generalize (World.setCell _ ⟨N,0,none⟩ (.int .i64 (given+1)))=Y at YY ⊢;obtain⟨v,cv,ho,hvF⟩:=YY.out.1.ev;have b0:=YY.out.2.2.1.c0;have b1:=YY.out.2.2.1.c1;have b2:=YY.out.2.2.1.c2;have b3:=YY.out.2.2.1.c3;have b4:=YY.out.2.2.1.c4;have b5:=YY.out.2.2.1.c5;have f1:=YY.out.1.fz 1;have hdY:d<Y.heap.size:=World.block_lt_of_cell? _ _ cv;have hNY:N<Y.heap.size:=World.block_lt_of_cell? _ _ b0;have HOW:=a0b (zA ho hvF)
 have hdv:d ∉ v.ownBlock.toList:=by
  intro e;have:v.ownBlock=some d:=by simpa using e
  exact (hvF d this).2 rfl
 have HDV:=a0b hdv;clear ho hvF hdv;simp only at b0 b1 b2 b3 b4 b5
 go_cut [24] from 17 to 26 (fun _ wx=>∃ g cap w5,Off (v.ownBlock.toList) Y w5/\w5.ownsRow 0 58 6 (.slice (some ⟨g,0,none⟩) (xs.length+1) cap) (xs.length+1) (xs.flatMap c7a++c7a ({ x.1 with id:=given+1 },x.2))/\(v.ownBlock=some g\/Y.heap.size<=g)/\wx=w5.setCell ⟨d,1,none⟩ (.slice (some ⟨g,0,none⟩) (xs.length+1) cap))
 case first =>
  go_region_law (first
   |(refine step_append_lies _ rfl _ _ 34 rfl 0 58 i0 _ 6 72 Tryz.underlying34 hi0 hz0 hz1 hz2 rfl (by decide) v xs.length (xs.flatMap c7a) rfl (a1g HOW.out.1 (((zr _ _).alloc (zq _) _).drew)) ⟨Y.heap.size,0,none⟩ 1 1 (c7a ({ x.1 with id:=given+1 },x.2)) rfl rfl (World.news_of_block (cs:=(c7a ({ x.1 with id:=given+1 },x.2)).toArray) (a0p Y _)) (by simp[c7a,Value.oneCell']) (by omega) (by unfold maxLen;omega) (by omega) (zN _) (Y.heap.size+1) (by simp) ?_;intro g cap w1 ho1 hgrow hat hlt;have kk:Off (v.ownBlock.toList) Y w1:=Off.grown (((Off.refl _ Y).alloc _).drew) hgrow (fun k hk=>.inl (by simp[hk]));have z1:=kk.cell HDV.out cv;have z2:=(kk.frozen (o:=1) HDV.out (World.block_lt_of_cell? _ _ cv)).trans f1))
  all_goals
   go_wp2_with fail
   go_meet
   exact⟨g,cap,w1,kk,ho1,hat.imp id (fun e=>by omega),rfl⟩
 case rest =>
  obtain⟨g,cap,w5,kk,ho5,hat,rfl⟩:=hcut;have hxY:RSL Y x.2.1 x.1.a0e:=HX.out.1.off YY.out.2.1 HX.out.2.1;have hxl:x.2.1<Y.heap.size:=zL HX.out.2.2 YY.out.2.1.size;obtain⟨rz,oz⟩:=RD.a5d (x:=({ x.1 with id:=given+1 },x.2)) YY.out.1 cv HOW.out.1 HOW.out.2 kk ho5 hat hxY HX.out.2.1 hxl
  have hNd:N ∉ d :: v.ownBlock.toList:=by
   intro e;rcases List.mem_cons.1 e with e|e
   ·exact hdN e.symm
   ·exact hNF (HOW.out.2 N (by simpa using e)).1
  have hN1:N+1 ∉ d :: v.ownBlock.toList:=by
   intro e;have h2:=HN.out;rcases List.mem_cons.1 e with e|e
   ·have:=hF d H.out.dF;omega
   ·have:=hF (N+1) (HOW.out.2 (N+1) (by simpa using e)).1;omega
  have n0:=oz.cell hNd b0
  have hlt1:N+1<Y.heap.size:=by
   by_cases hx:N+1<Y.heap.size
   ·exact hx
   ·have:=YY.out.2.2.2;rw[Array.getElem?_eq_none (by omega)] at this;cases this
  have hr1:=(oz.block (N+1) hlt1 hN1).trans YY.out.2.2.2;have ZZ:=a0b (zA rz (zA oz hr1));clear rz oz hr1 kk ho5 hxY hxl b0 b1 b2 b3 b4 b5 f1 cv hdY hNY HDV;have HG:Hid (g∈g :: F):=List.mem_cons_self ..;generalize (World.setCell w5 ⟨d,1,none⟩ (.slice (some ⟨g,0,none⟩) (xs.length+1) cap))=Z at ZZ n0 ⊢;have q0:Z.cell? ⟨N+1,0,none⟩=some (.int .i64 0):=by simp[World.cell?,ZZ.out.2.2]
  have q1:Z.cell? ⟨N+1,1,none⟩=some (.int .i64 0):=by simp[World.cell?,ZZ.out.2.2]
  have q2:Z.cell? ⟨N+1,2,none⟩=some (.int .i64 0):=by simp[World.cell?,ZZ.out.2.2]
  have q3:Z.cell? ⟨N+1,3,none⟩=some (.slice none 0 0):=by simp[World.cell?,ZZ.out.2.2]
  have q4:Z.cell? ⟨N+1,4,none⟩=some (.slice none 0 0):=by simp[World.cell?,ZZ.out.2.2]
  have q5:Z.cell? ⟨N+1,5,none⟩=some (.slice none 0 0):=by simp[World.cell?,ZZ.out.2.2]
  have q6:Z.cell? ⟨N+1,6,none⟩=some (.slice none 0 0):=by simp[World.cell?,ZZ.out.2.2]
  have fq:∀ o,Z.frozen? ⟨N+1,o,none⟩=false:=fun o=>by simp[World.frozen?,ZZ.out.2.2]
  have hfin:Off [N+1] Z (((((((Z.setCell ⟨N+1,0,none⟩ (.int .i64 0)).setCell ⟨N+1,1,none⟩ (.int .i64 0)).setCell ⟨N+1,2,none⟩ (.int .i64 (given+1))).setCell ⟨N+1,3,none⟩ (.slice none 0 0)).setCell ⟨N+1,4,none⟩ (.slice none 0 0)).setCell ⟨N+1,5,none⟩ (.slice none 0 0)).setCell ⟨N+1,6,none⟩ (.slice none 0 0)) :=
   (((((((Off.refl [N+1] Z).setCell (.inl (by simp)) _ _).setCell (.inl (by simp)) _ _).setCell (.inl (by simp)) _ _).setCell (.inl (by simp)) _ _).setCell (.inl (by simp)) _ _).setCell (.inl (by simp)) _ _).setCell (.inl (by simp)) _ _
  have hgF:∀ k∈g :: F,k∈F\/w.heap.size<=k:=by
   intro k hk;rcases List.mem_cons.1 hk with rfl|hk
   ·rcases hat with e|e
    ·exact .inl (HOW.out.2 k e).1
    ·have:=YY.out.2.1.size;exact .inr (by omega)
   ·exact .inl hk
  have hFIN:Hid (g3V w d ts (xs++[({ x.1 with id:=given+1 },x.2)]) (given+1) now F (((((((Z.setCell ⟨N+1,0,none⟩ (.int .i64 0)).setCell ⟨N+1,1,none⟩ (.int .i64 0)).setCell ⟨N+1,2,none⟩ (.int .i64 (given+1))).setCell ⟨N+1,3,none⟩ (.slice none 0 0)).setCell ⟨N+1,4,none⟩ (.slice none 0 0)).setCell ⟨N+1,5,none⟩ (.slice none 0 0)).setCell ⟨N+1,6,none⟩ (.slice none 0 0))):=by
   have hNw:=HN.out;refine⟨g :: F,ZZ.out.1.off hfin (fun y hy=>?_) (fun y hy=>?_),hgF,?_⟩
   ·simp;rintro rfl;rcases List.mem_cons.1 hy with e|e
    ·rcases hat with e2|e2
     ·have:=hF g (HOW.out.2 g e2).1;omega
     ·omega
    ·have:=hF _ e;omega
   ·simp;intro e;rcases List.mem_append.1 hy with hy|hy
    ·have:=(H.out.sp y hy).2.2;omega
    ·have:y=({ x.1 with id:=given+1 },x.2):=by simpa using hy
     subst this;have:=HX.out.2.2;have e':x.2.1=N+1:=e;omega
   ·refine (YY.out.2.1.trans' ZZ.out.2.1 (fun k hk=>?_)).trans' hfin (fun k hk=>by simp at hk;exact .inr (by omega));rcases List.mem_cons.1 hk with rfl|hk
    ·exact .inl H.out.dF
    ·exact .inl (HOW.out.2 k (by simpa using hk)).1
  clear hfin hgF HG ZZ HOW YY H HX
  go_wp2_with fail
  exact bodyPost_ret (v:=e3T 0 (given+1)) (by simp[results,Tryz.results232,go_sem,e3T,q0,q1,q2,q3,q4,q5,q6]) rfl ⟨rfl,hFIN.out⟩
open Desk (Ent St Mid a0h a1e a0S)
structure EB(e:Ent):Prop where
 u0:1<=e.a0c
 u1:e.a0c<=9
 sl:e.a0e.length<=40
 s0:e.a0e≠[]
 so:∀ s∈e.a0e,0<=s.2/\s.2<=2000000
theorem EB.small{e:Ent}(h:EB e):Desk.Small e:=⟨by have:=h.u0;omega,h.u1,by have:=h.sl;omega⟩
theorem EB.book{e:Ent}(h:EB e):EB (Desk.a0Q e):=⟨h.u0,h.u1,h.sl,h.s0,h.so⟩
structure DD(w:World)(d:Nat)(s:St)(xs:List (Ent × Nat × Nat))(F:List Nat):Prop where
 rd:RD w d s.ts xs s.given s.now F
 es:xs.map (·.1)=s.es
 lt:∀ k∈F,k<w.heap.size
 tl:s.ts.length<=4
 el:s.es.length<=60
 en:∀ e∈s.es,EB e
variable {w w':World}{d:Nat}{s:St}{xs:List (Ent × Nat × Nat)}{F:List Nat}
theorem DD.len(h:DD w d s xs F):xs.length=s.es.length:=by rw[<- h.es,List.length_map]
theorem DD.off(h:DD w d s xs F)(k:Off G w w')(hF:∀ x∈F,x ∉ G)(hS:∀ x∈xs,x.2.1 ∉ G):DD w' d s xs F :=
 ⟨h.rd.off k hF hS,h.es,fun x hx=>zL (h.lt x hx) k.size,h.tl,h.el,h.en⟩
theorem DD.later(h:DD w d s xs F)(k:Below w.heap.size w w'):DD w' d s xs F:=h.off (G:=[]) (Off.of_below k) (by simp) (by simp)
theorem DD.de(h:DD w d s xs F):∃ a cap E,RDE w d a cap E s.es:=by
 obtain⟨a,cap,E,k⟩:=h.rd.dx;exact⟨a,cap,E,h.es ▸ k.de⟩
theorem DD.small(h:DD w d s xs F):∀ e∈s.es,Desk.Small e:=fun e he=>(h.en e he).small
theorem DD.a0c(h:DD w d s xs F)(name:ByteArray):
  Calls Tryz.prog 229 #[.pointer (some ⟨d,0,none⟩),.string name] w fun e w'=>e=.returned (.int .i64 (a0h name s.ts))/\w'=w:=by
 obtain⟨a,c,G,ht⟩:=h.rd.dt;exact d7R d a c G s.ts name w ht (by have:=h.tl;omega)
theorem DD.asked(h:DD w d s xs F)(name:ByteArray)(u:Int):
  Calls Tryz.prog 230 #[.pointer (some ⟨d,0,none⟩),.string name,.int .i64 u] w fun e w'=>e=.returned (.int .i64 (a0S s.ts name u))/\w'=w:=by
 obtain⟨a,c,G,ht⟩:=h.rd.dt;exact f1o d a c G s.ts name u w ht (by have:=h.tl;omega)
theorem DD.fits(h:DD w d s xs F)(name:ByteArray){u:Int}{cb:Nat}{L:List (Int × Int)}(hL:RSL w B L)(hl:L.length<=100)(h0:0<=u)(h1:u<=9):
  Calls Tryz.prog 182 #[.pointer (some ⟨d,0,none⟩),.string name,.int .i64 u,.slice (some ⟨B,0,none⟩) L.length cb] w fun e w'=>e=.returned (.bool (a1e s.ts s.es name u L))/\Below w.heap.size w w':=by
 obtain⟨a,c,G,ht⟩:=h.rd.dt;obtain⟨b,q,E,he⟩:=h.de;exact f0u d b q E s.es a c G s.ts name u B cb L w he ht hL (by have:=h.el;omega) (by have:=h.tl;omega) h.small hl h0 h1
theorem DD.peak(h:DD w d s xs F)(name:ByteArray)(fr til:Int):
  Calls Tryz.prog 236 #[.pointer (some ⟨d,0,none⟩),.string name,.int .i64 fr,.int .i64 til] w fun e w'=>e=.returned (.int .i64 (Desk.a1Q name s.es fr til))/\Below w.heap.size w w':=by
 obtain⟨b,q,E,he⟩:=h.de;exact f9U d b q E s.es name fr til w he (by have:=h.el;omega) h.small
theorem DD.find(h:DD w d s xs F)(name:ByteArray)(u long fr til:Int)(hu0:0<=u)(hu1:u<=9)(hl0:0<=long)(hl1:long<=2000000)(hf0:0<=fr)(hf1:fr<=2000000):
  Calls Tryz.prog 237 #[.pointer (some ⟨d,0,none⟩),.string name,.int .i64 u,.int .i64 long,.int .i64 fr,.int .i64 til] w fun e w'=>e=.returned (.int .i64 (Desk.a9A s.ts s.es name u long fr til))/\Below w.heap.size w w':=by
 obtain⟨a,c,G,ht⟩:=h.rd.dt;obtain⟨b,q,E,he⟩:=h.de;exact f9W d b q E s.es a c G s.ts name u long fr til w he ht (by have:=h.el;omega) (by have:=h.tl;omega) h.small (fun e h1=>(h.en e h1).so) hu0 hu1 hl0 hl1 hf0 hf1
theorem DD.place(h:DD w d s xs F)(id:Int):
  Calls Tryz.prog 233 #[.pointer (some ⟨d,0,none⟩),.int .i64 id] w fun e w'=>e=.returned (.int .i64 (Desk.d0u id s.es 0))/\w'=w:=by
 obtain⟨b,q,E,he⟩:=h.de;exact f4h d b q E s.es id w he (by have:=h.el;omega)
theorem DD.waiting(h:DD w d s xs F):
  Calls Tryz.prog 231 #[.pointer (some ⟨d,0,none⟩)] w fun e w'=>e=.returned (.int .i64 (Desk.a1Y s.es))/\w'=w:=by
 obtain⟨b,q,E,he⟩:=h.de;exact e5Y d b q E s.es w he (by have:=h.el;omega)
theorem DD.without(h:DD w d s xs F)(id:Int):
  Calls Tryz.prog 234 #[.pointer (some ⟨d,0,none⟩),.int .i64 id] w fun e w'=>∃ v,e=.returned v/\w'.ownsRow w.heap.size 58 6 v (d2z id xs).length ((d2z id xs).flatMap c7a)/\Below w.heap.size w w':=by
 obtain⟨a,c,E,k⟩:=h.rd.dx;exact e5V d a c E xs id w k (by have:=h.el;have:=h.len;omega)
structure ER(w:World)(d E cap:Nat)(a:Option Addr)(xs:List (Ent × Nat × Nat)):Prop where
 c:w.cell? ⟨d,1,none⟩=some (.slice a xs.length cap)
 a:∀ i,i<xs.length->a=some ⟨E,0,none⟩
 r:∀ (i:Nat) (h:i<xs.length),RE w E i xs[i].1 xs[i].2.1 xs[i].2.2
 f:∀ o,0<xs.length->w.frozen? ⟨E,o,none⟩=false
theorem DD.er(h:DD w d s xs F):∃ a cap E,ER w d E cap a xs:=by
 obtain⟨v,c,ho,_⟩:=h.rd.ev;obtain⟨a,cap,g,rfl,hn,ha,hr⟩:=e1F ho (fun x hx=>(h.rd.sp x hx).1);refine⟨a,cap,g,c,fun i hi=>ha (by intro e;simp[e] at hi),hr,fun o hl=>?_⟩;obtain rfl:=ha (by intro e;simp[e] at hl);rcases ho.2 with ⟨hv,_⟩|⟨g',cp,cur,hv,_,hh,_⟩
 ·cases hv
 ·simp only[Value.slice.injEq,Option.some.injEq,Addr.mk.injEq] at hv;obtain⟨⟨rfl,_⟩,_⟩:=hv;simp[World.frozen?,hh]
theorem ER.later{E cap:Nat}{a:Option Addr}(h:ER w d E cap a xs)(k:Below w.heap.size w w'):ER w' d E cap a xs :=
 ⟨a0a k h.c,h.a,fun i hi=>(h.r i hi).later k,fun o hl=>((Off.of_below (F:=[]) k).frozen (by simp) (World.block_lt_of_cell? _ _ (h.r 0 hl).c0)).trans (h.f o hl)⟩
theorem c9y{e size:Nat}{l:List Value}(h:w.ownsRow B e size v n l):∃ a cap,v=.slice a n cap:=by
 rcases h.2 with ⟨rfl,rfl⟩|⟨g,cap,_,rfl,_⟩
 ·exact⟨none,0,rfl⟩
 ·exact⟨_,cap,rfl⟩
theorem g3H{ops:Array Oper}{rest:List Oper}{o:Oper}{a:Act}{Q:Exit->Act->World->Prop}(hgd:o.guard=none)(x y:Operand)(ho:o.op=.call { callee:=.builtin .append,args:=#[x,y],argTypes:=#[38,38] }){l:List Int}(hown:W.ownsRow B 3 1 v l.length (l.map (Value.int .i64)))(z:Int){ty:TypeId}{mk:Nat × Nat}(hs:a.eval x=v)(hx:a.eval y=.slice (some ⟨W.heap.size,0,none⟩) 1 1)(hl:l.length<=1000000)(hB:B<=W.heap.size)
  (h:∀ v' w',w'.ownsRow B 3 1 v' (l++[z]).length ((l++[z]).map (Value.int .i64))->Off v.ownBlock.toList W w'->wpList Tryz.prog ops Q rest (a.put o.dst v') w'):
  wpList Tryz.prog ops Q (o :: rest) a (W.alloc (.cells #[.int .i64 z] ty mk)):=by
 obtain⟨i0,hi0,hz0,hz1,hz2⟩:=info_parts b1S;refine wpList_append_own _ hgd x y 38 ho B 3 i0 (.int .i64 0) 1 8 Tryz.underlying38 hi0 hz0 hz1 hz2 rfl (by decide) v l.length (l.map (Value.int .i64)) hs (hown.alloc _) ⟨W.heap.size,0,none⟩ 1 1 [.int .i64 z] hx rfl (World.news_of_block (cs:=#[.int .i64 z]) (a0p W _)) (by simp[Value.oneCell']) (by unfold maxLen;omega) (by omega) (by simp;omega) ?_;intro v' w' h1 h2 _;refine h v' w' (by simpa using h1) (((Off.refl _ W).alloc _).grown h2 (fun k hk=>.inl (by simp[hk])))
end Go.Proofs.YtfigmlfdnickmaaGreatDoor
