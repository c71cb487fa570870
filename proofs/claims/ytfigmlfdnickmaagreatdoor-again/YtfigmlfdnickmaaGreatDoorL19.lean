import Derived.Test.YtfigmlfdnickmaaGreatDoorL18
import Derived.RegionTactic
set_option maxRecDepth 100000
set_option maxHeartbeats 8000000
variable{nm s t:ByteArray}{a fr til u:Int}{l:List (Go.Proofs.YtfigmlfdnickmaaGreatDoor.Desk.Ent × Go.Value)}{L:List (Int × Int)}{A B F R b d dk i n p:Nat}{col col':Nat->Option Go.Proofs.YtfigmlfdnickmaaGreatDoor.Col}{o:Go.Obj}{r:Go.Proofs.YtfigmlfdnickmaaGreatDoor.Raw}{v:Go.Value}{W W' w w' w0:Go.World}
namespace Go.Proofs.YtfigmlfdnickmaaGreatDoor
open Go.RowKit
theorem f2W(ev:Int)(acc:List Int)(fr mn mi ti un:Int)(w:World)(he:Env w)(e0:0<=ev)(e1:ev<=9999999):
  Calls Tryz.prog 338 #[b9E 1 ev acc fr mn mi ti un] w fun e w'=>WR w w' [b0Y,Txt.a0x ev] e:=by
 simp only[b9E]
 go_enter Tryz.func338,Tryz.ntmps338
 go_wp2_with fail
 obtain⟨X,hX⟩:∃ X,X=w.alloc (.cells #[.int .i64 1,.int .i64 ev,.bool (isd acc 0),.bool (isd acc 1),.bool (isd acc 2),.bool (isd acc 3),.bool (isd acc 4),.bool (isd acc 5),.bool (isd acc 6),.int .i64 fr,.int .i64 mn,.int .i64 mi,.int .i64 ti,.int .i64 un] 162):=⟨_,rfl⟩;rw[<- hX];have hbX:Below w.heap.size w X:=by rw[hX];exact (zr _ _).alloc (zq _) _
 have eX:=he.later hbX;clear hX he;refine (d0r ev X eX (by omega) (by omega)).mono ?_;rintro e w4 ⟨rfl,hbf⟩;have hb4:=c8d hbX hbf;have hs4:=hb4.size;go_wp2;go_ret;exact⟨_,rfl,d1j w _ [b0Y,Txt.a0x ev] w4.heap.size hs4 (heap_alloc_new w4 _) (show 2<=160 by omega),c8d hb4 ((zr _ _).alloc (zq _) _)⟩
theorem e6e(ev:Int)(acc:List Int)(fr mn mi ti un:Int)(w:World)(he:Env w)(e0:0<=ev)(e1:ev<=9999999):
  Calls Tryz.prog 338 #[b9E 3 ev acc fr mn mi ti un] w fun e w'=>WR w w' [a8w,Txt.a0x ev] e:=by
 simp only[b9E]
 go_enter Tryz.func338,Tryz.ntmps338
 go_wp2_with fail
 obtain⟨X,hX⟩:∃ X,X=w.alloc (.cells #[.int .i64 3,.int .i64 ev,.bool (isd acc 0),.bool (isd acc 1),.bool (isd acc 2),.bool (isd acc 3),.bool (isd acc 4),.bool (isd acc 5),.bool (isd acc 6),.int .i64 fr,.int .i64 mn,.int .i64 mi,.int .i64 ti,.int .i64 un] 162):=⟨_,rfl⟩;rw[<- hX];have hbX:Below w.heap.size w X:=by rw[hX];exact (zr _ _).alloc (zq _) _
 have eX:=he.later hbX;clear hX he;refine (d0r ev X eX (by omega) (by omega)).mono ?_;rintro e w4 ⟨rfl,hbf⟩;have hb4:=c8d hbX hbf;have hs4:=hb4.size;go_wp2;go_ret;exact⟨_,rfl,d1j w _ [a8w,Txt.a0x ev] w4.heap.size hs4 (heap_alloc_new w4 _) (show 2<=160 by omega),c8d hb4 ((zr _ _).alloc (zq _) _)⟩
theorem f0E(ev:Int)(acc:List Int)(fr mn mi ti un:Int)(w:World)(he:Env w)(e0:0<=ev)(e1:ev<=9999999)(hne:onL acc 7≠[])(hlen:(Lib.join ((onL acc 7).map (·.data.toList)) [44]).length<=160):
  Calls Tryz.prog 338 #[b9E 2 ev acc fr mn mi ti un] w fun e w'=>WR w w' [a8D,Txt.a0x ev,onJ acc] e:=by
 have HNE:=hide hne;have HLEN:=hide hlen;clear hne hlen;simp only[b9E]
 go_enter Tryz.func338,Tryz.ntmps338
 go_wp2_with fail
 obtain⟨X,hX⟩:∃ X,X=w.alloc (.cells #[.int .i64 2,.int .i64 ev,.bool (isd acc 0),.bool (isd acc 1),.bool (isd acc 2),.bool (isd acc 3),.bool (isd acc 4),.bool (isd acc 5),.bool (isd acc 6),.int .i64 fr,.int .i64 mn,.int .i64 mi,.int .i64 ti,.int .i64 un] 162):=⟨_,rfl⟩;rw[<- hX];have hbX:Below w.heap.size w X:=by rw[hX];exact (zr _ _).alloc (zq _) _
 have eX:=he.later hbX;have hXs:w.heap.size+1<=X.heap.size:=by rw[hX];simp
 have hXs10:10<=w.heap.size+1:=by have:=he.size;omega
 have x0:X.cell? ⟨w.heap.size,0,none⟩=some (.int .i64 2):=by rw[hX];simp
 have x1:X.cell? ⟨w.heap.size,1,none⟩=some (.int .i64 ev):=by rw[hX];simp
 have x2:X.cell? ⟨w.heap.size,2,none⟩=some (.bool (isd acc 0)):=by rw[hX];simp
 have x3:X.cell? ⟨w.heap.size,3,none⟩=some (.bool (isd acc 1)):=by rw[hX];simp
 have x4:X.cell? ⟨w.heap.size,4,none⟩=some (.bool (isd acc 2)):=by rw[hX];simp
 have x5:X.cell? ⟨w.heap.size,5,none⟩=some (.bool (isd acc 3)):=by rw[hX];simp
 have x6:X.cell? ⟨w.heap.size,6,none⟩=some (.bool (isd acc 4)):=by rw[hX];simp
 have x7:X.cell? ⟨w.heap.size,7,none⟩=some (.bool (isd acc 5)):=by rw[hX];simp
 have x8:X.cell? ⟨w.heap.size,8,none⟩=some (.bool (isd acc 6)):=by rw[hX];simp
 have x9:X.cell? ⟨w.heap.size,9,none⟩=some (.int .i64 fr):=by rw[hX];simp
 have x10:X.cell? ⟨w.heap.size,10,none⟩=some (.int .i64 mn):=by rw[hX];simp
 have x11:X.cell? ⟨w.heap.size,11,none⟩=some (.int .i64 mi):=by rw[hX];simp
 have x12:X.cell? ⟨w.heap.size,12,none⟩=some (.int .i64 ti):=by rw[hX];simp
 have x13:X.cell? ⟨w.heap.size,13,none⟩=some (.int .i64 un):=by rw[hX];simp
 have bX:=zr (w.heap.size+1) X;clear hX he;have hZ2:w.heap.size+1<=X.heap.size:=hXs
 go_region_held3 (fun w'=>Below (w.heap.size+1) X w'/\w'.cell? ⟨w.heap.size,0,none⟩=some (.int .i64 2)/\w'.cell? ⟨w.heap.size,1,none⟩=some (.int .i64 ev)/\w'.cell? ⟨w.heap.size,2,none⟩=some (.bool (isd acc 0))/\w'.cell? ⟨w.heap.size,3,none⟩=some (.bool (isd acc 1))/\w'.cell? ⟨w.heap.size,4,none⟩=some (.bool (isd acc 2))/\w'.cell? ⟨w.heap.size,5,none⟩=some (.bool (isd acc 3))/\w'.cell? ⟨w.heap.size,6,none⟩=some (.bool (isd acc 4))/\w'.cell? ⟨w.heap.size,7,none⟩=some (.bool (isd acc 5))/\w'.cell? ⟨w.heap.size,8,none⟩=some (.bool (isd acc 6))/\w'.cell? ⟨w.heap.size,9,none⟩=some (.int .i64 fr)/\w'.cell? ⟨w.heap.size,10,none⟩=some (.int .i64 mn)/\w'.cell? ⟨w.heap.size,11,none⟩=some (.int .i64 mi)/\w'.cell? ⟨w.heap.size,12,none⟩=some (.int .i64 ti)/\w'.cell? ⟨w.heap.size,13,none⟩=some (.int .i64 un))
  (first
   |(go_split_ands;exact d6L (c8V hXs (by assumption) hbf) (fun hk=>⟨(hk.cell (p:=⟨w.heap.size,0,none⟩) (by simp)).trans x0,(hk.cell (p:=⟨w.heap.size,1,none⟩) (by simp)).trans x1,(hk.cell (p:=⟨w.heap.size,2,none⟩) (by simp)).trans x2,(hk.cell (p:=⟨w.heap.size,3,none⟩) (by simp)).trans x3,(hk.cell (p:=⟨w.heap.size,4,none⟩) (by simp)).trans x4,(hk.cell (p:=⟨w.heap.size,5,none⟩) (by simp)).trans x5,(hk.cell (p:=⟨w.heap.size,6,none⟩) (by simp)).trans x6,(hk.cell (p:=⟨w.heap.size,7,none⟩) (by simp)).trans x7,(hk.cell (p:=⟨w.heap.size,8,none⟩) (by simp)).trans x8,(hk.cell (p:=⟨w.heap.size,9,none⟩) (by simp)).trans x9,(hk.cell (p:=⟨w.heap.size,10,none⟩) (by simp)).trans x10,(hk.cell (p:=⟨w.heap.size,11,none⟩) (by simp)).trans x11,(hk.cell (p:=⟨w.heap.size,12,none⟩) (by simp)).trans x12,(hk.cell (p:=⟨w.heap.size,13,none⟩) (by simp)).trans x13⟩))
   |(go_split_ands;exact d6L (c8V hXs (by assumption) ((zr _ _).alloc (zq _) _)) (fun hk=>⟨(hk.cell (p:=⟨w.heap.size,0,none⟩) (by simp)).trans x0,(hk.cell (p:=⟨w.heap.size,1,none⟩) (by simp)).trans x1,(hk.cell (p:=⟨w.heap.size,2,none⟩) (by simp)).trans x2,(hk.cell (p:=⟨w.heap.size,3,none⟩) (by simp)).trans x3,(hk.cell (p:=⟨w.heap.size,4,none⟩) (by simp)).trans x4,(hk.cell (p:=⟨w.heap.size,5,none⟩) (by simp)).trans x5,(hk.cell (p:=⟨w.heap.size,6,none⟩) (by simp)).trans x6,(hk.cell (p:=⟨w.heap.size,7,none⟩) (by simp)).trans x7,(hk.cell (p:=⟨w.heap.size,8,none⟩) (by simp)).trans x8,(hk.cell (p:=⟨w.heap.size,9,none⟩) (by simp)).trans x9,(hk.cell (p:=⟨w.heap.size,10,none⟩) (by simp)).trans x10,(hk.cell (p:=⟨w.heap.size,11,none⟩) (by simp)).trans x11,(hk.cell (p:=⟨w.heap.size,12,none⟩) (by simp)).trans x12,(hk.cell (p:=⟨w.heap.size,13,none⟩) (by simp)).trans x13⟩))
   |(go_split_ands;exact d6L (c8V hXs (by assumption) (c7Y _)) (fun hk=>⟨(hk.cell (p:=⟨w.heap.size,0,none⟩) (by simp)).trans x0,(hk.cell (p:=⟨w.heap.size,1,none⟩) (by simp)).trans x1,(hk.cell (p:=⟨w.heap.size,2,none⟩) (by simp)).trans x2,(hk.cell (p:=⟨w.heap.size,3,none⟩) (by simp)).trans x3,(hk.cell (p:=⟨w.heap.size,4,none⟩) (by simp)).trans x4,(hk.cell (p:=⟨w.heap.size,5,none⟩) (by simp)).trans x5,(hk.cell (p:=⟨w.heap.size,6,none⟩) (by simp)).trans x6,(hk.cell (p:=⟨w.heap.size,7,none⟩) (by simp)).trans x7,(hk.cell (p:=⟨w.heap.size,8,none⟩) (by simp)).trans x8,(hk.cell (p:=⟨w.heap.size,9,none⟩) (by simp)).trans x9,(hk.cell (p:=⟨w.heap.size,10,none⟩) (by simp)).trans x10,(hk.cell (p:=⟨w.heap.size,11,none⟩) (by simp)).trans x11,(hk.cell (p:=⟨w.heap.size,12,none⟩) (by simp)).trans x12,(hk.cell (p:=⟨w.heap.size,13,none⟩) (by simp)).trans x13⟩))
   |(go_split_ands;exact d6L (Below.grown (by assumption) hgrow (by simp;omega) (fun k hk=>d0U hoN hk)) (fun hk=>⟨(hk.cell (p:=⟨w.heap.size,0,none⟩) (by simp)).trans x0,(hk.cell (p:=⟨w.heap.size,1,none⟩) (by simp)).trans x1,(hk.cell (p:=⟨w.heap.size,2,none⟩) (by simp)).trans x2,(hk.cell (p:=⟨w.heap.size,3,none⟩) (by simp)).trans x3,(hk.cell (p:=⟨w.heap.size,4,none⟩) (by simp)).trans x4,(hk.cell (p:=⟨w.heap.size,5,none⟩) (by simp)).trans x5,(hk.cell (p:=⟨w.heap.size,6,none⟩) (by simp)).trans x6,(hk.cell (p:=⟨w.heap.size,7,none⟩) (by simp)).trans x7,(hk.cell (p:=⟨w.heap.size,8,none⟩) (by simp)).trans x8,(hk.cell (p:=⟨w.heap.size,9,none⟩) (by simp)).trans x9,(hk.cell (p:=⟨w.heap.size,10,none⟩) (by simp)).trans x10,(hk.cell (p:=⟨w.heap.size,11,none⟩) (by simp)).trans x11,(hk.cell (p:=⟨w.heap.size,12,none⟩) (by simp)).trans x12,(hk.cell (p:=⟨w.heap.size,13,none⟩) (by simp)).trans x13⟩)))
  (first
   |(
    go_at_call 327
    go_split_ands
    refine (d0r _ _ (eX.of10 hXs10 (by assumption)) (by omega) (by omega)).mono ?_
    rintro e w4 ⟨rfl,hbf⟩)
   |(
    go_at_call 339
    go_split_ands
    refine (f0F acc _ (eX.of10 hXs10 (by assumption)) (a0d HNE) (a0d HLEN)).mono ?_;rintro e w5 ⟨rfl,hbf⟩
    have hs5:=d1E (B:=w.heap.size+1) (x:=X) (by assumption) hbf))
 go_split_ands
 have hbE:Below (w.heap.size+1) X (w5.alloc (.cells #[.string ⟨#[119,101,101,107,108,121]⟩,.string (Txt.a0x ev),.string (onJ acc)] 9)):=by assumption
 have HBE:=hide hbE;have hs6:w.heap.size<=w5.heap.size:=by omega
 clear hbE;go_wp2;go_ret;exact⟨_,rfl,d1j w _ [a8D,Txt.a0x ev,onJ acc] w5.heap.size hs6 (heap_alloc_new w5 _) (show 3<=160 by omega),hbX.trans (HBE.out.mono (by omega))⟩
def e7C(fr mn mi:Int):List ByteArray:=[a1t,d0L fr,atW,d8f mn,b3z,Txt.a0x mi]
inductive PaW:Int->Int->List Int->List ByteArray->Prop where
 |daily (ev:Int) (acc:List Int) (e0:0<=ev) (e1:ev<=9999999):PaW 1 ev acc [b0Y,Txt.a0x ev]
 |weekly (ev:Int) (acc:List Int) (e0:0<=ev) (e1:ev<=9999999) (hne:onL acc 7≠[]) (hlen:(Lib.join ((onL acc 7).map (·.data.toList)) [44]).length<=160):PaW 2 ev acc [a8D,Txt.a0x ev,onJ acc]
 |monthly (ev:Int) (acc:List Int) (e0:0<=ev) (e1:ev<=9999999):PaW 3 ev acc [a8w,Txt.a0x ev]
inductive EnW:Int->Int->List ByteArray->Prop where
 |times (ti un:Int) (t0:0<ti) (t1:ti<=9999999):EnW ti un [b2z,Txt.a0x ti]
 |til (un:Int) (u0:0<=un) (u1:un<=728):EnW 0 un [b5O,d0L un]
inductive RW:Int->Int->List Int->Int->Int->Int->Int->Int->List ByteArray->Prop where
 |mk (pc ev:Int) (acc:List Int) (fr mn mi ti un:Int) (ps es:List ByteArray) (hp:PaW pc ev acc ps) (he:EnW ti un es) (f0:0<=fr) (f1:fr<=728) (m0:0<=mn) (m1:mn<1440) (i0:0<=mi) (i1:mi<=9999999):RW pc ev acc fr mn mi ti un (ps++e7C fr mn mi++es)
inductive PW:Value->List ByteArray->Prop where
 |a0k (n:ByteArray) (u:Int) (u0:0<=u) (u1:u<=9999999):PW (.iface 149 (.agg #[.string n,.int .i64 u])) [a3F,n,Txt.a0x u]
 |book (n:ByteArray) (u a b:Int) (u0:0<=u) (u1:u<=9999999) (a0:0<=a) (a1:a<=1048320) (b0:0<=b) (b1:b<=1048320):PW (.iface 154 (.agg #[.string n,.int .i64 u,.int .i64 a,.int .i64 b])) [a9P,n,Txt.a0x u,c8H a,c8H b]
 |hold (n:ByteArray) (u a b m:Int) (u0:0<=u) (u1:u<=9999999) (a0:0<=a) (a1:a<=1048320) (b0:0<=b) (b1:b<=1048320) (m0:0<=m) (m1:m<=9999999):PW (.iface 156 (.agg #[.string n,.int .i64 u,.int .i64 a,.int .i64 b,.int .i64 m])) [b5f,n,Txt.a0x u,c8H a,c8H b,Txt.a0x m]
 |wait (n:ByteArray) (u a b m:Int) (u0:0<=u) (u1:u<=9999999) (a0:0<=a) (a1:a<=1048320) (b0:0<=b) (b1:b<=1048320) (m0:0<=m) (m1:m<=9999999):PW (.iface 157 (.agg #[.string n,.int .i64 u,.int .i64 a,.int .i64 b,.int .i64 m])) [b4k,n,Txt.a0x u,c8H a,c8H b,Txt.a0x m]
 |series (n:ByteArray) (u pc ev:Int) (acc:List Int) (fr mn mi ti un:Int) (xs:List ByteArray) (u0:0<=u) (u1:u<=9999999) (hr:RW pc ev acc fr mn mi ti un xs):PW (.iface 165 (.agg #[.string n,.int .i64 u,.int .i64 pc,.int .i64 ev,.bool (isd acc 0),.bool (isd acc 1),.bool (isd acc 2),.bool (isd acc 3),.bool (isd acc 4),.bool (isd acc 5),.bool (isd acc 6),.int .i64 fr,.int .i64 mn,.int .i64 mi,.int .i64 ti,.int .i64 un])) ([a7l,n,Txt.a0x u]++xs)
 |confirm (u:Int) (u0:0<=u) (u1:u<=9999999):PW (.iface 167 (.agg #[.int .i64 u])) [a4z,Txt.a0x u]
 |cancel (u:Int) (u0:0<=u) (u1:u<=9999999):PW (.iface 168 (.agg #[.int .i64 u])) [a6m,Txt.a0x u]
 |list0 (n:ByteArray) (a b:Int):PW (.iface 170 (.agg #[.string n,.bool false,.int .i64 a,.int .i64 b])) [a5Q,n]
 |list1 (n:ByteArray) (a b:Int) (a0:0<=a) (a1:a<=1048320) (b0:0<=b) (b1:b<=1048320):PW (.iface 170 (.agg #[.string n,.bool true,.int .i64 a,.int .i64 b])) [a5Q,n,c8H a,c8H b]
 |waiting:PW (.iface 173 (.agg #[])) [a5q]
 |peak (n:ByteArray) (a b:Int) (a0:0<=a) (a1:a<=1048320) (b0:0<=b) (b1:b<=1048320):PW (.iface 176 (.agg #[.string n,.int .i64 a,.int .i64 b])) [a9a,n,c8H a,c8H b]
 |find (n:ByteArray) (u m a b:Int) (u0:0<=u) (u1:u<=9999999) (m0:0<=m) (m1:m<=9999999) (a0:0<=a) (a1:a<=1048320) (b0:0<=b) (b1:b<=1048320):PW (.iface 178 (.agg #[.string n,.int .i64 u,.int .i64 m,.int .i64 a,.int .i64 b])) [b5h,n,Txt.a0x u,Txt.a0x m,c8H a,c8H b]
 |expand (pc ev:Int) (acc:List Int) (fr mn mi ti un:Int) (xs:List ByteArray) (hr:RW pc ev acc fr mn mi ti un xs):PW (.iface 180 (.agg #[.int .i64 pc,.int .i64 ev,.bool (isd acc 0),.bool (isd acc 1),.bool (isd acc 2),.bool (isd acc 3),.bool (isd acc 4),.bool (isd acc 5),.bool (isd acc 6),.int .i64 fr,.int .i64 mn,.int .i64 mi,.int .i64 ti,.int .i64 un])) ([a7M]++xs)
 |tick (u:Int) (u0:0<=u) (u1:u<=9999999):PW (.iface 182 (.agg #[.int .i64 u])) [b4n,Txt.a0x u]
 |clock:PW (.iface 183 (.agg #[])) [b1c]
def jn(xs:List ByteArray):ByteArray:=⟨(Lib.join (xs.map (·.data.toList)) [32]).toArray⟩
def d9U(d:Nat):Bool:=Txt.a5j (d0L d) && decide (Txt.a2o (d0L d)=d) && decide ((d0L d).size=10) && Txt.a3V (d0L d).data.toList
def f5v(m:Nat):Bool:=Txt.a3a (d8f m) && decide (Txt.a6J (d8f m)=m) && decide ((d8f m).size=5) && Txt.a3V (d8f m).data.toList
theorem g0q:((List.range 81).all fun d=>d9U (d+0))=true:=by decide +kernel
theorem g0p:((List.range 81).all fun d=>d9U (d+81))=true:=by decide +kernel
theorem g0o:((List.range 81).all fun d=>d9U (d+162))=true:=by decide +kernel
theorem g0n:((List.range 81).all fun d=>d9U (d+243))=true:=by decide +kernel
theorem g0m:((List.range 81).all fun d=>d9U (d+324))=true:=by decide +kernel
theorem g0l:((List.range 81).all fun d=>d9U (d+405))=true:=by decide +kernel
theorem g0k:((List.range 81).all fun d=>d9U (d+486))=true:=by decide +kernel
theorem g0j:((List.range 81).all fun d=>d9U (d+567))=true:=by decide +kernel
theorem g0i:((List.range 81).all fun d=>d9U (d+648))=true:=by decide +kernel
theorem g1t:((List.range 180).all fun d=>f5v (d+0))=true:=by decide +kernel
theorem g1s:((List.range 180).all fun d=>f5v (d+180))=true:=by decide +kernel
theorem g1r:((List.range 180).all fun d=>f5v (d+360))=true:=by decide +kernel
theorem g1q:((List.range 180).all fun d=>f5v (d+540))=true:=by decide +kernel
theorem g1p:((List.range 180).all fun d=>f5v (d+720))=true:=by decide +kernel
theorem g1o:((List.range 180).all fun d=>f5v (d+900))=true:=by decide +kernel
theorem g1n:((List.range 180).all fun d=>f5v (d+1080))=true:=by decide +kernel
theorem g1m:((List.range 180).all fun d=>f5v (d+1260))=true:=by decide +kernel
theorem c9A{f:Nat->Bool}{a:Nat}(h:((List.range n).all fun d=>f (d+a))=true)(h1:a<=d)(h2:d<a+n):f d=true:=by
 have:=List.all_eq_true.1 h (d-a) (List.mem_range.2 (by omega));have e:d-a+a=d:=by omega
 simpa only[e] using this
theorem f4v(h:d<729):d9U d=true:=by
 by_cases h0:d<81
 ·exact c9A g0q (by omega) (by omega)
 by_cases h1:d<162
 ·exact c9A g0p (by omega) (by omega)
 by_cases h2:d<243
 ·exact c9A g0o (by omega) (by omega)
 by_cases h3:d<324
 ·exact c9A g0n (by omega) (by omega)
 by_cases h4:d<405
 ·exact c9A g0m (by omega) (by omega)
 by_cases h5:d<486
 ·exact c9A g0l (by omega) (by omega)
 by_cases h6:d<567
 ·exact c9A g0k (by omega) (by omega)
 by_cases h7:d<648
 ·exact c9A g0j (by omega) (by omega)
 by_cases h8:d<729
 ·exact c9A g0i (by omega) (by omega)
 omega
theorem f6P(h:d<1440):f5v d=true:=by
 by_cases h0:d<180
 ·exact c9A g1t (by omega) (by omega)
 by_cases h1:d<360
 ·exact c9A g1s (by omega) (by omega)
 by_cases h2:d<540
 ·exact c9A g1r (by omega) (by omega)
 by_cases h3:d<720
 ·exact c9A g1q (by omega) (by omega)
 by_cases h4:d<900
 ·exact c9A g1p (by omega) (by omega)
 by_cases h5:d<1080
 ·exact c9A g1o (by omega) (by omega)
 by_cases h6:d<1260
 ·exact c9A g1n (by omega) (by omega)
 by_cases h7:d<1440
 ·exact c9A g1m (by omega) (by omega)
 omega
theorem f8c(h:d<729):Txt.a5j (d0L d)=true/\Txt.a2o (d0L d)=d/\(d0L d).size=10/\Txt.a3V (d0L d).data.toList=true:=by
 have:=f4v h;unfold d9U at this;simp only[Bool.and_eq_true,decide_eq_true_eq] at this;exact⟨this.1.1.1,this.1.1.2,this.1.2,this.2⟩
theorem f9H{m:Nat}(h:m<1440):Txt.a3a (d8f m)=true/\Txt.a6J (d8f m)=m/\(d8f m).size=5/\Txt.a3V (d8f m).data.toList=true:=by
 have:=f6P h;unfold f5v at this;simp only[Bool.and_eq_true,decide_eq_true_eq] at this;exact⟨this.1.1.1,this.1.1.2,this.1.2,this.2⟩
def d2B:List Nat:=[154,156,157,165,167,168,182]
inductive e3l:List UInt8->List UInt8->Prop where
 |nil:e3l [] [32,32]
 |same {s o:List UInt8}(h:e3l s o) (c:UInt8):e3l (s++[c]) (o++[c])
 |more {s o:List UInt8}(h:e3l s o):e3l (s++[32]) (o++[32]++[32])
theorem e3l.fold{s o:List UInt8}(h:e3l s o):o.foldl Txt.b1m ([],[])=s.foldl Txt.b1m ([],[]):=by
 induction h with
 |nil=>rfl
 |same _ c ih=>rw[List.foldl_append,List.foldl_append,ih]
 |more _ ih =>
  rw[List.foldl_append,List.foldl_append,List.foldl_append,ih];generalize List.foldl Txt.b1m ([],[]) _=x;have e:Txt.b1m x 32=(Txt.c1V x,[]):=Txt.b7S x;show Txt.b1m (Txt.b1m x 32) 32=Txt.b1m x 32;rw[e,Txt.e5P]
theorem e3l.len{s o:List UInt8}(h:e3l s o):o.length<=2+2*s.length:=by
 induction h with
 |nil=>simp
 |same _ c ih=>simp only[List.length_append,List.length_cons,List.length_nil];omega
 |more _ ih=>simp only[List.length_append,List.length_cons,List.length_nil];omega
theorem e3l.words{o:ByteArray}(h:e3l s.data.toList o.data.toList):Txt.a1v o=Txt.a1v s:=by
 refine Txt.c1R ?_;rw[Txt.b7B];unfold Txt.b2u Txt.c4p;rw[h.fold]
theorem d8q{n:Int}(h0:0<=n)(h1:n<=1048320):a0n (c8H n)=true/\a1J (c8H n)=n/\Txt.a3V (c8H n).data.toList=true/\(c8H n).size=16:=by
 obtain⟨d,hd⟩:=Int.eq_ofNat_of_zero_le (show 0<=n / 1440 by omega);obtain⟨m,hm⟩:=Int.eq_ofNat_of_zero_le (show 0<=n % 1440 by omega);obtain⟨a1,a2,a3,a4⟩:=f8c (d:=d) (by omega);obtain⟨b1,b2,b3,b4⟩:=f9H (m:=m) (by omega)
 have e:c8H n=d0L (d:Int)++⟨#[47]⟩++d8f (m:Int):=by
  unfold c8H;rw[hd,hm]
 have hn:n=(d:Int)*1440+(m:Int):=by omega
 clear hd hm;generalize d0L (d:Int)=D at *;generalize d8f (m:Int)=M at *;generalize c8H n=T at *
 have el:T.data.toList=D.data.toList++(47 :: M.data.toList):=by
  rw[e,Txt.a1X,Txt.a1X,List.append_assoc];rfl
 have l1:D.data.toList.length=10:=by rw[Txt.a1l];exact a3
 have l2:M.data.toList.length=5:=by rw[Txt.a1l];exact b3
 have hs:T.size=16:=by
  rw[<- Txt.a1l,el,List.length_append,List.length_cons,l1,l2]
 have x1:T.extract 0 10=D:=Txt.a7x (by
  rw[Txt.a3g,el,List.drop_zero,List.take_append_of_le_length (by omega),List.take_of_length_le (by omega)])
 have x2:T.extract 11 16=M:=Txt.a7x (by
  rw[Txt.a3g,el,List.take_of_length_le (by rw[List.length_append,List.length_cons,l1,l2];omega),List.drop_append,l1,List.drop_of_length_le (by omega)]
  rfl)
 have x3:Txt.a0V T 10=47:=by
  have h:T.data.toList[10]?=some 47:=by
   rw[el,List.getElem?_append_right (by omega),l1];rfl
  unfold Txt.a0V;rw[List.getD_eq_getElem?_getD,h];rfl
 have hdm:Txt.dmB T=true:=by
  unfold Txt.dmB;exact decide_eq_true ⟨hs,x3,by rw[x1];exact a1,by rw[x2];exact b1⟩
 have hnum:Txt.isNum T.data.toList=false:=Txt.b3o (by rw[Txt.a1l,hs];omega)
 have hv:a8J T=n:=by
  unfold a8J Txt.dmV;rw[hnum,hdm,x1,x2];simp only[Bool.false_eq_true,if_false,if_true];rw[a2,b2,hn]
 have hB:a0n T=true:=by
  unfold a0n;rw[hv,hdm];simp only[Bool.or_true,Bool.true_and,decide_eq_true_eq];exact⟨h0,h1⟩
 refine⟨hB,?_,?_,hs⟩
 ·unfold a1J;rw[hB,hv];rfl
 ·rw[el];have w1:=(Txt.a8C.1 a4).2;have w2:=(Txt.a8C.1 b4).2;refine Txt.a8C.2 ⟨by simp,fun c hc=>?_⟩;rcases List.mem_append.1 hc with hc|hc
  ·exact w1 c hc
  ·rcases List.mem_cons.1 hc with rfl|hc
   ·decide
   ·exact w2 c hc
namespace Desk
theorem b3t{b:Int}{x:Ent}:∀ l:List Ent,(c0F a b x l).Perm (x :: l)
 |[]=>by simp[c0F]
 |y :: r=>by
  simp only[c0F]
  split
  ·exact List.Perm.refl _
  ·exact ((b3t r).cons y).trans (List.Perm.swap x y r)
theorem a3Y{b:Int}:∀ l:List Ent,(b2J a b l).Perm l
 |[]=>List.Perm.refl _
 |x :: r=>(b3t _).trans ((a3Y r).cons x)
end Desk
open Desk (Ent a0r hasB)
structure SV(w:World)(v:Value)(L:List (Int × Int)):Prop where
 form:∃ a cap,v=.slice a L.length cap
 cell:∀ (k:Nat) (hk:k<L.length),∃ g cap,v=.slice (some ⟨g,0,none⟩) L.length cap/\w.cell? ⟨g,k*2,none⟩=some (.int .i64 L[k].1)/\w.cell? ⟨g,k*2+1,none⟩=some (.int .i64 L[k].2)
theorem SV.later(h:SV w v L)(k:Below w.heap.size w w'):SV w' v L :=
 ⟨h.form,fun i hi=>by
  obtain⟨g,cap,e,a,b⟩:=h.cell i hi
  exact⟨g,cap,e,a0a k a,a0a k b⟩⟩
theorem SV.own(h:w.ownsRow B 60 2 v L.length (L.flatMap spV)):SV w v L:=by
 refine⟨a0B h,fun k hk=>?_⟩;obtain⟨g,cap,e⟩:=Joins.ownsRow_form h (by omega);subst e;obtain⟨f1,f2⟩:=b3B k hk;have hl:=b0S L;have a0:=h.cellAt (k*2) (by omega);have a1:=h.cellAt (k*2+1) (by omega);rw[f1] at a0;rw[f2] at a1;exact⟨g,cap,rfl,a0,a1⟩
structure EV(w:World)(v:Value)(l:List (Ent × Value)):Prop where
 form:∃ a cap,v=.slice a l.length cap
 cell:∀ (k:Nat) (hk:k<l.length),∃ g cap,v=.slice (some ⟨g,0,none⟩) l.length cap/\w.cell? ⟨g,k*6,none⟩=some (.int .i64 l[k].1.id)/\w.cell? ⟨g,k*6+1,none⟩=some (.int .i64 l[k].1.kind)/\w.cell? ⟨g,k*6+2,none⟩=some (.string l[k].1.a0k)/\w.cell? ⟨g,k*6+3,none⟩=some (.int .i64 l[k].1.a0c)/\w.cell? ⟨g,k*6+4,none⟩=some l[k].2/\w.cell? ⟨g,k*6+5,none⟩=some (.int .i64 l[k].1.a0Z)
 sp:∀ p∈l,SV w p.2 p.1.a0e
theorem EV.later(h:EV w v l)(k:Below w.heap.size w w'):EV w' v l :=
 ⟨h.form,fun i hi=>by
  obtain⟨g,cap,e,a0,a1,a2,a3,a4,a5⟩:=h.cell i hi
  exact⟨g,cap,e,a0a k a0,a0a k a1,a0a k a2,a0a k a3,a0a k a4,a0a k a5⟩,fun p hp=>(h.sp p hp).later k⟩
theorem EV.own(h:w.ownsRow B 58 6 v l.length (l.flatMap a1f))(sp:∀ p∈l,SV w p.2 p.1.a0e):EV w v l:=by
 refine⟨a0B h,fun k hk=>?_,sp⟩;obtain⟨g,cap,e⟩:=Joins.ownsRow_form h (by omega);subst e
 have at_:∀ j,j<6->w.cell? ⟨g,k*6+j,none⟩=(a1f l[k])[j]?:=fun j hj=>by
  have a0:=h.cellAt (k*6+j) (by omega);rw[a3M hk hj] at a0;exact a0
 exact⟨g,cap,rfl,at_ 0 (by omega),at_ 1 (by omega),at_ 2 (by omega),at_ 3 (by omega),at_ 4 (by omega),at_ 5 (by omega)⟩
theorem a3j.ev(h:a3j w B col v l):EV w v l:=EV.own h.own (fun p hp=>SV.own (h.sp p hp).1.own)
namespace Desk
end Desk
namespace Desk
theorem a8T{s:St}(h:Inv s){l:a7U}(hl:(a0g s l).1=s):a1q s l=(s,(a0g s l).2):=by
 unfold a1q
 by_cases c:(a0g s l).2.err≠0
 ·rw[if_pos c];exact Prod.ext hl rfl
 ·rw[if_neg c,hl,a9s h];simp only[List.append_nil]
end Desk
namespace Desk
theorem c0Z(s:St)(l:a7U):(a0g s l).1.ts=s.ts\/∃ t,(a0g s l).1.ts=s.ts++[t]:=by
 cases l <;> simp only[a0g,a2t]
 case a0k name u =>
  split
  ·exact .inl rfl
  ·split
   ·exact .inl rfl
   ·exact .inr ⟨_,rfl⟩
 case enter=>split <;> exact .inl rfl
 case series=>split <;> exact .inl rfl
 case confirm =>
  split
  ·exact .inl rfl
  ·split <;> exact .inl rfl
 case cancel=>split <;> exact .inl rfl
 case list=>split <;> first|exact .inl rfl|(split <;> exact .inl rfl)
 case waiting=>simp
 case peak=>split <;> first|exact .inl rfl|(split <;> exact .inl rfl)
 case find=>split <;> first|exact .inl rfl|(split <;> exact .inl rfl)
 case expand=>split <;> exact .inl rfl
 case tick=>split <;> exact .inl rfl
 case clock=>simp
theorem c4B(s:St)(l:a7U):(a1q s l).1.ts=s.ts\/∃ t,(a1q s l).1.ts=s.ts++[t]:=by
 unfold a1q
 split
 ·exact c0Z s l
 ·exact c0Z s l
theorem b7F{s:St}(h:Inv s)(l:a7U)(hn:a0h nm s.ts≠0):a0h nm (a1q s l).1.ts=a0h nm s.ts:=by
 rcases c4B s l with e|⟨t,e⟩
 ·rw[e]
 ·rw[e];exact a8F h.tu hn
theorem c0t{s:St}(h:Inv s)(hn:a0h nm s.ts≠0):a1q s (.list nm 0 1048320)=(s,⟨0,0,0,a2x nm 0 1048320 s.es,[],[],[]⟩):=by
 have e:a0g s (.list nm 0 1048320)=(s,⟨0,0,0,a2x nm 0 1048320 s.es,[],[],[]⟩):=by
  simp only[a0g];rw[if_neg hn,if_neg (by omega)];rfl
 rw[a8T h (by rw[e]),e]
theorem b6I{s:St}(h:Inv s)(nm:ByteArray){e:Ent}(he:e∈a2x nm 0 1048320 s.es):e∈s.es/\1<=e.id/\e.id<=s.given:=by
 have:=a4U.1 he;have hm:=(List.mem_filter.1 this).1;exact⟨hm,h.idb e hm⟩
theorem c3R:∀ (l:List Int)(a b:Int),l.Pairwise (· < ·)->(∀ x∈l,a<=x/\x<=b)->(l.length:Int)<=max 0 (b-a+1)
 |[],_,_,_,_=>by simp;omega
 |x :: r,a,b,hp,hb=>by
  obtain⟨h1,h2⟩:=List.pairwise_cons.1 hp;have hx:=hb x (List.mem_cons_self ..);have:=c3R r (x+1) b h2 (fun y hy=>⟨by have:=h1 y hy;omega,(hb y (List.mem_cons_of_mem _ hy)).2⟩);simp only[List.length_cons];omega
theorem c6C{s:St}(h:Inv s):s.es.length<=60:=by
 have hi:(s.es.map (·.id)).Pairwise (· < ·):=h.ids;have hg:=h.g1
 have:=c3R _ 1 60 hi (fun x hx=>by
  obtain⟨e,he,rfl⟩:=List.mem_map.1 hx;have:=h.idb e he
  omega)
 rw[List.length_map] at this;omega
theorem c2P{s:St}(h:Inv s)(nm:ByteArray):(a2x nm 0 1048320 s.es).length<=60:=by
 have:=c6C h;have e:=(a3Y (a:=0) (b:=1048320) (s.es.filter (b7U nm 0 1048320))).length_eq;have f:=List.length_filter_le (b7U nm 0 1048320) s.es;unfold a2x;omega
end Desk
open Desk (Ent St Ids kept a0C a0Q a1C a2e ofB a0y a2c Mid a1H a0z Inv a0h a2x a1q Rep)
theorem Step.lowK{S:Col->Prop}{N:Nat}(h:Step S B col col' w w')(hB:N<=B)(hs:N<=w.heap.size)(hc:∀ b,b<N->col b=none):Below N w w'/\∀ b,b<N->col' b=none:=by
 obtain⟨G,h1,h2⟩:=h.off;refine⟨⟨h1.os,h1.tape,h1.output,h1.size,fun b hb=>h1.block b (by omega) (fun hx=>?_)⟩,fun b hb=>?_⟩
 ·rcases h2 b hx with ⟨c,e,_⟩|⟨_,e⟩
  ·rw[hc b hb] at e;cases e
  ·omega
 ·exact h.keepN (hc b hb) (by omega)
theorem BD.laterK{s:St}(h:BD w p d s r col)(k:Below w.heap.size w w'):BD w' p d s r col :=
 ⟨(k.block p (Array.getElem?_eq_some_iff.1 h.pc).1).trans h.pc,h.pn,⟨h.ds.dk.later k,h.ds.of,h.ds.wl,h.ds.hl,h.ds.inv⟩,h.env.later k,h.gl⟩
structure DG(w W:World)(p dk:Nat)(s:St)(r:Raw)(col:Nat->Option Col):Prop where
 bd:BD W p dk s r col
 bl:Below w.heap.size w W
 lo:∀ b,b<w.heap.size->col b=none
theorem DG.later{s:St}(h:DG w W p dk s r col)(k:Below W.heap.size W W'):DG w W' p dk s r col:=⟨h.bd.laterK k,h.bl.trans (k.mono h.bl.size),h.lo⟩
theorem DG.step{s s':St}{r':Raw}(h:DG w W p dk s r col)(bd:BD W' p dk s' r' col')(st:Step anyS W.heap.size col col' W W'):DG w W' p dk s' r' col':=by
 obtain⟨k1,k2⟩:=st.lowK h.bl.size h.bl.size h.lo;exact⟨bd,h.bl.trans k1,k2⟩
theorem DG.none{s:St}(h:DG w W p dk s r col)(hb:W.heap.size<=b):col b=none:=h.bd.ds.dk.none hb
theorem DG.inv{s:St}(h:DG w W p dk s r col):Inv s:=h.bd.ds.inv
theorem Step.still(st:Step anyS W.heap.size col col' W W')(hb:W.heap[b]?=some o)(hc:col b=none):W'.heap[b]?=some o/\col' b=none:=by
 have hl:=(Array.getElem?_eq_some_iff.1 hb).1;exact⟨(st.blockN hl hc hl).trans hb,st.keepN hc hl⟩
structure DoP(w W:World)(p dk:Nat)(col:Nat->Option Col)(s':St)(rep:Rep)(l:List (Ent × Value))(v1 v3 v4:Value)(r':Raw)(col':Nat->Option Col)(W':World):Prop where
 c7n:l.map (·.1)=rep.entries
 row:a3j W' W.heap.size col' v1 l
 gr:a2I W' W.heap.size col' v3 rep.granted
 ed:a2I W' W.heap.size col' v4 rep.ended
 dg:DG w W' p dk s' r' col'
 st:Step anyS W.heap.size col col' W W'
def b4e(w W:World)(p dk:Nat)(col:Nat->Option Col)(q:St × Rep)(e:Ending)(W':World):Prop :=
 ∃ (l:List (Ent × Value)) (a1 a2 a3 a4:Option Addr) (n2 c1 c2 c3 c4:Nat) (r':Raw) (col':Nat->Option Col),e=.returned (.agg #[.int .i64 q.2.err,.int .i64 q.2.at_,.int .i64 q.2.n,.slice a1 l.length c1,.slice a2 n2 c2,.slice a3 q.2.granted.length c3,.slice a4 q.2.ended.length c4]) /\
  DoP w W p dk col q.1 q.2 l (.slice a1 l.length c1) (.slice a3 q.2.granted.length c3) (.slice a4 q.2.ended.length c4) r' col' W'
theorem b7o{s:St}(h:DG w W p dk s r col){q:St × Rep}(k:b5M W p dk col q v W'):b4e w W p dk col q (.returned v) W':=by
 obtain⟨r',col',bd,st,en,da,gr,ed,l,rfl,he,k1,k2,k3,k4,_⟩:=k;obtain⟨a1,c1,rfl⟩:=a0B k1.own;obtain⟨a2,c2,rfl⟩:=a0B k2.own;obtain⟨a3,c3,rfl⟩:=a0B k3.own;obtain⟨a4,c4,rfl⟩:=a0B k4.own;exact⟨l,a1,a2,a3,a4,_,c1,c2,c3,c4,r',col',rfl,he,k1,k3,k4,h.step bd st,st⟩
theorem b2g{s:St}(h:DG w W p dk s r col){l:Desk.a7U}(hr:Reads t v)(hv:LV v l)(hl:Desk.a1O l){q:St × Rep}(hq:a1q s l=q):
  Calls Tryz.prog 21 #[.pointer (some ⟨p,0,none⟩),.string t] W fun e W'=>b4e w W p dk col q e W':=by
 subst hq;exact (b7q h.bd t hr hv hl).mono fun _ _ ⟨_,e,k⟩=>by rw[e];exact b7o h k
theorem g1v{s:St}(h:DG w W p dk s r col){l:Desk.a7U}(hr:Reads t v)(hv:LV v l)(hl:Desk.a1O l)(hf:g5r l=true){q:St × Rep}(hq:a1q s l=q):
  Calls Tryz.prog 21 #[.pointer (some ⟨p,0,none⟩),.string t] W fun e W'=>b4e w W p dk col q e W':=by
 subst hq;exact (g3L h.bd t hr hv hl hf).mono fun _ _ ⟨_,e,k⟩=>by rw[e];exact b7o h k
def nmA:ByteArray:=⟨#[97]⟩
def nmC:ByteArray:=⟨#[98]⟩
def a3Z(a b:Int):St:=⟨[(nmA,a),(nmC,b)],[],0,0⟩
theorem c4w(a:Int):a1q st0 (.a0k nmA a)=(⟨[(nmA,a)],[],0,0⟩,⟨0,0,0,[],[],[],[]⟩):=by
 simp[a1q,Desk.a0g,st0,a0h,Rep.num,Desk.a0R,Desk.a0O]
theorem b9C:a0y nmA nmC=false:=by decide +kernel
theorem c4v(a b:Int):a1q ⟨[(nmA,a)],[],0,0⟩ (.a0k nmC b)=(a3Z a b,⟨0,0,0,[],[],[],[]⟩):=by
 simp[a1q,Desk.a0g,a0h,b9C,Rep.num,Desk.a0R,Desk.a0O,a3Z]
theorem b9b(a b:Int):a0h nmA (a3Z a b).ts=a:=by simp[a3Z,a0h,a0y]
theorem b9a(a b:Int):a0h nmC (a3Z a b).ts=b:=by
 have e:a0y nmC nmC=true:=by decide +kernel
 simp[a3Z,a0h,b9C,e]
def a1T(a b:Int):Obj:=.cells #[.int .i64 a,.int .i64 b] 28 (0,0)
def a5w(err at_ n:Int)(v1 v2 v3 v4:Value):Obj:=.cells #[.int .i64 err,.int .i64 at_,.int .i64 n,v1,v2,v3,v4] 40 (0,0)
theorem a2T{err at_ n:Int}{v1 v2 v3 v4:Value}(h:W.heap[b]?=some (a5w err at_ n v1 v2 v3 v4)):W.cell? ⟨b,0,none⟩=some (.int .i64 err)/\W.cell? ⟨b,1,none⟩=some (.int .i64 at_)/\W.cell? ⟨b,2,none⟩=some (.int .i64 n)/\W.cell? ⟨b,3,none⟩=some v1/\W.cell? ⟨b,4,none⟩=some v2/\W.cell? ⟨b,5,none⟩=some v3/\W.cell? ⟨b,6,none⟩=some v4:=by
 unfold a5w at h;refine⟨?_,?_,?_,?_,?_,?_,?_⟩ <;> (simp only[World.cell?,h];rfl)
structure AW(w0:World)(F:Nat)(s:ByteArray)(A R:Nat)(nm:ByteArray)(u fr til:Int)(w:World):Prop where
 fw:FW w0 F s w
 a:w.heap[A]?=some (a1P nm u fr til)
 r:w.heap[R]?=some (a1P ⟨#[]⟩ 0 0 0)
 ar:A≠R
 af:A≠F
 rf:R≠F
 a0:w0.heap.size<=A
 r0:w0.heap.size<=R
 h0:10<=w0.heap.size
theorem AW.drew(h:AW w0 F s A R nm u fr til w):AW w0 F s A R nm u fr til w.drew :=
 ⟨h.fw.drew,h.a,h.r,h.ar,h.af,h.rf,h.a0,h.r0,h.h0⟩
theorem AW.c(h:AW w0 F s A R nm u fr til w):w.cell? ⟨A,0,none⟩=some (.string nm)/\w.cell? ⟨A,1,none⟩=some (.int .i64 u)/\w.cell? ⟨A,2,none⟩=some (.int .i64 fr)/\w.cell? ⟨A,3,none⟩=some (.int .i64 til)/\∀ o,w.frozen? ⟨A,o,none⟩=false:=b1X h.a
theorem AW.rc(h:AW w0 F s A R nm u fr til w):w.cell? ⟨R,0,none⟩=some (.string ⟨#[]⟩)/\w.cell? ⟨R,1,none⟩=some (.int .i64 0)/\w.cell? ⟨R,2,none⟩=some (.int .i64 0)/\w.cell? ⟨R,3,none⟩=some (.int .i64 0)/\∀ o,w.frozen? ⟨R,o,none⟩=false:=b1X h.r
theorem AW.to{nm':ByteArray}{u' fr' til':Int}(h:AW w0 F s A R nm u fr til w)(hw:FW w0 F s w')(k:Off [A] w w')(ha:w'.heap[A]?=some (a1P nm' u' fr' til')):AW w0 F s A R nm' u' fr' til' w' :=
 ⟨hw,ha,(k.block R (Array.getElem?_eq_some_iff.1 h.r).1 (by simp;exact fun e=>h.ar e.symm)).trans h.r,h.ar,h.af,h.rf,h.a0,h.r0,h.h0⟩
theorem AW.name(h:AW w0 F s A R nm u fr til w)(x:ByteArray):AW w0 F s A R x u fr til (w.setCell ⟨A,0,none⟩ (.string x)) :=
 h.to (h.fw.set h.a0 h.af (zt h.h0 h.a0) _ _) (Off.set0 _ _ _ _) (a2A h.a _)
theorem AW.from_(h:AW w0 F s A R nm u fr til w)(x:Int):AW w0 F s A R nm u x til (w.setCell ⟨A,2,none⟩ (.int .i64 x)) :=
 h.to (h.fw.set h.a0 h.af (zt h.h0 h.a0) _ _) (Off.set0 _ _ _ _) (a2A h.a _)
theorem AW.a0Z(h:AW w0 F s A R nm u fr til w)(x:Int):AW w0 F s A R nm u fr x (w.setCell ⟨A,3,none⟩ (.int .i64 x)) :=
 h.to (h.fw.set h.a0 h.af (zt h.h0 h.a0) _ _) (Off.set0 _ _ _ _) (a2A h.a _)
theorem a3B(h:AW w0 F s A R nm u fr til w)(n:Int)(h1:1<=n)(h2:n<=1000):
  Calls Tryz.prog 26 #[.pointer (some ⟨F,0,none⟩),.int .i64 n] w fun e w'=>∃ v,e=.returned (.int .i64 v)/\0<=v/\v<n/\AW w0 F s A R nm u fr til w':=by
 have hf:FW w F s w:=⟨h.fw.fd,h.fw.env,Off.refl _ _,h.fw.ten⟩;refine (a1h hf n h1 h2).mono ?_;rintro e w' ⟨v,rfl,v0,v1,k⟩;refine⟨v,rfl,v0,v1,⟨k.fd,k.env,h.fw.off.trans k.off,k.ten⟩,?_,?_,h.ar,h.af,h.rf,h.a0,h.r0,h.h0⟩
 ·exact (k.off.block A (Array.getElem?_eq_some_iff.1 h.a).1 (by simp;exact h.af)).trans h.a
 ·exact (k.off.block R (Array.getElem?_eq_some_iff.1 h.r).1 (by simp;exact h.rf)).trans h.r
structure b8U(nm:ByteArray)(u fr til:Int):Prop where
 n:nm=⟨#[97]⟩\/nm=⟨#[98]⟩\/nm=⟨#[99]⟩
 u1:1<=u
 u3:u<=3
 f0:0<=fr
 f1:fr<=1048320
 t0:0<=til
 t1:til<=1048320
theorem b0I(h:FW w F s w):
  Calls Tryz.prog 25 #[.pointer (some ⟨F,0,none⟩)] w fun e w'=>∃ nm u fr til,e=.returned (.agg #[.string nm,.int .i64 u,.int .i64 fr,.int .i64 til])/\b8U nm u fr til/\FW w F s w':=by
 have hF:=h.lt;have h10:=h.env.size;have NX:=a0b (fun n h1 h2=>a1h (h.alloc (a1P ⟨#[]⟩ 0 0 0)) n h1 h2);have hr:(w.alloc (a1P ⟨#[]⟩ 0 0 0)).heap[w.heap.size]?=some (a1P ⟨#[]⟩ 0 0 0):=a0p w _
 have ST:Hid (∀ W u,FW w F s W->Off [F] (w.alloc (a1P ⟨#[]⟩ 0 0 0)) W->AW w F s W.heap.size w.heap.size ⟨#[97]⟩ u 0 0 (W.alloc (a1P ⟨#[97]⟩ u 0 0))):=fun W u hW ho=>by
  have hl:w.heap.size<W.heap.size:=zL (by simp) ho.size;have hR:=(ho.block w.heap.size (by simp) (by simp;omega)).trans hr;exact⟨hW.alloc _,a0p W _,(Below.heap_alloc W _ _ hl).trans hR,by omega,by omega,by omega,by omega,Nat.le_refl _,h10⟩
 have NX1:=a0b (fun n h1 h2=>a1h (w0:=w.alloc (a1P ⟨#[]⟩ 0 0 0)) (w:=w.alloc (a1P ⟨#[]⟩ 0 0 0)) (F:=F) (s:=s) ⟨(h.alloc _).fd,(h.alloc _).env,Off.refl _ _,h.ten⟩ n h1 h2);have HH:=a0b h;clear h hr NX
 go_enter Tryz.func25,Tryz.ntmps25
 go_upto_region 1 with fail
 change Code.wp _ _ _ _ (w.alloc (a1P ⟨#[]⟩ 0 0 0))
 go_upto_region 2 with (first
  |(go_at_call 26;refine (NX1.out 3 (by omega) (by omega)).mono ?_;rintro e w1 ⟨v1,rfl,a1,b1,hf1⟩;have k1:IntKind.i64.wrap (1+v1)=1+v1:=a0G (by omega) (by omega)))
 have HA:=a0b (ST.out w1 (1+v1) ⟨hf1.fd,hf1.env,((Off.refl [F] w).alloc _).trans hf1.off,hf1.ten⟩ hf1.off);clear ST NX1 HH;have u1:1<=1+v1:=by omega
 have u3:1+v1<=3:=by omega
 clear hf1 a1 b1 k1;change Code.wp _ _ _ _ (w1.alloc (a1P ⟨#[97]⟩ (1+v1) 0 0));generalize w1.alloc (a1P ⟨#[97]⟩ (1+v1) 0 0)=X1 at HA ⊢;generalize w1.heap.size=A at HA ⊢;generalize 1+v1=u at u1 u3 HA ⊢;generalize w.heap.size=R at HA ⊢
 rename_i K1 h1 K0 h0
 have KK1:∀ (t4 t5 t6 t7 t8 t9 t10 t11:Value) (nm:ByteArray) (W:World),(nm=⟨#[97]⟩\/nm=⟨#[98]⟩)->AW w F s A R nm u 0 0 W->K1 { tmps:=#[.pointer (some ⟨F,0,none⟩),undef,.pointer (some ⟨R,0,none⟩),.pointer (some ⟨A,0,none⟩),t4,t5,t6,t7,t8,t9,t10,t11,undef,undef,undef,undef,undef,undef,undef,undef,undef,undef,undef,undef,undef,undef,undef,undef,undef,undef,undef,undef,undef,undef,undef,undef,undef,undef,undef,undef,undef,undef],defers:=[] } W:=by
  intro t4 t5 t6 t7 t8 t9 t10 t11 nm W hnm hA;refine h1 _ _ ?_;have HA:=a0b hA;clear h1 h0 hA
  go_upto_region 5 with (first
   |(go_at_call 26;refine (a3B HA.out 30 (by omega) (by omega)).mono ?_;rintro e w3 ⟨v3,rfl,a3,b3,ha3⟩;have HA3:=a0b ha3;clear ha3;have k3:IntKind.i64.wrap (5*v3)=5*v3:=a0G (by omega) (by omega);have cf:=HA3.out.c.2.2.2.2;have c2:=HA3.out.c.2.2.1))
  have HB:=a0b (HA3.out.from_ (5*v3));have f0:0<=5*v3:=by omega
  have f1:5*v3<=145:=by omega
  clear HA HA3 k3 cf c2 a3 b3;generalize w3.setCell ⟨A,2,none⟩ (.int .i64 (5*v3))=X3 at HB ⊢;generalize 5*v3=fr at f0 f1 HB ⊢;have HBd:=a0b HB.out.drew;have c2:=HBd.out.c.2.2.1
  go_region_held3 (fun w'=>w'.cell? ⟨A,2,none⟩=some (.int .i64 fr))
   (first
    |exact c2b
    |exact AS _
    |exact c2)
   (first
    |(go_at_call 26;refine (a3B HBd.out 12 (by omega) (by omega)).mono ?_;rintro e w4 ⟨v4,rfl,a4,b4,ha4⟩;have HA4:=a0b ha4;clear ha4;have k4:IntKind.i64.wrap (5*v4)=5*v4:=a0G (by omega) (by omega);have k5:IntKind.i64.wrap (fr+5*v4)=fr+5*v4:=a0G (by omega) (by omega);have c2b:=HA4.out.c.2.2.1;have c3b:=HA4.out.c.2.2.2.1;have cfb:=HA4.out.c.2.2.2.2;have AS:=fun x=>(HA4.out.a0Z x).c.2.2.1))
  have HC:=a0b (HA4.out.a0Z (fr+5*v4));have g0:0<=fr+5*v4:=by omega
  have g1:fr+5*v4<=1000:=by omega
  clear HB HBd c2 HA4 k4 k5 c2b c3b cfb AS a4 b4;generalize w4.setCell ⟨A,3,none⟩ (.int .i64 (fr+5*v4))=X4 at HC ⊢;generalize fr+5*v4=til at g0 g1 HC ⊢
  go_upto_region 6 with fail
  rename_i K2 h2 K3 h3
  have KK2:∀ (t4 t5 t6 t7 t8 t9 t10 t11 t12 t13 t14 t15 t16 t17 t18 t19 t20 t21 t22 t23 t24 t25 t26 t27 t28 t29 t30 t31 t32 t33 t34 t35 t36:Value) (fr til:Int) (W:World),(0<=fr/\fr<=1048320)->(0<=til/\til<=1048320)->AW w F s A R nm u fr til W->K2 { tmps:=#[.pointer (some ⟨F,0,none⟩),undef,.pointer (some ⟨R,0,none⟩),.pointer (some ⟨A,0,none⟩),t4,t5,t6,t7,t8,t9,t10,t11,t12,t13,t14,t15,t16,t17,t18,t19,t20,t21,t22,t23,t24,t25,t26,t27,t28,t29,t30,t31,t32,t33,t34,t35,t36,undef,undef,undef,undef,undef],defers:=[] } W:=by
   intro t4 t5 t6 t7 t8 t9 t10 t11 t12 t13 t14 t15 t16 t17 t18 t19 t20 t21 t22 t23 t24 t25 t26 t27 t28 t29 t30 t31 t32 t33 t34 t35 t36 fr til W hf ht hA;refine h2 _ _ ?_;have HA:=a0b hA;clear h2 h3 hA HC f0 f1 g0 g1
   go_upto_region 9 with fail
   rename_i K4 h4 K5 h5
   have KK4:∀ (t4 t5 t6 t7 t8 t9 t10 t11 t12 t13 t14 t15 t16 t17 t18 t19 t20 t21 t22 t23 t24 t25 t26 t27 t28 t29 t30 t31 t32 t33 t34 t35 t36 t37 t38 t39 t40:Value) (nm:ByteArray) (W:World),(nm=⟨#[97]⟩\/nm=⟨#[98]⟩\/nm=⟨#[99]⟩)->AW w F s A R nm u fr til W->K4 { tmps:=#[.pointer (some ⟨F,0,none⟩),undef,.pointer (some ⟨R,0,none⟩),.pointer (some ⟨A,0,none⟩),t4,t5,t6,t7,t8,t9,t10,t11,t12,t13,t14,t15,t16,t17,t18,t19,t20,t21,t22,t23,t24,t25,t26,t27,t28,t29,t30,t31,t32,t33,t34,t35,t36,t37,t38,t39,t40,undef],defers:=[] } W:=by
    intro t4 t5 t6 t7 t8 t9 t10 t11 t12 t13 t14 t15 t16 t17 t18 t19 t20 t21 t22 t23 t24 t25 t26 t27 t28 t29 t30 t31 t32 t33 t34 t35 t36 t37 t38 t39 t40 nm W hn hA;refine h4 _ _ ?_;obtain⟨c0,c1,c2,c3,cf⟩:=hA.c;obtain⟨r0,r1,r2,r3,rf⟩:=hA.rc
    have HW:Hid (FW w F s ((((W.setCell ⟨R,0,none⟩ (.string nm)).setCell ⟨R,1,none⟩ (.int .i64 u)).setCell ⟨R,2,none⟩ (.int .i64 fr)).setCell ⟨R,3,none⟩ (.int .i64 til))) :=
     (((hA.fw.set hA.r0 hA.rf (zt hA.h0 hA.r0) _ _).set hA.r0 hA.rf (zt hA.h0 hA.r0) _ _).set hA.r0 hA.rf (zt hA.h0 hA.r0) _ _).set hA.r0 hA.rf (zt hA.h0 hA.r0) _ _
    have HK:=a0b (b8U.mk hn u1 u3 hf.1 hf.2 ht.1 ht.2);clear h4 h5 hA HA hf ht hn hnm
    go_wp2_with fail
    exact bodyPost_ret (v:=.agg #[.string nm,.int .i64 u,.int .i64 fr,.int .i64 til]) (by simp[results,Tryz.results25,go_sem,r0,r1,r2,r3]) rfl ⟨_,_,_,_,rfl,HK.out,HW.out⟩
   clear h4;have hn3:nm=⟨#[97]⟩\/nm=⟨#[98]⟩\/nm=⟨#[99]⟩:=by rcases hnm with e|e <;> simp[e]
   clear hnm
   go_upto_region 10 with (first
    |(go_at_call 26;refine (a3B HA.out 20 (by omega) (by omega)).mono ?_;rintro e w7 ⟨v7,rfl,a7,b7,ha7⟩;have HA7:=a0b ha7;clear ha7))
   ·have c0:=HA7.out.c.1;have cf:=HA7.out.c.2.2.2.2;have HA8:=a0b (HA7.out.name ⟨#[99]⟩);clear HA7 HA
    go_wp2_with fail
    exact KK4 _ _ _ _ _ _ _ _ _ _ _ _ _ _ _ _ _ _ _ _ _ _ _ _ _ _ _ _ _ _ _ _ _ _ _ _ _ _ _ (.inr (.inr rfl)) HA8.out
   ·exact KK4 _ _ _ _ _ _ _ _ _ _ _ _ _ _ _ _ _ _ _ _ _ _ _ _ _ _ _ _ _ _ _ _ _ _ _ _ _ _ _ hn3 HA7.out
  go_upto_region 7 with (first
   |(go_at_call 26;refine (a3B HC.out 12 (by omega) (by omega)).mono ?_;rintro e w5 ⟨v5,rfl,a5,b5,ha5⟩;have HA5:=a0b ha5;clear ha5))
  ·have KKt:=KK2;clear KK2 HC h2
   go_upto_region 8 with (first
    |(go_at_call 26;refine (a3B HA5.out 3 (by omega) (by omega)).mono ?_;rintro e w6 ⟨v6,rfl,a6,b6,ha6⟩;have HA6:=a0b ha6;clear ha6;have k6:IntKind.i64.wrap (1048320-v6)=1048320-v6:=a0G (by omega) (by omega);have cf:=HA6.out.c.2.2.2.2;have c3:=HA6.out.c.2.2.2.1))
   have HB6:=a0b (HA6.out.a0Z (1048320-v6));have p0:1048318<=1048320-v6:=by omega
   have p1:1048320-v6<=1048320:=by omega
   clear HA6 HA5 k6 cf c3 a6 b6 a5 b5;generalize w6.setCell ⟨A,3,none⟩ (.int .i64 (1048320-v6))=X6 at HB6 ⊢;generalize 1048320-v6=ti at p0 p1 HB6 ⊢;have HBd:=a0b HB6.out.drew;have c3:=HBd.out.c.2.2.2.1
   go_region_held3 (fun w'=>w'.cell? ⟨A,3,none⟩=some (.int .i64 ti))
    (first
     |exact c3b
     |exact AS _
     |exact c3)
    (first
     |(go_at_call 26;refine (a3B HBd.out 20 (by omega) (by omega)).mono ?_;rintro e w8 ⟨v8,rfl,a8,b8,ha8⟩;have HA8:=a0b ha8;clear ha8;have k8:IntKind.i64.wrap (10*v8)=10*v8:=a0G (by omega) (by omega);have k9:IntKind.i64.wrap (ti-10*v8)=ti-10*v8:=a0G (by omega) (by omega);have c3b:=HA8.out.c.2.2.2.1;have c2b:=HA8.out.c.2.2.1;have cfb:=HA8.out.c.2.2.2.2;have AS:=fun x=>(HA8.out.from_ x).c.2.2.2.1))
   have HA9:=a0b (HA8.out.from_ (ti-10*v8));exact KKt _ _ _ _ _ _ _ _ _ _ _ _ _ _ _ _ _ _ _ _ _ _ _ _ _ _ _ _ _ _ _ _ _ _ _ _ ⟨by omega,by omega⟩ ⟨by omega,by omega⟩ HA9.out
  ·exact KK2 _ _ _ _ _ _ _ _ _ _ _ _ _ _ _ _ _ _ _ _ _ _ _ _ _ _ _ _ _ _ _ _ _ _ _ _ ⟨by omega,by omega⟩ ⟨by omega,by omega⟩ HA5.out
 clear h1
 go_upto_region 3 with (first
  |(go_at_call 26;refine (a3B HA.out 3 (by omega) (by omega)).mono ?_;rintro e w2 ⟨v2,rfl,a2,b2,ha2⟩;have HA2:=a0b ha2;clear ha2))
 ·have c0:=HA2.out.c.1;have cf:=HA2.out.c.2.2.2.2;have HA3:=a0b (HA2.out.name ⟨#[98]⟩);clear HA2 HA
  go_wp2_with fail
  exact KK1 _ _ _ _ _ _ _ _ _ _ (.inr rfl) HA3.out
 ·exact KK1 _ _ _ _ _ _ _ _ _ _ (.inl rfl) HA2.out
open Go
def b0r(n:Nat)(listed:Array Bool):Nat:=((List.range n).filter fun i=>!listed.getD i true).length
theorem b7H{listed:Array Bool}(hs:listed.size=n)(hi:listed.getD i true=false):b0r n (listed.setIfInBounds i true)<b0r n listed:=by
 have hin:i<listed.size:=by
  apply Classical.byContradiction;intro h;rw[Array.getD_eq_getD_getElem?,Array.getElem?_eq_none (by omega)] at hi
  cases hi
 have hg:∀ j,(listed.setIfInBounds i true).getD j true=(decide (j=i) || listed.getD j true):=fun j=>by
  by_cases e:j=i
  ·subst e;simp[Array.getD_eq_getD_getElem?,hin]
  ·have e':¬ i=j:=fun h=>e h.symm
   simp[Array.getD_eq_getD_getElem?,e,e']
 unfold b0r
 have:(List.range n).filter (fun j=>!(listed.setIfInBounds i true).getD j true)=((List.range n).filter fun j=>!listed.getD j true).filter (fun j=>!decide (j=i)):=by
  rw[List.filter_filter]
  congr 1
  funext j
  rw[hg j]
  cases decide (j=i) <;> simp
 rw[this];have hm:i∈(List.range n).filter fun j=>!listed.getD j true:=List.mem_filter.2 ⟨List.mem_range.2 (by omega),by rw[hi];rfl⟩
 exact List.length_filter_lt_length_iff_exists.2 ⟨i,hm,by simp⟩
theorem c0H{listed:Array Bool}(h:i<listed.size)(b c:Bool):listed.getD i b=listed.getD i c:=by
 simp[Array.getD_eq_getD_getElem?,h]
theorem b6T{listed:Array Bool}(h:i<listed.size):(fun j=>(listed.setIfInBounds i true).getD j false)=fun j=>decide (j=i) || listed.getD j false:=by
 funext j
 by_cases e:j=i
 ·subst e;simp[Array.getD_eq_getD_getElem?,h]
 ·have e':¬ i=j:=fun h=>e h.symm
  simp[Array.getD_eq_getD_getElem?,e,e']
section
variable {P:Program}{ops:Array Oper}{Q:Exit->Act->World->Prop}{md:Region.Mode}{n:Nat}
theorem b1f(hn:ops.size=n)(hord:∀ (i:Nat)(o:Oper),ops[i]?=some o->(o.after.all fun e=>!Region.binds md e || decide (e.on<i))=true){listed:Array Bool}(hs:listed.size=n)(hr:Region.ready md ops listed=[]):∀ i,i<n->listed.getD i false=true:=by
 intro i
 induction i using Nat.strongRecOn with
 |_ i ih =>
  intro hi;apply Classical.byContradiction;intro hc;have hc':listed.getD i true=false:=by rw[c0H (by omega) true false];simpa using hc
  obtain⟨o,ho⟩:∃ o,ops[i]?=some o:=⟨_,Array.getElem?_eq_getElem (by omega)⟩
  have hm:i∈Region.ready md ops listed:=by
   refine List.mem_filter.2 ⟨List.mem_range.2 (by omega),?_⟩;rw[hc',ho];have h1:=hord i o ho;rw[Array.all_eq_true'] at h1;show (!false && (o.after.all fun e=>!Region.binds md e || listed.getD e.on false))=true;rw[Bool.not_false,Bool.true_and,Array.all_eq_true'];intro e he;have h2:=h1 e he
   cases hb:Region.binds md e
   ·rfl
   ·rw[hb] at h2;have h3:e.on<i:=by simpa using h2
    rw[ih e.on h3 (by omega)];rfl
  rw[hr] at hm
  cases hm
def a9X(md:Region.Mode)(ops:Array Oper)(L:Nat->Bool):Prop:=∀ (i:Nat)(o:Oper),ops[i]?=some o->L i=true->(o.after.all fun e=>!Region.binds md e || L e.on)=true
theorem a9X.more{L:Nat->Bool}(h:a9X md ops L){o:Oper}(ho:ops[i]?=some o)(hd:(o.after.all fun e=>!Region.binds md e || L e.on)=true):a9X md ops (fun j=>decide (j=i) || L j):=by
 intro j q hq hj
 have up:∀ (q:Oper),(q.after.all fun e=>!Region.binds md e || L e.on)=true->(q.after.all fun e=>!Region.binds md e || (decide (e.on=i) || L e.on))=true:=fun q hq=>by
  rw[Array.all_eq_true'] at hq ⊢;intro e he;have:=hq e he
  cases hb:Region.binds md e
  ·rfl
  ·rw[hb] at this;have h1:L e.on=true:=by simpa using this
   rw[h1];simp
 by_cases e:j=i
 ·subst e;rw[ho] at hq
  cases hq
  exact up o hd
 ·have:L j=true:=by simpa[e] using hj
  exact up q (h j q hq this)
theorem b8W(hn:ops.size=n)(hord:∀ (i:Nat)(o:Oper),ops[i]?=some o->(o.after.all fun e=>!Region.binds md e || decide (e.on<i))=true)(I:(Nat->Bool)->Act->World->Prop)
  (hstep:∀ (L:Nat->Bool) (a:Act) (w:World) (i:Nat) (o:Oper),a9X md ops L->I L a w->ops[i]?=some o->L i=false->(o.after.all fun e=>!Region.binds md e || L e.on)=true->∀ K:Act->World->Prop,(∀ a' w',I (fun j=>decide (j=i) || L j) a' w'->K a' w')->if Region.wanted o (yielded ops a.tmps)=true then Oper.wp P o a w K Q else K (a.put o.dst undef) w)
  (hdone:∀ (L:Nat->Bool) (a:Act) (w:World),(∀ i,i<n->L i=true)->I L a w->Q .normal a w):
  ∀ (fuel:Nat) (listed:Array Bool) (a:Act) (w:World),listed.size=n->b0r n listed<=fuel->a9X md ops (fun j=>listed.getD j false)->I (fun j=>listed.getD j false) a w->wpAny P md ops Q fuel listed a w:=by
 intro fuel
 induction fuel with
 |zero =>
  intro listed a w hs ht hcl hI
  have hr:Region.ready md ops listed=[]:=by
   apply Classical.byContradiction;intro hne;obtain⟨i,hi⟩:=List.exists_mem_of_ne_nil _ hne;obtain⟨h1,h2⟩:=List.mem_filter.1 hi
   have h3:listed.getD i true=false:=by
    rw[Bool.and_eq_true] at h2
    simpa using h2.1
   have:i∈(List.range n).filter fun i=>!listed.getD i true:=List.mem_filter.2 ⟨by rw[<- hn];exact h1,by rw[h3];rfl⟩
   have:=List.length_pos_of_mem this;unfold b0r at ht;omega
  exact⟨hr,hdone _ _ _ (b1f hn hord hs hr) hI⟩
 |succ fuel ih =>
  intro listed a w hs ht hcl hI;refine⟨fun hr=>hdone _ _ _ (b1f hn hord hs hr) hI,fun i hi=>?_⟩;obtain⟨h1,h2⟩:=List.mem_filter.1 hi;have hin:i<n:=by rw[<- hn];exact List.mem_range.1 h1
  rw[Bool.and_eq_true] at h2;have h3:listed.getD i true=false:=by simpa using h2.1
  obtain⟨o,ho⟩:∃ o,ops[i]?=some o:=⟨_,Array.getElem?_eq_getElem (by omega)⟩
  have h4:(o.after.all fun e=>!Region.binds md e || listed.getD e.on false)=true:=by
   have:=h2.2;rw[ho] at this;exact this
  refine wpOp_step ho (fun K hK=>hstep _ a w i o hcl hI ho ?_ h4 K (fun a' w' hI'=>hK _ _ (ih _ _ _ (by simpa using hs) ?_ ?_ ?_)))
  ·rw[<- c0H (by omega) true false];exact h3
  ·have:=b7H hs h3;omega
  ·rw[b6T (by omega)];exact hcl.more ho h4
  ·rw[b6T (by omega)];exact hI'
theorem b6C(n:Nat):(fun j=>(Array.replicate n false).getD j false)=fun _=>false:=by
 funext j
 by_cases h:j<n <;> simp[Array.getD_eq_getD_getElem?,h]
theorem a6t{id:Nat}{a:Act}(hm:P.follows .mixedOrders=true)(hord:∀ (i:Nat)(o:Oper),ops[i]?=some o->(o.after.all fun e=>!Region.binds .any e || decide (e.on<i))=true)(I:(Nat->Bool)->Act->World->Prop)(h0:I (fun _=>false) a w.drew)
  (hstep:∀ (L:Nat->Bool) (a:Act) (w:World) (i:Nat) (o:Oper),a9X .any ops L->I L a w->ops[i]?=some o->L i=false->(o.after.all fun e=>!Region.binds .any e || L e.on)=true->∀ K:Act->World->Prop,(∀ a' w',I (fun j=>decide (j=i) || L j) a' w'->K a' w')->if Region.wanted o (yielded ops a.tmps)=true then Oper.wp P o a w K Q else K (a.put o.dst undef) w)
  (hdone:∀ (L:Nat->Bool) (a:Act) (w:World),(∀ i,i<ops.size->L i=true)->I L a w->Q .normal a w):(Code.region id ops true).wp P Q a w:=by
 refine wp_region_any hm (b8W rfl hord I hstep hdone ops.size (Array.replicate ops.size false) a _ (by simp) ?_ ?_ ?_)
 ·unfold b0r;exact zt (List.length_filter_le _ _) (by simp)
 ·rw[b6C];intro i o _ h;cases h
 ·rw[b6C];exact h0
end
theorem FW.self(h:FW w0 F s w):FW w F s w:=⟨h.fd,h.env,Off.refl _ _,h.ten⟩
theorem FW.back(h:FW w0 F s w)(k:FW w F s w'):FW w0 F s w':=⟨k.fd,k.env,h.off.trans k.off,k.ten⟩
theorem c5s(args:Array Value)(w:World):(callFunc 26 args).run Tryz.prog w=.ok (.enter 26 args) w:=enters_of Tryz.func26 (by kernel_rfl) rfl args w
theorem c5q(args:Array Value)(w:World):(callFunc 49 args).run Tryz.prog w=.ok (.enter 49 args) w:=enters_of Tryz.func49 (by kernel_rfl) rfl args w
def c0h : Oper := { dst := some 56, op := Op.buildSlice 26 2 #[(0, Operand.const (Value.string { data := #[97, 32, 49, 32] })), (1, Operand.const (Value.string { data := #[98, 32, 50, 32] }))], type := 26, pos := "build.go:117", after := #[], guard := none }
def c0g : Oper := { dst := some 57, op := Op.move (Operand.tmp 0), type := 45, pos := "build.go:117", after := #[], guard := none }
def b6x : Oper := { dst := some 58, op := Op.call { callee := Callee.value (Operand.func 26), args := #[Operand.tmp 57, Operand.const (Value.int IntKind.i64 2)], argTypes := #[45, 3] }, type := 3, pos := "build.go:117", after := #[{ on := 1, ground := Ground.data }], guard := none }
def b6w : Oper := { dst := some 59, op := Op.indexAddr 26 (Operand.tmp 56) (Operand.tmp 58), type := 0, pos := "build.go:117", after := #[{ on := 0, ground := Ground.data }, { on := 2, ground := Ground.data }], guard := none }
def b6v : Oper := { dst := some 60, op := Op.load 9 (Operand.tmp 59), type := 9, pos := "build.go:117", after := #[{ on := 3, ground := Ground.data }], guard := none }
def b6u : Oper := { dst := some 61, op := Op.binOp BinOp.add 9 (Operand.const (Value.string { data := #[115, 101, 114, 105, 101, 115, 32] })) (Operand.tmp 60) 9, type := 9, pos := "build.go:117", after := #[{ on := 4, ground := Ground.data }], guard := none }
def c0f : Oper := { dst := some 62, op := Op.move (Operand.tmp 0), type := 45, pos := "build.go:117", after := #[], guard := none }
def b6t : Oper := { dst := some 63, op := Op.call { callee := Callee.value (Operand.func 49), args := #[Operand.tmp 62], argTypes := #[45] }, type := 9, pos := "build.go:117", after := #[{ on := 6, ground := Ground.data }, { on := 2, ground := Ground.chain }], guard := none }
def b6s : Oper := { dst := some 64, op := Op.binOp BinOp.add 9 (Operand.tmp 61) (Operand.tmp 63) 9, type := 9, pos := "build.go:117", after := #[{ on := 5, ground := Ground.data }, { on := 7, ground := Ground.data }], guard := none }
def b6r : Oper := { dst := some 2, op := Op.assign (Operand.tmp 64), type := 9, pos := "build.go:117", after := #[{ on := 8, ground := Ground.data }, { on := 7, ground := Ground.chain }, { on := 0, ground := Ground.phase }, { on := 1, ground := Ground.phase }, { on := 2, ground := Ground.phase }, { on := 3, ground := Ground.phase }, { on := 4, ground := Ground.phase }, { on := 5, ground := Ground.phase }, { on := 6, ground := Ground.phase }, { on := 7, ground := Ground.phase }, { on := 8, ground := Ground.phase }], guard := none }
def c3W:Array Oper:=#[c0h,c0g,b6x,b6w,b6v,b6u,c0f,b6t,b6s,b6r]
theorem a7L(h:FW w0 F s w):
  Calls Tryz.prog 25 #[.pointer (some ⟨F,0,none⟩)] w fun e w'=>∃ nm u fr til,e=.returned (.agg #[.string nm,.int .i64 u,.int .i64 fr,.int .i64 til])/\b8U nm u fr til/\FW w0 F s w' :=
 (b0I h.self).mono fun _ _ ⟨nm,u,fr,til,e,a,k⟩=>⟨nm,u,fr,til,e,a,h.back k⟩
theorem b8U.size(h:b8U nm u fr til):nm.size<=10:=by
 rcases h.n with rfl|rfl|rfl <;> decide
theorem c2p(a b:Int)(w:World)(ha1:-9223372036854775808<=a)(ha2:a<=9223372036854775807)(hb1:-9223372036854775808<=b)(hb2:b<=9223372036854775807):
  Calls Tryz.prog 17 #[.int .i64 a,.int .i64 b] w fun e w'=>e=.returned (.agg #[.int .i64 (1+a2s a 4),.int .i64 (1+a2s b 9)])/\Below w.heap.size w w':=by
 obtain⟨x1,x2⟩:=a6G (c:=a) (n:=4) (by omega);obtain⟨y1,y2⟩:=a6G (c:=b) (n:=9) (by omega);have k1:IntKind.i64.wrap (1+a2s a 4)=1+a2s a 4:=a0G (by omega) (by omega);have k2:IntKind.i64.wrap (1+a2s b 9)=1+a2s b 9:=a0G (by omega) (by omega);have hq:(w.alloc (a1T 0 0)).heap[w.heap.size]?=some (a1T 0 0):=a0p w _;have kb:Below w.heap.size w (w.alloc (a1T 0 0)):=(zr _ _).alloc (zq _) _;have hc:=b0q (x:=.int .i64 0) (y:=.int .i64 0) hq;obtain⟨c0,c1,cf⟩:=hc
 have HF:Hid (Below w.heap.size w (((w.alloc (a1T 0 0)).setCell ⟨w.heap.size,0,none⟩ (.int .i64 (1+a2s a 4))).setCell ⟨w.heap.size,1,none⟩ (.int .i64 (1+a2s b 9)))):=by
  have k:=(Off.set0 w.heap.size (w.alloc (a1T 0 0)) 0 (.int .i64 (1+a2s a 4))).setCell (R:=w.heap.size) (.inl (by simp)) 1 (.int .i64 (1+a2s b 9));exact⟨k.os.trans kb.os,k.tape.trans kb.tape,k.output.trans kb.output,Nat.le_trans kb.size k.size,fun x hx=>(k.block x (zL hx kb.size) (by simp;omega)).trans (kb.block x hx)⟩
 clear hq kb
 go_enter Tryz.func17,Tryz.ntmps17
 go_upto_region 1 with fail
 change Code.wp _ _ _ _ (w.alloc (a1T 0 0));generalize w.alloc (a1T 0 0)=X at *
 go_wp2_with (first
  |(go_at_call 38;refine (b9M _ _ _ (by assumption) (by assumption) (by omega) (by omega)).mono ?_;rintro e w' ⟨rfl,rfl⟩))
 exact bodyPost_ret (v:=.agg #[.int .i64 (1+a2s a 4),.int .i64 (1+a2s b 9)]) (by simp[results,Tryz.results17,go_sem,c0,c1]) rfl ⟨rfl,HF.out⟩
structure TV(w:World)(v:Value)(ss:List ByteArray):Prop where
 form:∃ a cap,v=.slice a ss.length cap
 cell:∀ (i:Nat) (hi:i<ss.length),∃ b off cap,v=.slice (some ⟨b,off,none⟩) ss.length cap/\w.cell? ⟨b,off+i,none⟩=some (.string ss[i])
 size:∀ x∈ss,x.size<=9223372036854775807
 len:ss.length<=9223372036854775807
theorem TV.below{ss:List ByteArray}(h:TV w v ss)(k:Below w.heap.size w w'):TV w' v ss :=
 ⟨h.form,fun i hi=>by
  obtain⟨b,off,cap,e,a⟩:=h.cell i hi
  exact⟨b,off,cap,e,a0a k a⟩,h.size,h.len⟩
def a8o(s:ByteArray)(a:Int):Obj:=.cells #[.string s,.int .i64 a] 47 (0,0)
open Desk (Ent St Ids kept a0C a0Q a1C a2e ofB a0y a2c Mid a1H a0z Inv a0h a2x a1q Rep a1Q)
structure KB(W:World)(col:Nat->Option Col)(b:Nat)(o:Obj):Prop where
 h:W.heap[b]?=some o
 c:col b=none
theorem KB.later(h:KB W col b o)(k:Below W.heap.size W W'):KB W' col b o:=⟨(k.block b (Array.getElem?_eq_some_iff.1 h.h).1).trans h.h,h.c⟩
theorem KB.step(h:KB W col b o)(st:Step anyS W.heap.size col col' W W'):KB W' col' b o:=by
 obtain⟨x,y⟩:=st.still h.h h.c;exact⟨x,y⟩
def a1A(i:Nat):ByteArray:=if i=0 then ⟨#[97]⟩ else ⟨#[98]⟩
theorem a7y(i:Nat):a1A i=⟨#[97]⟩\/a1A i=⟨#[98]⟩:=by unfold a1A;split <;> simp
theorem b2x{b:Int}(ha:1<=a)(hb:1<=b)(i:Nat):a0h (a1A i) (a3Z a b).ts≠0:=by
 rcases a7y i with e|e <;> rw[e]
 ·have:=b9b a b;unfold nmA at this;rw[this];omega
 ·have:=b9a a b;unfold nmC at this;rw[this];omega
namespace Rd
def prog(d n:Int):Nat->List Int
 |0=>[]
 |k+1=>d :: prog (d+n) n k
end Rd
theorem f7Q{n:Int}(h0:1<=n)(h1:n<=99):evB (Txt.a0x n)=true/\nvF (Txt.a0x n)=n/\Txt.a3V (Txt.a0x n).data.toList=true:=by
 obtain⟨a,b⟩:=Txt.b6O (n:=n) (by omega) (by omega);refine⟨?_,b,Txt.b3l (by omega)⟩;unfold evB a0K;rw[a,b];simp[h0,h1]
theorem e6p:Txt.a3V a7M.data.toList=true/\Txt.a3V b0Y.data.toList=true/\Txt.a3V a8D.data.toList=true/\Txt.a3V a8w.data.toList=true/\Txt.a3V a1t.data.toList=true/\Txt.a3V atW.data.toList=true/\Txt.a3V b3z.data.toList=true/\Txt.a3V b2z.data.toList=true:=by decide +kernel
namespace Rd
end Rd
open Desk (Ent St Inv a0h a2x a1q Rep a1e)
theorem e6R{c:UInt8}{l:List UInt8}(hl:s.data.toList=l)(hc:l[i]?=some c)(h:Txt.a0V s i=n):c.toNat=n:=by
 unfold Txt.a0V at h;rw[hl,List.getD_eq_getElem?_getD,hc] at h;simp at h;omega
theorem e1P{c:UInt8}(h:c.toNat=n)(hn:n<256):c=UInt8.ofNat n:=by
 apply UInt8.toNat_inj.1;rw[h,UInt8.toNat_ofNat'];omega
theorem d6r(s:ByteArray)(a b n:Nat)(hs:min b s.size-a=n+1)(h:Txt.isNum (Txt.part s a b)=true):Txt.b8V (Txt.a2f (Txt.part s a b)) (n+1)=s.extract a b:=by
 have hz:(s.extract a b).size=n+1:=b2K s a b (n+1) hs;have hd:=Txt.a7C h;have e:Txt.a2f (Txt.part s a b)=Txt.b4R (s.extract a b).data.toList:=by unfold Txt.a2f;rw[if_pos h];rfl
 rw[e];exact Txt.f6E _ n hz hd
theorem e5c(w:ByteArray)(h:Txt.a2y w=true):d0L (b0a w)=w:=by
 have hd:Txt.a5j w=true:=by
  unfold Txt.a2y at h;exact (of_decide_eq_true h).1
 have e:b0a w=Cal.num (Txt.a2f (Txt.part w 0 4)) (Txt.a2f (Txt.part w 5 7)) (Txt.a2f (Txt.part w 8 10)):=by
  unfold b0a Txt.a2o;rw[if_pos h,if_pos hd]
 unfold Txt.a5j at hd;obtain⟨hs,b4,b7,n0,n1,n2,hok⟩:=of_decide_eq_true hd;obtain⟨ey,em,ed⟩:=Cal.c4g _ _ _ _ hok e.symm;unfold d0L;rw[<- ey,<- em,<- ed];unfold f4t;rw[d6r w 0 4 3 (by omega) n0,d6r w 5 7 1 (by omega) n1,d6r w 8 10 1 (by omega) n2];apply Txt.a7x;simp only[Txt.a1X,Txt.a3g];have hl:w.data.toList.length=10:=by rw[Txt.a1d];exact hs
 obtain⟨l,hw⟩:∃ l,w.data.toList=l:=⟨_,rfl⟩;rw[hw] at hl;rw[hw]
 match l,hl,hw with
 |[a0,a1,a2,a3,a4,a5,a6,a7,a8,a9],_,hw =>
  have e4:=e1P (e6R (i:=4) (c:=a4) hw rfl (n:=45) b4) (by omega);have e7:=e1P (e6R (i:=7) (c:=a7) hw rfl (n:=45) b7) (by omega);rw[e4,e7];rfl
theorem f6M(w:ByteArray)(h:Txt.a3a w=true):d8f (Txt.a6J w)=w:=by
 have e:Txt.a6J w=Txt.a2f (Txt.part w 0 2)*60+Txt.a2f (Txt.part w 3 5):=by unfold Txt.a6J;rw[if_pos h]
 unfold Txt.a3a at h;obtain⟨hs,b2,n0,n1,h23,h59⟩:=of_decide_eq_true h;have q0:=Txt.a2B (Txt.part w 0 2);have q1:=Txt.a2B (Txt.part w 3 5);have e1:Txt.a6J w / 60=Txt.a2f (Txt.part w 0 2):=by rw[e];omega
 have e2:Txt.a6J w % 60=Txt.a2f (Txt.part w 3 5):=by rw[e];omega
 unfold d8f;rw[e1,e2,d6r w 0 2 1 (by omega) n0,d6r w 3 5 1 (by omega) n1];apply Txt.a7x;simp only[Txt.a1X,Txt.a3g];have hl:w.data.toList.length=5:=by rw[Txt.a1d];exact hs
 obtain⟨l,hw⟩:∃ l,w.data.toList=l:=⟨_,rfl⟩;rw[hw] at hl;rw[hw]
 match l,hl,hw with
 |[a0,a1,a2,a3,a4],_,hw =>
  have e2:=e1P (e6R (i:=2) (c:=a2) hw rfl (n:=58) b2) (by omega);rw[e2];rfl
theorem f2q(sep:List UInt8)(r:List (List UInt8))(x:List UInt8):Lib.joinTail sep (r++[x])=Lib.joinTail sep r++(sep++x):=by
 simp[Lib.joinTail]
theorem d7m(acc:List Int):∀ k:Nat,(d5A acc k).data.toList=Lib.joinTail [44] ((onL acc k).map (·.data.toList))
 |0=>rfl
 |k+1=>by
  have ih:=d7m acc k;unfold d5A onL
  split
  ·rw[List.map_append,List.map_cons,List.map_nil,f2q,Txt.a1X,Txt.a1X,ih];simp
  ·exact ih
theorem f3O(L:List (List UInt8)):Lib.join L [44]=(Lib.joinTail [44] L).drop 1:=by
 cases L with
 |nil=>rfl
 |cons x r=>rw[Lib.join_cons];simp[Lib.joinTail]
theorem f9C(acc:List Int):Lib.join ((onL acc 7).map (·.data.toList)) [44]=(onT acc).data.toList:=by
 unfold onT;rw[Txt.a3g,f3O,<- d7m];rw[List.take_of_length_le (by rw[Txt.a1d];exact zq _)]
theorem g1f{acc:List Int}(h:Txt.onW s=some acc):onL acc 7≠[]:=by
 intro e;have h1:=g1e h;have h2:=d7m acc 7;rw[e] at h2;have h3:=Txt.a1d (d5A acc 7);rw[h2] at h3;have:(Lib.joinTail [44] (([]:List ByteArray).map (·.data.toList))).length=0:=rfl;omega
theorem f3e(acc:List Int):(Lib.join ((onL acc 7).map (·.data.toList)) [44]).length<=160:=by
 rw[f9C,Txt.a1d];unfold onT;have e:((d5A acc 7).extract 1 (d5A acc 7).size).size=min (d5A acc 7).size (d5A acc 7).size-1:=ByteArray.size_extract ..;have:=e0W acc 7;omega
end Go.Proofs.YtfigmlfdnickmaaGreatDoor
