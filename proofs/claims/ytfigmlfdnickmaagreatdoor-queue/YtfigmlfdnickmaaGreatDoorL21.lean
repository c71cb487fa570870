/-
  What a row's list of package variables gives: the tables that the program reads.
-/
import Derived.Test.YtfigmlfdnickmaaGreatDoorL20
import Derived.Lib.LaidU8
import Derived.Shelf.Vars
set_option maxRecDepth 100000
set_option maxHeartbeats 8000000
namespace Go.Proofs.YtfigmlfdnickmaaGreatDoor.EnvLaid
open Go.ChangeShapes Go.WideShapes Go.ChangeAt Go.RowKit
theorem b2G{P:Program}{W:World}{name:String}{k:IntKind}{zs:List Int}{g:Nat}{t e:TypeId}{n:Nat}
  (hg:P.globalNamed name=some g) (hty:(P.globals[g]?).map (·.type)=some t) (ht:P.underlying t=some (.array n e)) (he:P.underlying e=some (.int k)) (hce:P.cellsOf e=1) (hct:P.cellsOf t=n)
  (h:Lib.VarReads P W name (Lib.tabData k zs)):Lib.TabIs P W name k zs:=by
 obtain⟨g',t',cs,fuel,p,hg',ht',hvar,hd⟩:=h
 obtain rfl:=Option.some.inj (hg.symm.trans hg')
 obtain rfl:=Option.some.inj (hty.symm.trans ht')
 unfold Lib.TabIs
 rw[hvar,<- Lib.cells_of_tab ht he hce hct hd]
theorem b9t{P:Program}{W:World}{name:String}{zs:List (List UInt8)}{g:Nat}{t e:TypeId}{n:Nat}
  (hg:P.globalNamed name=some g) (hty:(P.globals[g]?).map (·.type)=some t) (ht:P.underlying t=some (.array n e)) (he:P.underlying e=some .string) (hce:P.cellsOf e=1)
  (h:Lib.VarReads P W name (.agg (zs.map fun z=>.lit (.string z)))) (i:Nat) (z:List UInt8) (hz:zs[i]?=some z):W.cell? ⟨g,i,none⟩=some (.string ⟨z.toArray⟩):=by
 obtain⟨g',t',cs,fuel,p,hg',ht',hvar,hd⟩:=h
 obtain rfl:=Option.some.inj (hg.symm.trans hg')
 obtain rfl:=Option.some.inj (hty.symm.trans ht')
 obtain⟨xs,m,_,hx,_,hxl,hall⟩:=DataW.trod_array ht hd
 have hx1:zs.map (fun z=>(DataW.lit (.string z):DataW Unit))=xs.map (·.1):=by
  have:=congrArg Prod.fst hx
  simpa using this
 have hlen:zs.length=xs.length:=by
  have:=congrArg List.length hx1
  simpa using this
 have hi:i<zs.length:=(List.getElem?_eq_some_iff.1 hz).1
 have hxi:xs[i]?=some xs[i]:=List.getElem?_eq_getElem (by omega)
 have hti:=hall i (by omega)
 rw[hxi,hce] at hti
 obtain⟨s,hs1,hs2,_⟩:=DataW.trod_string he hti
 have h1:(xs.map (·.1))[i]?=some (DataW.lit (.string z):DataW Unit):=by rw[<- hx1];simp[hz]
 have h2:(xs.map (·.1))[i]?=some (DataW.lit (.string s.data.toList):DataW Unit):=by simp[hxi,hs2]
 have h3:z=s.data.toList:=by
  have:=h1.symm.trans h2
  simpa using this
 have h4:cs[i]?=some (.string s):=by
  have:=congrArg (·[0]?) hs1
  simpa[List.getElem?_take,List.getElem?_drop] using this
 rw[World.var?_cell hg hvar i,h4,h3]
theorem c3f:(Tryz.prog.globals[0]?).map (·.type)=some 306:=by kernel_rfl
theorem c3B:Tryz.prog.cellsOf 306=20:=by kernel_rfl
theorem c3z:Tryz.prog.cellsOf 265=1:=by kernel_rfl
theorem c6X : Tryz.prog.globalNamed "bookings/lines.weekdays" = some 3 := by kernel_rfl
theorem c0J:(Tryz.prog.globals[3]?).map (·.type)=some 352:=by kernel_rfl
theorem b8z : Tryz.prog.globalNamed "bookings/calendar.monthDays" = some 1 := by kernel_rfl
theorem c3g:(Tryz.prog.globals[1]?).map (·.type)=some 314:=by kernel_rfl
theorem c3C:Tryz.prog.cellsOf 314=12:=by kernel_rfl
theorem c6I:Tryz.prog.cellsOf 3=1:=by kernel_rfl
theorem b7n:Tryz.prog.cellsOf 9=1:=by kernel_rfl
theorem c6Y {W : World} {l : List (String × DataW Unit)} (hM : laidMet Tryz.prog l W) (hS : W.ShapedOpen Tryz.prog) (m1 : ("bookings/calendar.monthDays", Rows.laid_bookings_calendar_monthDays) ∈ l) (m2 : ("internal/strconv.uint64pow10", Rows.laid_internal_strconv_uint64pow10) ∈ l) (m3 : ("bookings/lines.weekdays", Rows.laid_bookings_lines_weekdays) ∈ l) : Env W := by
 have ht : Lib.VarReads Tryz.prog W "bookings/calendar.monthDays" (Lib.tabData .i64 [31, 28, 31, 30, 31, 30, 31, 31, 30, 31, 30, 31]) := Lib.laidMet.reads hM (d := Rows.laid_bookings_calendar_monthDays) m1
 have hp : Lib.VarReads Tryz.prog W "internal/strconv.uint64pow10" (Lib.tabData .u64 Lib.pow10Tab) := Lib.laidMet.reads hM (d := Rows.laid_internal_strconv_uint64pow10) m2
 have hd : Lib.VarReads Tryz.prog W "bookings/lines.weekdays" (.agg ([[109, 111], [116, 117], [119, 101], [116, 104], [102, 114], [115, 97], [115, 117]].map fun z => .lit (.string z))) := Lib.laidMet.reads hM (d := Rows.laid_bookings_lines_weekdays) m3
 have day:=fun i z hz=>b9t c6X c0J Tryz.underlying352 Tryz.underlying9 b7n hd i z hz
 have tb:=b2G b8z c3g Tryz.underlying314 Tryz.underlying3 c6I c3C ht
 have hsz:10<=W.heap.size:=by
  have h0:(((begin Tryz.prog (fun _ _=>0) default).world.heap[9]?).bind Obj.row?).isSome=true:=by kernel_rfl
  obtain⟨⟨zero,t⟩,h1⟩:=Option.isSome_iff_exists.1 h0
  obtain⟨cs,hh,_⟩:=hS.1 9 zero t (of_decide_eq_true (by kernel_rfl)) h1
  exact (Array.getElem?_eq_some_iff.1 hh).1
 exact⟨⟨tb.cell b8z 0 (by decide),tb.cell b8z 1 (by decide),tb.cell b8z 2 (by decide),tb.cell b8z 3 (by decide),tb.cell b8z 4 (by decide),tb.cell b8z 5 (by decide),tb.cell b8z 6 (by decide),tb.cell b8z 7 (by decide),tb.cell b8z 8 (by decide),tb.cell b8z 9 (by decide),tb.cell b8z 10 (by decide),tb.cell b8z 11 (by decide)⟩,cell_of_shapedOpen_int (zero:=#[.int .i64 0]) (t:=3) hS (of_decide_eq_true (by kernel_rfl)) (by kernel_rfl) rfl (by kernel_rfl) (by kernel_rfl) Tryz.underlying3,
  b2G c6q c3f Tryz.underlying306 Tryz.underlying265 c3z c3B hp,hsz,
  day 0 _ rfl,day 1 _ rfl,day 2 _ rfl,day 3 _ rfl,day 4 _ rfl,day 5 _ rfl,day 6 _ rfl⟩
end Go.Proofs.YtfigmlfdnickmaaGreatDoor.EnvLaid
