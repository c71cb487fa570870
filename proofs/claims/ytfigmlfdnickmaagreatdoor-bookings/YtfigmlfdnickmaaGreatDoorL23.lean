/-
  The closed facts of the row of Bookings, together.
-/
import Derived.Test.YtfigmlfdnickmaaGreatDoorL22
set_option maxRecDepth 100000
set_option maxHeartbeats 8000000
namespace Go.Proofs.YtfigmlfdnickmaaGreatDoor.bookingsLaw
open Go
theorem a5d:joinedFacts Tryz.pinned.checked.prog 4 Tryz.f4 (Rows.OpenSpec.upto Rows.bookingsSpec).bare Rows.bookingsUptoRow=true:=(a6n (a6n (a6n (a6n (a6n (a6n (a6n (a6n (a6n (a6n (a6n (a6n (a6n (a6n (a6n (a6n (a6n (a6n (a6n (a6n (a6n (a6n (a6n (a6n (a6n (a6n (a6n (a6n (a6n (a6n (a6n j1 j2) j3) j4) j5) j6) j7) j8) j9) j10) j11) j12) j13) j14) j15) j16) j17) j18) j19) j20) j21) j22) j23) j24) j25) j26) j27) j28) j29) j30) j31) j32)
theorem named:Tryz.pinned.checked.prog.funcNamed Rows.bookingsUptoRow.func=some 4:=by kernel_rfl
theorem inst:Func.isInstance Tryz.pinned.checked.prog Tryz.f4 Rows.bookingsUptoRow.origin Rows.bookingsUptoRow.targs:=of_decide_eq_true (by kernel_rfl)
theorem wrap:Func.isWrapper Tryz.pinned.checked.prog Tryz.f4 Rows.bookingsUptoRow.wrapper Rows.bookingsUptoRow.mainSum:=by
 unfold Func.isWrapper;first|(rw[if_pos (by decide +kernel)];kernel_rfl)|(rw[if_neg (by decide +kernel)];exact⟨rfl,rfl⟩)
end Go.Proofs.YtfigmlfdnickmaaGreatDoor.bookingsLaw
