/-
  The closed facts of the row of Series, together.
-/
import Derived.Test.YtfigmlfdnickmaaGreatDoorL28
set_option maxRecDepth 100000
set_option maxHeartbeats 8000000
namespace Go.Proofs.YtfigmlfdnickmaaGreatDoor.seriesLaw
open Go
theorem a5d:joinedFacts Tryz.pinned.checked.prog 6 Tryz.f6 (Rows.OpenSpec.upto Rows.seriesSpec).bare Rows.seriesUptoRow=true:=(a6n (a6n (a6n (a6n (a6n (a6n (a6n (a6n (a6n (a6n (a6n (a6n (a6n (a6n (a6n (a6n (a6n (a6n (a6n (a6n (a6n (a6n (a6n (a6n (a6n (a6n (a6n (a6n (a6n (a6n (a6n j1 j2) j3) j4) j5) j6) j7) j8) j9) j10) j11) j12) j13) j14) j15) j16) j17) j18) j19) j20) j21) j22) j23) j24) j25) j26) j27) j28) j29) j30) j31) j32)
theorem named:Tryz.pinned.checked.prog.funcNamed Rows.seriesUptoRow.func=some 6:=by kernel_rfl
theorem inst:Func.isInstance Tryz.pinned.checked.prog Tryz.f6 Rows.seriesUptoRow.origin Rows.seriesUptoRow.targs:=of_decide_eq_true (by kernel_rfl)
theorem wrap:Func.isWrapper Tryz.pinned.checked.prog Tryz.f6 Rows.seriesUptoRow.wrapper Rows.seriesUptoRow.mainSum:=by
 unfold Func.isWrapper;first|(rw[if_pos (by decide +kernel)];kernel_rfl)|(rw[if_neg (by decide +kernel)];exact⟨rfl,rfl⟩)
end Go.Proofs.YtfigmlfdnickmaaGreatDoor.seriesLaw
