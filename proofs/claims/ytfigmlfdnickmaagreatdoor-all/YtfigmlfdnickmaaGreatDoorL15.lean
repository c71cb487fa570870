/-
  The closed facts of the row of All, together.
-/
import Derived.Test.YtfigmlfdnickmaaGreatDoorL14
set_option maxRecDepth 100000
set_option maxHeartbeats 8000000
namespace Go.Proofs.YtfigmlfdnickmaaGreatDoor.allLaw
open Go
theorem a5d:joinedFacts Tryz.pinned.checked.prog 14 Tryz.f14 (Rows.OpenSpec.upto Rows.allSpec).bare Rows.allUptoRow=true:=(a6n (a6n (a6n (a6n (a6n (a6n (a6n (a6n (a6n (a6n (a6n (a6n (a6n (a6n (a6n (a6n (a6n (a6n (a6n (a6n (a6n (a6n (a6n (a6n (a6n (a6n (a6n (a6n (a6n (a6n (a6n j1 j2) j3) j4) j5) j6) j7) j8) j9) j10) j11) j12) j13) j14) j15) j16) j17) j18) j19) j20) j21) j22) j23) j24) j25) j26) j27) j28) j29) j30) j31) j32)
theorem named:Tryz.pinned.checked.prog.funcNamed Rows.allUptoRow.func=some 14:=by kernel_rfl
theorem inst:Func.isInstance Tryz.pinned.checked.prog Tryz.f14 Rows.allUptoRow.origin Rows.allUptoRow.targs:=of_decide_eq_true (by kernel_rfl)
theorem wrap:Func.isWrapper Tryz.pinned.checked.prog Tryz.f14 Rows.allUptoRow.wrapper Rows.allUptoRow.mainSum:=by
 unfold Func.isWrapper;first|(rw[if_pos (by decide +kernel)];kernel_rfl)|(rw[if_neg (by decide +kernel)];exact⟨rfl,rfl⟩)
end Go.Proofs.YtfigmlfdnickmaaGreatDoor.allLaw
