/-
  The closed facts of the row of Series, together.
-/
import Derived.Test.YtfigmlfdnickmaaGreatDoorL12
set_option maxRecDepth 100000
set_option maxHeartbeats 8000000
open Go.Proofs.Tryz
namespace Go.Proofs.YtfigmlfdnickmaaGreatDoor.seriesLaw
open Go
theorem kQ:joinedFacts Tryz.pinned.checked.prog 6 f6 (Rows.OpenSpec.upto Rows.seriesSpec).bare Rows.seriesUptoRow=true:=(fK (fK (fK (fK (fK (fK (fK (fK (fK (fK (fK (fK (fK (fK (fK (fK (fK (fK (fK (fK (fK (fK (fK (fK (fK (fK (fK (fK (fK (fK (fK j1 j2) j3) j4) j5) j6) j7) j8) j9) Ka) J9) J8) J7) J6) J5) J4) J3) J2) J1) J0) JZ) JY) JX) JW) JV) JU) JT) JS) JR) JQ) JP) JO)
theorem named:Tryz.pinned.checked.prog.funcNamed Rows.seriesUptoRow.func=some 6:=UZ
theorem inst:Func.isInstance Tryz.pinned.checked.prog f6 Rows.seriesUptoRow.origin Rows.seriesUptoRow.targs:=of_decide_eq_true UZ
theorem wrap:Func.isWrapper Tryz.pinned.checked.prog f6 Rows.seriesUptoRow.wrapper Rows.seriesUptoRow.mainSum:=by
 unfold Func.isWrapper;first|(rw[if_pos UY];kernel_rfl)|(rw[if_neg UY];exact⟨rfl,rfl⟩)
end Go.Proofs.YtfigmlfdnickmaaGreatDoor.seriesLaw
