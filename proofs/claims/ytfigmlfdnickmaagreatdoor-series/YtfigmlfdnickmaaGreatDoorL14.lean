/-
  The closed facts of the row of Series, together.
-/
import Derived.Test.YtfigmlfdnickmaaGreatDoorL13
set_option maxRecDepth 100000
set_option maxHeartbeats 8000000
open Go.Proofs.Tryz
namespace Go.Proofs.YtfigmlfdnickmaaGreatDoor.seriesLaw
open Go
theorem kP:joinedFacts pinned.checked.prog 6 f6 (Rows.OpenSpec.upto Rows.seriesSpec).bare Rows.seriesUptoRow=true:=(fK (fK (fK (fK (fK (fK (fK (fK (fK (fK (fK (fK (fK (fK (fK (fK (fK (fK (fK (fK (fK (fK (fK (fK (fK (fK (fK (fK (fK (fK (fK j1 j2) j3) j4) j5) j6) j7) j8) j9) J4) J3) J2) J1) J0) JZ) JY) JX) JW) JV) JU) JT) JS) JR) JQ) JP) JO) JM) JL) JK) JJ) JI) JH)
theorem named:pinned.checked.prog.funcNamed Rows.seriesUptoRow.func=some 6:=UO
theorem inst:Func.isInstance pinned.checked.prog f6 Rows.seriesUptoRow.origin Rows.seriesUptoRow.targs:=of_decide_eq_true UO
theorem wrap:Func.isWrapper pinned.checked.prog f6 Rows.seriesUptoRow.wrapper Rows.seriesUptoRow.mainSum:=by
 unfold Func.isWrapper;first|(rw[if_pos UM];kernel_rfl)|(rw[if_neg UM];exact⟨rfl,rfl⟩)
end Go.Proofs.YtfigmlfdnickmaaGreatDoor.seriesLaw
