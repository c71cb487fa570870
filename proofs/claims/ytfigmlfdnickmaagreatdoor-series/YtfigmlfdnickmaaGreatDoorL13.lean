/-
  The closed facts of the row of Series, together.
-/
import Derived.Test.YtfigmlfdnickmaaGreatDoorL12
set_option maxRecDepth 100000
set_option maxHeartbeats 8000000
open Go.Proofs.Tryz
namespace Go.Proofs.YtfigmlfdnickmaaGreatDoor.seriesLaw
open Go
theorem kP:joinedFacts pinned.checked.prog 6 f6 (Rows.OpenSpec.upto Rows.seriesSpec).bare Rows.seriesUptoRow=true:=(fJ (fJ (fJ (fJ (fJ (fJ (fJ (fJ (fJ (fJ (fJ (fJ (fJ (fJ (fJ (fJ (fJ (fJ (fJ (fJ (fJ (fJ (fJ (fJ (fJ (fJ (fJ (fJ (fJ (fJ (fJ j1 j2) j3) j4) j5) j6) j7) j8) j9) J9) J8) J7) J6) J5) J4) J3) J2) J1) J0) JZ) JY) JX) JW) JV) JU) JT) JS) JR) JQ) JP) JO) JM)
theorem named:pinned.checked.prog.funcNamed Rows.seriesUptoRow.func=some 6:=UY
theorem inst:Func.isInstance pinned.checked.prog f6 Rows.seriesUptoRow.origin Rows.seriesUptoRow.targs:=of_decide_eq_true UY
theorem wrap:Func.isWrapper pinned.checked.prog f6 Rows.seriesUptoRow.wrapper Rows.seriesUptoRow.mainSum:=by
 unfold Func.isWrapper;first|(rw[if_pos UX];kernel_rfl)|(rw[if_neg UX];exact⟨rfl,rfl⟩)
end Go.Proofs.YtfigmlfdnickmaaGreatDoor.seriesLaw
