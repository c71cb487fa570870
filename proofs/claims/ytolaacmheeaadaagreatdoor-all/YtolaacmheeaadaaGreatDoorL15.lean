/-
  The closed facts of the row of All, together.
-/
import Derived.Test.YtolaacmheeaadaaGreatDoorL14
set_option maxRecDepth 100000
set_option maxHeartbeats 8000000
open Go.Proofs.Tryz
namespace Go.Proofs.YtolaacmheeaadaaGreatDoor.allLaw
open Go
theorem nB:joinedFacts Tryz.pinned.checked.prog 3 f3 (Rows.OpenSpec.upto Rows.allSpec).bare Rows.allUptoRow=true:=(iH (iH (iH (iH (iH (iH (iH (iH (iH (iH (iH (iH (iH (iH (iH (iH (iH (iH (iH (iH (iH (iH (iH (iH (iH (iH (iH (iH (iH (iH (iH j1 j2) j3) j4) j5) j6) j7) j8) j9) NK) NJ) NH) NG) NF) ND) NC) NA) Nz) Ny) Nx) Nw) Nv) Nu) Nt) Ns) Nr) Nq) Np) Nn) Nl) Nk) Nj)
theorem named:Tryz.pinned.checked.prog.funcNamed Rows.allUptoRow.func=some 3:=Um
theorem inst:Func.isInstance Tryz.pinned.checked.prog f3 Rows.allUptoRow.origin Rows.allUptoRow.targs:=of_decide_eq_true Um
theorem wrap:Func.isWrapper Tryz.pinned.checked.prog f3 Rows.allUptoRow.wrapper Rows.allUptoRow.mainSum:=by unfold Func.isWrapper;first|(rw[if_pos Ul];kernel_rfl)|(rw[if_neg Ul];exact⟨rfl,rfl⟩)
end Go.Proofs.YtolaacmheeaadaaGreatDoor.allLaw
