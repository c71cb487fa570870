/-
  The closed facts of the row of Ends, together.
-/
import Derived.Test.YtfigmlfdnickmaaGreatDoorL13
set_option maxRecDepth 100000
set_option maxHeartbeats 8000000
open Go.Proofs.Tryz
namespace Go.Proofs.YtfigmlfdnickmaaGreatDoor.endsLaw
open Go
theorem mu:joinedFacts Tryz.pinned.checked.prog 8 f8 (Rows.OpenSpec.upto Rows.endsSpec).bare Rows.endsUptoRow=true:=(gG (gG (gG (gG (gG (gG (gG (gG (gG (gG (gG (gG (gG (gG (gG (gG (gG (gG (gG (gG (gG (gG (gG (gG (gG (gG (gG (gG (gG (gG (gG j1 j2) j3) j4) j5) j6) j7) j8) j9) My) Mx) Mw) Mv) Mu) Mt) Ms) Mr) Mq) Mp) Mo) Mn) Mm) Ml) Mk) Mj) Mi) Mh) Mg) Mf) Me) Md) Mc)
theorem named:Tryz.pinned.checked.prog.funcNamed Rows.endsUptoRow.func=some 8:=XF
theorem inst:Func.isInstance Tryz.pinned.checked.prog f8 Rows.endsUptoRow.origin Rows.endsUptoRow.targs:=of_decide_eq_true XF
theorem wrap:Func.isWrapper Tryz.pinned.checked.prog f8 Rows.endsUptoRow.wrapper Rows.endsUptoRow.mainSum:=by
 unfold Func.isWrapper;first|(rw[if_pos XE];kernel_rfl)|(rw[if_neg XE];exact⟨rfl,rfl⟩)
end Go.Proofs.YtfigmlfdnickmaaGreatDoor.endsLaw
