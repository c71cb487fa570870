/-
  The closed facts of the row of All.
-/
import Derived.Test.YtolaacmheeaadaaGreatDoorL13
set_option maxRecDepth 100000
set_option maxHeartbeats 8000000
open Go.Proofs.Tryz
open Bool renaming true->Xz
namespace Go.Proofs.YtolaacmheeaadaaGreatDoor.allLaw
open Go
theorem iG{a b:Bool}(h:a=Xz)(k:b=Xz):(a && b)=Xz:=by rw[h,k];rfl
theorem j1:(Rows.allUptoRow.wf (OpenSpec.ofChange (Rows.OpenSpec.upto Rows.allSpec).bare))=Xz:=Xg
theorem j2:(laidOutB Tryz.pinned.checked.prog)=Xz:=Xg
theorem j3:(mapsRowed Tryz.pinned.checked.prog)=Xz:=Xg
theorem j4:(f3.params.all (Tryz.pinned.checked.prog.readableRec ·))=Xz:=Xg
theorem j5:(namedTie Tryz.pinned.checked.prog Rows.allUptoRow.named (Rows.OpenSpec.upto Rows.allSpec).bare.vars)=Xz:=Xg
theorem j6:((Rows.allUptoRow.stops==[]))=Xz:=Xg
theorem j7:((Tryz.pinned.checked.prog.stops==[]))=Xz:=Xg
theorem j8:((Rows.allUptoRow.knobs==[]))=Xz:=Xg
theorem j9:((Tryz.pinned.checked.prog.stopKnobs==[]))=Xz:=Xg
theorem NG:((Rows.allUptoRow.inPlace==Tryz.pinned.checked.prog.inPlace 3))=Xz:=Xg
theorem NF:((Rows.allUptoRow.unfollowed==Tryz.pinned.checked.prog.unfollowed 3))=Xz:=Xg
theorem ND:((Rows.allUptoRow.recurses==Tryz.pinned.checked.prog.recurses 3))=Xz:=Xg
theorem NC:((Rows.allUptoRow.named==Tryz.pinned.checked.prog.varsNamed 3))=Xz:=Xg
theorem NA:((Rows.allUptoRow.maps==(f3.params.toList++(Rows.OpenSpec.upto Rows.allSpec).bare.plain.varTypes Tryz.pinned.checked.prog).any (Tryz.pinned.checked.prog.mapsRec ·)))=Xz:=Xg
theorem Nz:((Rows.allUptoRow.ifaces==(f3.params.toList++(Rows.OpenSpec.upto Rows.allSpec).bare.plain.varTypes Tryz.pinned.checked.prog).any (Tryz.pinned.checked.prog.ifacesRec ·)))=Xz:=Xg
theorem Ny:((Rows.allUptoRow.mapsOut==Tryz.pinned.checked.prog.mapsAmong f3.resultTypes.toList))=Xz:=Xg
theorem Nx:((Rows.allUptoRow.loops==(f3.params.toList++(Rows.OpenSpec.upto Rows.allSpec).bare.plain.varTypes Tryz.pinned.checked.prog).any (Tryz.pinned.checked.prog.loopsFrom ·)))=Xz:=Xg
theorem Nw:((Rows.allUptoRow.wideKeys==(f3.params.toList++(Rows.OpenSpec.upto Rows.allSpec).bare.plain.varTypes Tryz.pinned.checked.prog++f3.resultTypes.toList).any (Tryz.pinned.checked.prog.wideKeysFrom ·)))=Xz:=Xg
theorem Nv:((Rows.OpenSpec.upto Rows.allSpec).bare.vars.all (Tryz.pinned.checked.prog.varReadable ·))=Xz:=Xg
theorem Nu:(f3.resultTypes.all (fun t=>Tryz.pinned.checked.prog.readableRec t && decide (t<Tryz.pinned.checked.prog.types.size)))=Xz:=Xg
theorem Nt:((Rows.allUptoRow.ifacesOut==f3.resultTypes.toList.any (Tryz.pinned.checked.prog.ifacesRec ·)))=Xz:=Xg
theorem Ns:((Rows.allUptoRow.loopsOut==f3.resultTypes.toList.any (Tryz.pinned.checked.prog.loopsFrom ·)))=Xz:=Xg
theorem Nr:((Rows.allUptoRow.plainKeys==Tryz.pinned.checked.prog.plainKeys))=Xz:=Xg
theorem Nq:(Rows.allUptoRow.shortTexts.isNone)=Xz:=Xg
theorem Np:(Tryz.pinned.checked.prog.stopsHeard)=Xz:=Xg
theorem Nn:(Tryz.pinned.checked.prog.mayEnter)=Xz:=Xg
theorem Nl:((Rows.allUptoRow.lifted==Tryz.pinned.checked.prog.liftsFinal))=Xz:=Xg
theorem Nk:((Tryz.pinned.checked.prog.make==some Rows.allUptoRow.make))=Xz:=Xg
theorem Nj:((Rows.allUptoRow.kinds==(if Rows.allUptoRow.domain.isEmpty then [] else f3.params.toList.map fun t=>match Tryz.pinned.checked.prog.underlying t with|some (.int k)=>some k|_=>none)))=Xz:=Xg
theorem Ni:((Rows.allUptoRow.pinned==Rows.allUptoRow.pinnedBy))=Xz:=Xg
theorem Nh:((Rows.allUptoRow.veiled==(f3.params.toList++(Rows.OpenSpec.upto Rows.allSpec).bare.plain.varTypes Tryz.pinned.checked.prog++f3.resultTypes.toList).any (Tryz.pinned.checked.prog.veiledRec ·)))=Xz:=Xg
theorem Ng:(Rows.allUptoRow.veiledFits Tryz.pinned.checked.prog f3.params.toList (f3.params.toList++(Rows.OpenSpec.upto Rows.allSpec).bare.plain.varTypes Tryz.pinned.checked.prog++f3.resultTypes.toList))=Xz:=Xg
end Go.Proofs.YtolaacmheeaadaaGreatDoor.allLaw
