/-
  The closed facts of the row of All.
-/
import Derived.Test.YtolaacmheeaadaaGreatDoorL13
set_option maxRecDepth 100000
set_option maxHeartbeats 8000000
open Go.Proofs.Tryz
open Bool renaming true->Xy
namespace Go.Proofs.YtolaacmheeaadaaGreatDoor.allLaw
open Go
theorem iI{a b:Bool}(h:a=Xy)(k:b=Xy):(a && b)=Xy:=by rw[h,k];rfl
theorem j1:(Rows.allUptoRow.wf (OpenSpec.ofChange (Rows.OpenSpec.upto Rows.allSpec).bare))=Xy:=Xg
theorem j2:(laidOutB Tryz.pinned.checked.prog)=Xy:=Xg
theorem j3:(mapsRowed Tryz.pinned.checked.prog)=Xy:=Xg
theorem j4:(f3.params.all (Tryz.pinned.checked.prog.readableRec ·))=Xy:=Xg
theorem j5:(namedTie Tryz.pinned.checked.prog Rows.allUptoRow.named (Rows.OpenSpec.upto Rows.allSpec).bare.vars)=Xy:=Xg
theorem j6:((Rows.allUptoRow.stops==[]))=Xy:=Xg
theorem j7:((Tryz.pinned.checked.prog.stops==[]))=Xy:=Xg
theorem j8:((Rows.allUptoRow.knobs==[]))=Xy:=Xg
theorem j9:((Tryz.pinned.checked.prog.stopKnobs==[]))=Xy:=Xg
theorem NH:((Rows.allUptoRow.inPlace==Tryz.pinned.checked.prog.inPlace 3))=Xy:=Xg
theorem NG:((Rows.allUptoRow.unfollowed==Tryz.pinned.checked.prog.unfollowed 3))=Xy:=Xg
theorem NF:((Rows.allUptoRow.recurses==Tryz.pinned.checked.prog.recurses 3))=Xy:=Xg
theorem ND:((Rows.allUptoRow.named==Tryz.pinned.checked.prog.varsNamed 3))=Xy:=Xg
theorem NC:((Rows.allUptoRow.maps==(f3.params.toList++(Rows.OpenSpec.upto Rows.allSpec).bare.plain.varTypes Tryz.pinned.checked.prog).any (Tryz.pinned.checked.prog.mapsRec ·)))=Xy:=Xg
theorem NA:((Rows.allUptoRow.ifaces==(f3.params.toList++(Rows.OpenSpec.upto Rows.allSpec).bare.plain.varTypes Tryz.pinned.checked.prog).any (Tryz.pinned.checked.prog.ifacesRec ·)))=Xy:=Xg
theorem Nz:((Rows.allUptoRow.mapsOut==Tryz.pinned.checked.prog.mapsAmong f3.resultTypes.toList))=Xy:=Xg
theorem Ny:((Rows.allUptoRow.loops==(f3.params.toList++(Rows.OpenSpec.upto Rows.allSpec).bare.plain.varTypes Tryz.pinned.checked.prog).any (Tryz.pinned.checked.prog.loopsFrom ·)))=Xy:=Xg
theorem Nx:((Rows.allUptoRow.wideKeys==(f3.params.toList++(Rows.OpenSpec.upto Rows.allSpec).bare.plain.varTypes Tryz.pinned.checked.prog++f3.resultTypes.toList).any (Tryz.pinned.checked.prog.wideKeysFrom ·)))=Xy:=Xg
theorem Nw:((Rows.OpenSpec.upto Rows.allSpec).bare.vars.all (Tryz.pinned.checked.prog.varReadable ·))=Xy:=Xg
theorem Nv:(f3.resultTypes.all (fun t=>Tryz.pinned.checked.prog.readableRec t && decide (t<Tryz.pinned.checked.prog.types.size)))=Xy:=Xg
theorem Nu:((Rows.allUptoRow.ifacesOut==f3.resultTypes.toList.any (Tryz.pinned.checked.prog.ifacesRec ·)))=Xy:=Xg
theorem Nt:((Rows.allUptoRow.loopsOut==f3.resultTypes.toList.any (Tryz.pinned.checked.prog.loopsFrom ·)))=Xy:=Xg
theorem Ns:((Rows.allUptoRow.plainKeys==Tryz.pinned.checked.prog.plainKeys))=Xy:=Xg
theorem Nr:(Rows.allUptoRow.shortTexts.isNone)=Xy:=Xg
theorem Nq:(Tryz.pinned.checked.prog.stopsHeard)=Xy:=Xg
theorem Np:(Tryz.pinned.checked.prog.mayEnter)=Xy:=Xg
theorem Nn:((Rows.allUptoRow.lifted==Tryz.pinned.checked.prog.liftsFinal))=Xy:=Xg
theorem Nl:((Tryz.pinned.checked.prog.make==some Rows.allUptoRow.make))=Xy:=Xg
theorem Nk:((Rows.allUptoRow.kinds==(if Rows.allUptoRow.domain.isEmpty then [] else f3.params.toList.map fun t=>match Tryz.pinned.checked.prog.underlying t with|some (.int k)=>some k|_=>none)))=Xy:=Xg
theorem Nj:((Rows.allUptoRow.pinned==Rows.allUptoRow.pinnedBy))=Xy:=Xg
theorem Ni:((Rows.allUptoRow.veiled==(f3.params.toList++(Rows.OpenSpec.upto Rows.allSpec).bare.plain.varTypes Tryz.pinned.checked.prog++f3.resultTypes.toList).any (Tryz.pinned.checked.prog.veiledRec ·)))=Xy:=Xg
theorem Nh:(Rows.allUptoRow.veiledFits Tryz.pinned.checked.prog f3.params.toList (f3.params.toList++(Rows.OpenSpec.upto Rows.allSpec).bare.plain.varTypes Tryz.pinned.checked.prog++f3.resultTypes.toList))=Xy:=Xg
end Go.Proofs.YtolaacmheeaadaaGreatDoor.allLaw
