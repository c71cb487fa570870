/-
  The closed facts of the row of All.
-/
import Derived.Test.YtolaacmheeaadaaGreatDoorL13
set_option maxRecDepth 100000
set_option maxHeartbeats 8000000
open Go.Proofs.Tryz
open Bool renaming true->UE
namespace Go.Proofs.YtolaacmheeaadaaGreatDoor.allLaw
open Go
theorem iH{a b:Bool}(h:a=UE)(k:b=UE):(a && b)=UE:=by rw[h,k];rfl
theorem j1:(Rows.allUptoRow.wf (OpenSpec.ofChange (Rows.OpenSpec.upto Rows.allSpec).bare))=UE:=Um
theorem j2:(laidOutB Tryz.pinned.checked.prog)=UE:=Um
theorem j3:(mapsRowed Tryz.pinned.checked.prog)=UE:=Um
theorem j4:(f3.params.all (Tryz.pinned.checked.prog.readableRec ·))=UE:=Um
theorem j5:(namedTie Tryz.pinned.checked.prog Rows.allUptoRow.named (Rows.OpenSpec.upto Rows.allSpec).bare.vars)=UE:=Um
theorem j6:((Rows.allUptoRow.stops==[]))=UE:=Um
theorem j7:((Tryz.pinned.checked.prog.stops==[]))=UE:=Um
theorem j8:((Rows.allUptoRow.knobs==[]))=UE:=Um
theorem j9:((Tryz.pinned.checked.prog.stopKnobs==[]))=UE:=Um
theorem NK:((Rows.allUptoRow.inPlace==Tryz.pinned.checked.prog.inPlace 3))=UE:=Um
theorem NJ:((Rows.allUptoRow.unfollowed==Tryz.pinned.checked.prog.unfollowed 3))=UE:=Um
theorem NH:((Rows.allUptoRow.recurses==Tryz.pinned.checked.prog.recurses 3))=UE:=Um
theorem NG:((Rows.allUptoRow.named==Tryz.pinned.checked.prog.varsNamed 3))=UE:=Um
theorem NF:((Rows.allUptoRow.maps==(f3.params.toList++(Rows.OpenSpec.upto Rows.allSpec).bare.plain.varTypes Tryz.pinned.checked.prog).any (Tryz.pinned.checked.prog.mapsRec ·)))=UE:=Um
theorem ND:((Rows.allUptoRow.ifaces==(f3.params.toList++(Rows.OpenSpec.upto Rows.allSpec).bare.plain.varTypes Tryz.pinned.checked.prog).any (Tryz.pinned.checked.prog.ifacesRec ·)))=UE:=Um
theorem NC:((Rows.allUptoRow.mapsOut==Tryz.pinned.checked.prog.mapsAmong f3.resultTypes.toList))=UE:=Um
theorem NA:((Rows.allUptoRow.loops==(f3.params.toList++(Rows.OpenSpec.upto Rows.allSpec).bare.plain.varTypes Tryz.pinned.checked.prog).any (Tryz.pinned.checked.prog.loopsFrom ·)))=UE:=Um
theorem Nz:((Rows.allUptoRow.wideKeys==(f3.params.toList++(Rows.OpenSpec.upto Rows.allSpec).bare.plain.varTypes Tryz.pinned.checked.prog++f3.resultTypes.toList).any (Tryz.pinned.checked.prog.wideKeysFrom ·)))=UE:=Um
theorem Ny:((Rows.OpenSpec.upto Rows.allSpec).bare.vars.all (Tryz.pinned.checked.prog.varReadable ·))=UE:=Um
theorem Nx:(f3.resultTypes.all (fun t=>Tryz.pinned.checked.prog.readableRec t && decide (t<Tryz.pinned.checked.prog.types.size)))=UE:=Um
theorem Nw:((Rows.allUptoRow.ifacesOut==f3.resultTypes.toList.any (Tryz.pinned.checked.prog.ifacesRec ·)))=UE:=Um
theorem Nv:((Rows.allUptoRow.loopsOut==f3.resultTypes.toList.any (Tryz.pinned.checked.prog.loopsFrom ·)))=UE:=Um
theorem Nu:((Rows.allUptoRow.plainKeys==Tryz.pinned.checked.prog.plainKeys))=UE:=Um
theorem Nt:(Rows.allUptoRow.shortTexts.isNone)=UE:=Um
theorem Ns:(Tryz.pinned.checked.prog.stopsHeard)=UE:=Um
theorem Nr:(Tryz.pinned.checked.prog.mayEnter)=UE:=Um
theorem Nq:((Rows.allUptoRow.lifted==Tryz.pinned.checked.prog.liftsFinal))=UE:=Um
theorem Np:((Tryz.pinned.checked.prog.make==some Rows.allUptoRow.make))=UE:=Um
theorem Nn:((Rows.allUptoRow.kinds==(if Rows.allUptoRow.domain.isEmpty then [] else f3.params.toList.map fun t=>match Tryz.pinned.checked.prog.underlying t with|some (.int k)=>some k|_=>none)))=UE:=Um
theorem Nl:((Rows.allUptoRow.pinned==Rows.allUptoRow.pinnedBy))=UE:=Um
theorem Nk:((Rows.allUptoRow.veiled==(f3.params.toList++(Rows.OpenSpec.upto Rows.allSpec).bare.plain.varTypes Tryz.pinned.checked.prog++f3.resultTypes.toList).any (Tryz.pinned.checked.prog.veiledRec ·)))=UE:=Um
theorem Nj:(Rows.allUptoRow.veiledFits Tryz.pinned.checked.prog f3.params.toList (f3.params.toList++(Rows.OpenSpec.upto Rows.allSpec).bare.plain.varTypes Tryz.pinned.checked.prog++f3.resultTypes.toList))=UE:=Um
end Go.Proofs.YtolaacmheeaadaaGreatDoor.allLaw
