/-
  The closed facts of the row of Series.
-/
import Derived.Test.YtfigmlfdnickmaaGreatDoorL11
set_option maxRecDepth 100000
set_option maxHeartbeats 8000000
open Go.Proofs.Tryz
open Bool renaming true->Vg
namespace Go.Proofs.YtfigmlfdnickmaaGreatDoor.seriesLaw
open Go
theorem fK{a b:Bool}(h:a=Vg)(k:b=Vg):(a && b)=Vg:=by rw[h,k];rfl
theorem j1:(Rows.seriesUptoRow.wf (OpenSpec.ofChange (Rows.OpenSpec.upto Rows.seriesSpec).bare))=Vg:=UZ
theorem j2:(laidOutB Tryz.pinned.checked.prog)=Vg:=UZ
theorem j3:(mapsRowed Tryz.pinned.checked.prog)=Vg:=UZ
theorem j4:(f6.params.all (Tryz.pinned.checked.prog.readableRec ·))=Vg:=UZ
theorem j5:(namedTie Tryz.pinned.checked.prog Rows.seriesUptoRow.named (Rows.OpenSpec.upto Rows.seriesSpec).bare.vars)=Vg:=UZ
theorem j6:((Rows.seriesUptoRow.stops==[]))=Vg:=UZ
theorem j7:((Tryz.pinned.checked.prog.stops==[]))=Vg:=UZ
theorem j8:((Rows.seriesUptoRow.knobs==[]))=Vg:=UZ
theorem j9:((Tryz.pinned.checked.prog.stopKnobs==[]))=Vg:=UZ
theorem Ka:((Rows.seriesUptoRow.inPlace==Tryz.pinned.checked.prog.inPlace 6))=Vg:=UZ
theorem J9:((Rows.seriesUptoRow.unfollowed==Tryz.pinned.checked.prog.unfollowed 6))=Vg:=UZ
theorem J8:((Rows.seriesUptoRow.recurses==Tryz.pinned.checked.prog.recurses 6))=Vg:=UZ
theorem J7:((Rows.seriesUptoRow.named==Tryz.pinned.checked.prog.varsNamed 6))=Vg:=UZ
theorem J6:((Rows.seriesUptoRow.maps==(f6.params.toList++(Rows.OpenSpec.upto Rows.seriesSpec).bare.plain.varTypes Tryz.pinned.checked.prog).any (Tryz.pinned.checked.prog.mapsRec ·)))=Vg:=UZ
theorem J5:((Rows.seriesUptoRow.ifaces==(f6.params.toList++(Rows.OpenSpec.upto Rows.seriesSpec).bare.plain.varTypes Tryz.pinned.checked.prog).any (Tryz.pinned.checked.prog.ifacesRec ·)))=Vg:=UZ
theorem J4:((Rows.seriesUptoRow.mapsOut==Tryz.pinned.checked.prog.mapsAmong f6.resultTypes.toList))=Vg:=UZ
theorem J3:((Rows.seriesUptoRow.loops==(f6.params.toList++(Rows.OpenSpec.upto Rows.seriesSpec).bare.plain.varTypes Tryz.pinned.checked.prog).any (Tryz.pinned.checked.prog.loopsFrom ·)))=Vg:=UZ
theorem J2:((Rows.seriesUptoRow.wideKeys==(f6.params.toList++(Rows.OpenSpec.upto Rows.seriesSpec).bare.plain.varTypes Tryz.pinned.checked.prog++f6.resultTypes.toList).any (Tryz.pinned.checked.prog.wideKeysFrom ·)))=Vg:=UZ
theorem J1:((Rows.OpenSpec.upto Rows.seriesSpec).bare.vars.all (Tryz.pinned.checked.prog.varReadable ·))=Vg:=UZ
theorem J0:(f6.resultTypes.all (fun t=>Tryz.pinned.checked.prog.readableRec t && decide (t<Tryz.pinned.checked.prog.types.size)))=Vg:=UZ
theorem JZ:((Rows.seriesUptoRow.ifacesOut==f6.resultTypes.toList.any (Tryz.pinned.checked.prog.ifacesRec ·)))=Vg:=UZ
theorem JY:((Rows.seriesUptoRow.loopsOut==f6.resultTypes.toList.any (Tryz.pinned.checked.prog.loopsFrom ·)))=Vg:=UZ
theorem JX:((Rows.seriesUptoRow.plainKeys==Tryz.pinned.checked.prog.plainKeys))=Vg:=UZ
theorem JW:(Rows.seriesUptoRow.shortTexts.isNone)=Vg:=UZ
theorem JV:(Tryz.pinned.checked.prog.stopsHeard)=Vg:=UZ
theorem JU:(Tryz.pinned.checked.prog.mayEnter)=Vg:=UZ
theorem JT:((Rows.seriesUptoRow.lifted==Tryz.pinned.checked.prog.liftsFinal))=Vg:=UZ
theorem JS:((Tryz.pinned.checked.prog.make==some Rows.seriesUptoRow.make))=Vg:=UZ
theorem JR:((Rows.seriesUptoRow.kinds==(if Rows.seriesUptoRow.domain.isEmpty then [] else f6.params.toList.map fun t=>match Tryz.pinned.checked.prog.underlying t with|some (.int k)=>some k|_=>none)))=Vg:=UZ
theorem JQ:((Rows.seriesUptoRow.pinned==Rows.seriesUptoRow.pinnedBy))=Vg:=UZ
theorem JP:((Rows.seriesUptoRow.veiled==(f6.params.toList++(Rows.OpenSpec.upto Rows.seriesSpec).bare.plain.varTypes Tryz.pinned.checked.prog++f6.resultTypes.toList).any (Tryz.pinned.checked.prog.veiledRec ·)))=Vg:=UZ
theorem JO:(Rows.seriesUptoRow.veiledFits Tryz.pinned.checked.prog f6.params.toList (f6.params.toList++(Rows.OpenSpec.upto Rows.seriesSpec).bare.plain.varTypes Tryz.pinned.checked.prog++f6.resultTypes.toList))=Vg:=UZ
end Go.Proofs.YtfigmlfdnickmaaGreatDoor.seriesLaw
