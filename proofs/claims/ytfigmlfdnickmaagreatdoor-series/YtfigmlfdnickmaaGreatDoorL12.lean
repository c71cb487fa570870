/-
  The closed facts of the row of Series.
-/
import Derived.Test.YtfigmlfdnickmaaGreatDoorL11
set_option maxRecDepth 100000
set_option maxHeartbeats 8000000
open Go.Proofs.Tryz
open Bool renaming true->Vf
namespace Go.Proofs.YtfigmlfdnickmaaGreatDoor.seriesLaw
open Go
theorem fJ{a b:Bool}(h:a=Vf)(k:b=Vf):(a && b)=Vf:=by rw[h,k];rfl
theorem j1:(Rows.seriesUptoRow.wf (OpenSpec.ofChange (Rows.OpenSpec.upto Rows.seriesSpec).bare))=Vf:=UY
theorem j2:(laidOutB pinned.checked.prog)=Vf:=UY
theorem j3:(mapsRowed pinned.checked.prog)=Vf:=UY
theorem j4:(f6.params.all (pinned.checked.prog.readableRec ·))=Vf:=UY
theorem j5:(namedTie pinned.checked.prog Rows.seriesUptoRow.named (Rows.OpenSpec.upto Rows.seriesSpec).bare.vars)=Vf:=UY
theorem j6:((Rows.seriesUptoRow.stops==[]))=Vf:=UY
theorem j7:((pinned.checked.prog.stops==[]))=Vf:=UY
theorem j8:((Rows.seriesUptoRow.knobs==[]))=Vf:=UY
theorem j9:((pinned.checked.prog.stopKnobs==[]))=Vf:=UY
theorem J9:((Rows.seriesUptoRow.inPlace==pinned.checked.prog.inPlace 6))=Vf:=UY
theorem J8:((Rows.seriesUptoRow.unfollowed==pinned.checked.prog.unfollowed 6))=Vf:=UY
theorem J7:((Rows.seriesUptoRow.recurses==pinned.checked.prog.recurses 6))=Vf:=UY
theorem J6:((Rows.seriesUptoRow.named==pinned.checked.prog.varsNamed 6))=Vf:=UY
theorem J5:((Rows.seriesUptoRow.maps==(f6.params.toList++(Rows.OpenSpec.upto Rows.seriesSpec).bare.plain.varTypes pinned.checked.prog).any (pinned.checked.prog.mapsRec ·)))=Vf:=UY
theorem J4:((Rows.seriesUptoRow.ifaces==(f6.params.toList++(Rows.OpenSpec.upto Rows.seriesSpec).bare.plain.varTypes pinned.checked.prog).any (pinned.checked.prog.ifacesRec ·)))=Vf:=UY
theorem J3:((Rows.seriesUptoRow.mapsOut==pinned.checked.prog.mapsAmong f6.resultTypes.toList))=Vf:=UY
theorem J2:((Rows.seriesUptoRow.loops==(f6.params.toList++(Rows.OpenSpec.upto Rows.seriesSpec).bare.plain.varTypes pinned.checked.prog).any (pinned.checked.prog.loopsFrom ·)))=Vf:=UY
theorem J1:((Rows.seriesUptoRow.wideKeys==(f6.params.toList++(Rows.OpenSpec.upto Rows.seriesSpec).bare.plain.varTypes pinned.checked.prog++f6.resultTypes.toList).any (pinned.checked.prog.wideKeysFrom ·)))=Vf:=UY
theorem J0:((Rows.OpenSpec.upto Rows.seriesSpec).bare.vars.all (pinned.checked.prog.varReadable ·))=Vf:=UY
theorem JZ:(f6.resultTypes.all (fun t=>pinned.checked.prog.readableRec t && decide (t<pinned.checked.prog.types.size)))=Vf:=UY
theorem JY:((Rows.seriesUptoRow.ifacesOut==f6.resultTypes.toList.any (pinned.checked.prog.ifacesRec ·)))=Vf:=UY
theorem JX:((Rows.seriesUptoRow.loopsOut==f6.resultTypes.toList.any (pinned.checked.prog.loopsFrom ·)))=Vf:=UY
theorem JW:((Rows.seriesUptoRow.plainKeys==pinned.checked.prog.plainKeys))=Vf:=UY
theorem JV:(Rows.seriesUptoRow.shortTexts.isNone)=Vf:=UY
theorem JU:(pinned.checked.prog.stopsHeard)=Vf:=UY
theorem JT:(pinned.checked.prog.mayEnter)=Vf:=UY
theorem JS:((Rows.seriesUptoRow.lifted==pinned.checked.prog.liftsFinal))=Vf:=UY
theorem JR:((pinned.checked.prog.make==some Rows.seriesUptoRow.make))=Vf:=UY
theorem JQ:((Rows.seriesUptoRow.kinds==(if Rows.seriesUptoRow.domain.isEmpty then [] else f6.params.toList.map fun t=>match pinned.checked.prog.underlying t with|some (.int k)=>some k|_=>none)))=Vf:=UY
theorem JP:((Rows.seriesUptoRow.pinned==Rows.seriesUptoRow.pinnedBy))=Vf:=UY
theorem JO:((Rows.seriesUptoRow.veiled==(f6.params.toList++(Rows.OpenSpec.upto Rows.seriesSpec).bare.plain.varTypes pinned.checked.prog++f6.resultTypes.toList).any (pinned.checked.prog.veiledRec ·)))=Vf:=UY
theorem JM:(Rows.seriesUptoRow.veiledFits pinned.checked.prog f6.params.toList (f6.params.toList++(Rows.OpenSpec.upto Rows.seriesSpec).bare.plain.varTypes pinned.checked.prog++f6.resultTypes.toList))=Vf:=UY
end Go.Proofs.YtfigmlfdnickmaaGreatDoor.seriesLaw
