/-
  The closed facts of the row of Series.
-/
import Derived.Test.YtfigmlfdnickmaaGreatDoorL12
set_option maxRecDepth 100000
set_option maxHeartbeats 8000000
open Go.Proofs.Tryz
open Bool renaming true->U6
namespace Go.Proofs.YtfigmlfdnickmaaGreatDoor.seriesLaw
open Go
theorem fK{a b:Bool}(h:a=U6)(k:b=U6):(a && b)=U6:=by rw[h,k];rfl
theorem j1:(Rows.seriesUptoRow.wf (OpenSpec.ofChange (Rows.OpenSpec.upto Rows.seriesSpec).bare))=U6:=UO
theorem j2:(laidOutB pinned.checked.prog)=U6:=UO
theorem j3:(mapsRowed pinned.checked.prog)=U6:=UO
theorem j4:(f6.params.all (pinned.checked.prog.readableRec ·))=U6:=UO
theorem j5:(namedTie pinned.checked.prog Rows.seriesUptoRow.named (Rows.OpenSpec.upto Rows.seriesSpec).bare.vars)=U6:=UO
theorem j6:((Rows.seriesUptoRow.stops==[]))=U6:=UO
theorem j7:((pinned.checked.prog.stops==[]))=U6:=UO
theorem j8:((Rows.seriesUptoRow.knobs==[]))=U6:=UO
theorem j9:((pinned.checked.prog.stopKnobs==[]))=U6:=UO
theorem J4:((Rows.seriesUptoRow.inPlace==pinned.checked.prog.inPlace 6))=U6:=UO
theorem J3:((Rows.seriesUptoRow.unfollowed==pinned.checked.prog.unfollowed 6))=U6:=UO
theorem J2:((Rows.seriesUptoRow.recurses==pinned.checked.prog.recurses 6))=U6:=UO
theorem J1:((Rows.seriesUptoRow.named==pinned.checked.prog.varsNamed 6))=U6:=UO
theorem J0:((Rows.seriesUptoRow.maps==(f6.params.toList++(Rows.OpenSpec.upto Rows.seriesSpec).bare.plain.varTypes pinned.checked.prog).any (pinned.checked.prog.mapsRec ·)))=U6:=UO
theorem JZ:((Rows.seriesUptoRow.ifaces==(f6.params.toList++(Rows.OpenSpec.upto Rows.seriesSpec).bare.plain.varTypes pinned.checked.prog).any (pinned.checked.prog.ifacesRec ·)))=U6:=UO
theorem JY:((Rows.seriesUptoRow.mapsOut==pinned.checked.prog.mapsAmong f6.resultTypes.toList))=U6:=UO
theorem JX:((Rows.seriesUptoRow.loops==(f6.params.toList++(Rows.OpenSpec.upto Rows.seriesSpec).bare.plain.varTypes pinned.checked.prog).any (pinned.checked.prog.loopsFrom ·)))=U6:=UO
theorem JW:((Rows.seriesUptoRow.wideKeys==(f6.params.toList++(Rows.OpenSpec.upto Rows.seriesSpec).bare.plain.varTypes pinned.checked.prog++f6.resultTypes.toList).any (pinned.checked.prog.wideKeysFrom ·)))=U6:=UO
theorem JV:((Rows.OpenSpec.upto Rows.seriesSpec).bare.vars.all (pinned.checked.prog.varReadable ·))=U6:=UO
theorem JU:(f6.resultTypes.all (fun t=>pinned.checked.prog.readableRec t && decide (t<pinned.checked.prog.types.size)))=U6:=UO
theorem JT:((Rows.seriesUptoRow.ifacesOut==f6.resultTypes.toList.any (pinned.checked.prog.ifacesRec ·)))=U6:=UO
theorem JS:((Rows.seriesUptoRow.loopsOut==f6.resultTypes.toList.any (pinned.checked.prog.loopsFrom ·)))=U6:=UO
theorem JR:((Rows.seriesUptoRow.plainKeys==pinned.checked.prog.plainKeys))=U6:=UO
theorem JQ:(Rows.seriesUptoRow.shortTexts.isNone)=U6:=UO
theorem JP:(pinned.checked.prog.stopsHeard)=U6:=UO
theorem JO:(pinned.checked.prog.mayEnter)=U6:=UO
theorem JM:((Rows.seriesUptoRow.lifted==pinned.checked.prog.liftsFinal))=U6:=UO
theorem JL:((pinned.checked.prog.make==some Rows.seriesUptoRow.make))=U6:=UO
theorem JK:((Rows.seriesUptoRow.kinds==(if Rows.seriesUptoRow.domain.isEmpty then [] else f6.params.toList.map fun t=>match pinned.checked.prog.underlying t with|some (.int k)=>some k|_=>none)))=U6:=UO
theorem JJ:((Rows.seriesUptoRow.pinned==Rows.seriesUptoRow.pinnedBy))=U6:=UO
theorem JI:((Rows.seriesUptoRow.veiled==(f6.params.toList++(Rows.OpenSpec.upto Rows.seriesSpec).bare.plain.varTypes pinned.checked.prog++f6.resultTypes.toList).any (pinned.checked.prog.veiledRec ·)))=U6:=UO
theorem JH:(Rows.seriesUptoRow.veiledFits pinned.checked.prog f6.params.toList (f6.params.toList++(Rows.OpenSpec.upto Rows.seriesSpec).bare.plain.varTypes pinned.checked.prog++f6.resultTypes.toList))=U6:=UO
end Go.Proofs.YtfigmlfdnickmaaGreatDoor.seriesLaw
