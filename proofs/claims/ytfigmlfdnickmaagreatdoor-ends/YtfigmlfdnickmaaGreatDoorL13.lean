/-
  The closed facts of the row of Ends.
-/
import Derived.Test.YtfigmlfdnickmaaGreatDoorL12
set_option maxRecDepth 100000
set_option maxHeartbeats 8000000
open Go.Proofs.Tryz
open Bool renaming true->XX
namespace Go.Proofs.YtfigmlfdnickmaaGreatDoor.endsLaw
open Go
theorem gG{a b:Bool}(h:a=XX)(k:b=XX):(a && b)=XX:=by rw[h,k];rfl
theorem j1:(Rows.endsUptoRow.wf (OpenSpec.ofChange (Rows.OpenSpec.upto Rows.endsSpec).bare))=XX:=XF
theorem j2:(laidOutB Tryz.pinned.checked.prog)=XX:=XF
theorem j3:(mapsRowed Tryz.pinned.checked.prog)=XX:=XF
theorem j4:(f8.params.all (Tryz.pinned.checked.prog.readableRec ·))=XX:=XF
theorem j5:(namedTie Tryz.pinned.checked.prog Rows.endsUptoRow.named (Rows.OpenSpec.upto Rows.endsSpec).bare.vars)=XX:=XF
theorem j6:((Rows.endsUptoRow.stops==[]))=XX:=XF
theorem j7:((Tryz.pinned.checked.prog.stops==[]))=XX:=XF
theorem j8:((Rows.endsUptoRow.knobs==[]))=XX:=XF
theorem j9:((Tryz.pinned.checked.prog.stopKnobs==[]))=XX:=XF
theorem My:((Rows.endsUptoRow.inPlace==Tryz.pinned.checked.prog.inPlace 8))=XX:=XF
theorem Mx:((Rows.endsUptoRow.unfollowed==Tryz.pinned.checked.prog.unfollowed 8))=XX:=XF
theorem Mw:((Rows.endsUptoRow.recurses==Tryz.pinned.checked.prog.recurses 8))=XX:=XF
theorem Mv:((Rows.endsUptoRow.named==Tryz.pinned.checked.prog.varsNamed 8))=XX:=XF
theorem Mu:((Rows.endsUptoRow.maps==(f8.params.toList++(Rows.OpenSpec.upto Rows.endsSpec).bare.plain.varTypes Tryz.pinned.checked.prog).any (Tryz.pinned.checked.prog.mapsRec ·)))=XX:=XF
theorem Mt:((Rows.endsUptoRow.ifaces==(f8.params.toList++(Rows.OpenSpec.upto Rows.endsSpec).bare.plain.varTypes Tryz.pinned.checked.prog).any (Tryz.pinned.checked.prog.ifacesRec ·)))=XX:=XF
theorem Ms:((Rows.endsUptoRow.mapsOut==Tryz.pinned.checked.prog.mapsAmong f8.resultTypes.toList))=XX:=XF
theorem Mr:((Rows.endsUptoRow.loops==(f8.params.toList++(Rows.OpenSpec.upto Rows.endsSpec).bare.plain.varTypes Tryz.pinned.checked.prog).any (Tryz.pinned.checked.prog.loopsFrom ·)))=XX:=XF
theorem Mq:((Rows.endsUptoRow.wideKeys==(f8.params.toList++(Rows.OpenSpec.upto Rows.endsSpec).bare.plain.varTypes Tryz.pinned.checked.prog++f8.resultTypes.toList).any (Tryz.pinned.checked.prog.wideKeysFrom ·)))=XX:=XF
theorem Mp:((Rows.OpenSpec.upto Rows.endsSpec).bare.vars.all (Tryz.pinned.checked.prog.varReadable ·))=XX:=XF
theorem Mo:(f8.resultTypes.all (fun t=>Tryz.pinned.checked.prog.readableRec t && decide (t<Tryz.pinned.checked.prog.types.size)))=XX:=XF
theorem Mn:((Rows.endsUptoRow.ifacesOut==f8.resultTypes.toList.any (Tryz.pinned.checked.prog.ifacesRec ·)))=XX:=XF
theorem Mm:((Rows.endsUptoRow.loopsOut==f8.resultTypes.toList.any (Tryz.pinned.checked.prog.loopsFrom ·)))=XX:=XF
theorem Ml:((Rows.endsUptoRow.plainKeys==Tryz.pinned.checked.prog.plainKeys))=XX:=XF
theorem Mk:(Rows.endsUptoRow.shortTexts.isNone)=XX:=XF
theorem Mj:(Tryz.pinned.checked.prog.stopsHeard)=XX:=XF
theorem Mi:(Tryz.pinned.checked.prog.mayEnter)=XX:=XF
theorem Mh:((Rows.endsUptoRow.lifted==Tryz.pinned.checked.prog.liftsFinal))=XX:=XF
theorem Mg:((Tryz.pinned.checked.prog.make==some Rows.endsUptoRow.make))=XX:=XF
theorem Mf:((Rows.endsUptoRow.kinds==(if Rows.endsUptoRow.domain.isEmpty then [] else f8.params.toList.map fun t=>match Tryz.pinned.checked.prog.underlying t with|some (.int k)=>some k|_=>none)))=XX:=XF
theorem Me:((Rows.endsUptoRow.pinned==Rows.endsUptoRow.pinnedBy))=XX:=XF
theorem Md:((Rows.endsUptoRow.veiled==(f8.params.toList++(Rows.OpenSpec.upto Rows.endsSpec).bare.plain.varTypes Tryz.pinned.checked.prog++f8.resultTypes.toList).any (Tryz.pinned.checked.prog.veiledRec ·)))=XX:=XF
theorem Mc:(Rows.endsUptoRow.veiledFits Tryz.pinned.checked.prog f8.params.toList (f8.params.toList++(Rows.OpenSpec.upto Rows.endsSpec).bare.plain.varTypes Tryz.pinned.checked.prog++f8.resultTypes.toList))=XX:=XF
end Go.Proofs.YtfigmlfdnickmaaGreatDoor.endsLaw
