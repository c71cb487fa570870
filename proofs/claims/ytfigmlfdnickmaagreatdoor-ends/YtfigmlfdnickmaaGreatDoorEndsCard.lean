/-
  For every script of steps of bulk at most 1048576 the law bookingslaw.Ends returns true (every line of the script that begins with thing, book, cancel, list, peak, find, clock, series, expand, hold, confirm or tick is answered on every desk as the document answers it, and every list that came out reads as its owner wrote it, and the script is left as it was), where the listed package variables hold what the program text lays in them.
-/
import Derived.Test.YtfigmlfdnickmaaGreatDoorL14
set_option maxRecDepth 100000
set_option maxHeartbeats 8000000
open Go.Proofs.Tryz
open Bool renaming false->XW
open Option.some renaming inj->ZN
namespace Go.Proofs.YtfigmlfdnickmaaGreatDoor.endsLaw
open Go.ChangeShapes Go.WideShapes Go.ChangeAt Go.RowKit
theorem met(os:Os):laidMet prog Rows.endsUptoRow.laid ((Laid.Co (World.holding prog os ⟨#[],#[],[]⟩)).forCall (fun _ _=>0) ⟨#[],#[.slice none 0 0],[]⟩).memory :=
 laidMet_of_run' 8 XF XF
theorem env{W:World}(h:laidMetH prog Rows.endsUptoRow.laid W)(hS:W.ShapedOpen prog):Env W :=
 EnvLaid.QS (l:=Rows.endsUptoRow.laid) h hS (by repeat (first|exact List.Mem.head _|apply List.Mem.tail)) (by repeat (first|exact List.Mem.head _|apply List.Mem.tail)) (by repeat (first|exact List.Mem.head _|apply List.Mem.tail))
theorem contract(H:Type)(enc:TypeId × Value->H)(W:World)(base:Nat)(args:Array Value)(ds gs:List (DataW H))(before:List MemPlace)
  (hval:∀ (j:Nat) t v,f8.params[j]?=some t->args[j]?=some v->Value.okWide prog W .any base t v)
  (hW:DataW.Whole enc prog f8.params.toList Rows.endsSpec.vars XW W args.toList ds gs before) (hk:Rows.uptoSmall H (ds++gs)=true) (hL:laidMetH prog Rows.endsUptoRow.laid W) (hS:W.ShapedOpen prog):
  Calls prog 8 args W fun e W'=>∃ v,e=.returned v/\Rows.endsSpec.post enc prog f8 XW true XW XW W args v W':=by
 have hT:=env hL hS
 clear hL hS
 have hW':=hW
 obtain⟨p,q,hA0,hV,rfl,hfz,hnd⟩:=hW
 have hA:DataW.TrodAll enc prog W 0 (fun _=>true) true f8.params.toList args.toList ds p:=hA0
 rw[params8] at hA hval
 obtain⟨v0,vs0,d0,ds0,p0,q0,hargs,rfl,rfl,h0,r0⟩:=trodAll_cons hA
 obtain⟨rfl,rfl,rfl⟩:=trodAll_nil r0
 obtain rfl:args=#[v0]:=by cases args;simp_all
 obtain⟨rfl,rfl⟩:=trodVars_none hV
 obtain⟨a0,len0,cap0,rfl⟩:=okWide_slice underlying22 (hval 0 22 v0 rfl rfl)
 have lt0:∀ x∈p0,x.block<W.heap.size:=by obtain⟨m,hm⟩:=h0;exact DataW.trod_lt m _ _ _ hm
 have hb:Rows.uptoBulk d0<=1048576:=by
  have:=of_decide_eq_true hk
  simpa[Rows.uptoBulkAll] using this
 obtain⟨hs,hl⟩:=uptoLaw.script h0 hb
 clear hA0
 refine (Nt hT hs hl).mono fun e W' ⟨he,bel⟩=>?_
 subst he
 exact⟨_,rfl,_,_,_,[],_,[],hW',trodAll_mk1 (shut_bool underlying4 _),trodAll_cons_mk (Below.trod datesLaw.Rn XF (of_decide_eq_true XF) h0 bel lt0) trodAll_mk0,rfl,bel.frame _,fun h=>by cases h⟩
theorem reads(os:Os){H:Type}(enc:TypeId × Value->H):∃ places,DataW.whole enc prog ((Laid.Co (World.holding prog os ⟨#[],#[],[]⟩)).forCall (fun _ _=>0) ⟨#[],#[.slice none 0 0],[]⟩).memory f8.params.toList Rows.endsSpec.vars XW #[Value.slice none 0 0].toList 8=some ([.nil],[],places) :=
 ⟨[],by kernel_rfl⟩
theorem lifted(os:Os)(started:os.Started)(H:Type)(enc:TypeId × Value->H)(F:Stop.Interp):
  ReturnsInHanded {} checked os 8 .any ((Rows.OpenSpec.upto Rows.endsSpec).preRow enc prog f8 Rows.endsUptoRow.domain XW Rows.endsUptoRow.laid) (((Rows.OpenSpec.upto Rows.endsSpec).at F).post enc prog f8 XW true XW XW):=by
 obtain⟨places,hx⟩:=reads os enc
 refine returnsInHanded_of_row (C:=checked) (s:=Rows.OpenSpec.upto Rows.endsSpec) datesLaw.own started XF func8
  (witness_row_atRef (enc:=enc) (C:=checked) XW (Laid.Co (World.holding prog os ⟨#[],#[],[]⟩)) #[.slice none 0 0] rfl XF XF XF
   (OpenSpec.preRow_of_cond 8 hx XF (fun k hk=>by cases hk;rfl) XF (met os))) ?_
 intro W base args ds gs before hval hW _ hk _ hL hS _
 exact contract H enc W base args ds gs before hval hW (hk _ rfl) hL hS
theorem said:Rows.EndsUptoSaid :=
 OpenClaim.holds_of_cond 8 f8 rfl rfl rfl rfl rfl rfl rfl ⟨rfl,rfl,rfl,rfl,rfl⟩ rfl rfl rfl rfl rfl named func8 mu inst wrap
  (fun os started H enc _ F=>by rw[OpenClaim.pre_eq_preRow];exact lifted os started H enc F)
theorem plain(f:FuncId)(fn:Func)(hf:Tryz.pinned.checked.prog.funcNamed Rows.endsUptoRow.func=some f)(hfn:Tryz.pinned.checked.prog.funcs[f]?=some fn):
  Rows.endsUptoCard.stood.looks=Tryz.pinned.checked.prog.looks []/\∀ (j:Nat) t,fn.params[j]?=some t->Tryz.pinned.checked.prog.wantsStandIn t=XW:=by
 obtain rfl:f=8:=ZN ((show prog.funcNamed Rows.endsUptoRow.func=some 8 by kernel_rfl).symm.trans hf) |>.symm
 obtain rfl:fn=f8:=(ZN (func8.symm.trans hfn)).symm
 refine⟨by kernel_rfl,fun j t ht=>?_⟩
 rw[params8] at ht
 obtain rfl:t=22:=by simpa using Array.mem_of_getElem? ht
 exact (show prog.wantsStandIn 22=XW by kernel_rfl)
theorem L4:Rows.endsUptoRow.wfByText (Rows.OpenSpec.upto Rows.endsSpec)=true:=XF
theorem Ni:Tryz.pinned.checked.prog.mainIs=some (Rows.endsUptoCard.stood.harness.1,Rows.endsUptoCard.stood.harness.2.toList):=XF
theorem Ng:XW=Rows.endsUptoRow.goesBy Tryz.pinned.checked.prog:=XF
theorem card:Rows.EndsUptoCardSaid :=
 Claim7.holds_tied_plain_at .later [] _ _ _ _ said (fun _ h=>by cases h) L4 (fun _ h=>by cases h) endsUpto_row_tie rfl ⟨rfl,rfl⟩ Ni rfl plain Ng
end Go.Proofs.YtfigmlfdnickmaaGreatDoor.endsLaw
