/-
  For every script of steps of bulk at most 1048576 the law bookingslaw.Series returns true (every line of the script that begins with thing, book, cancel, list, peak, find, clock, series or expand is answered on every desk as the document answers it, and every list that came out reads as its owner wrote it, and the script is left as it was), where the listed package variables hold what the program text lays in them.
-/
import Derived.Test.YtfigmlfdnickmaaGreatDoorL13
set_option maxRecDepth 100000
set_option maxHeartbeats 8000000
open Go.Proofs.Tryz
open Bool renaming false->Vf
open Option.some renaming inj->WY
namespace Go.Proofs.YtfigmlfdnickmaaGreatDoor.seriesLaw
open Go.ChangeShapes Go.WideShapes Go.ChangeAt Go.RowKit
theorem met(os:Os):laidMet prog Rows.seriesUptoRow.laid ((Laid.AB (World.holding prog os ⟨#[],#[],[]⟩)).forCall (fun _ _=>0) ⟨#[],#[.slice none 0 0],[]⟩).memory :=
 laidMet_of_run' 8 UZ UZ
theorem env{W:World}(h:laidMetH prog Rows.seriesUptoRow.laid W)(hS:W.ShapedOpen prog):Env W :=
 EnvLaid.Oi (l:=Rows.seriesUptoRow.laid) h hS (by repeat (first|exact List.Mem.head _|apply List.Mem.tail)) (by repeat (first|exact List.Mem.head _|apply List.Mem.tail)) (by repeat (first|exact List.Mem.head _|apply List.Mem.tail))
theorem contract(H:Type)(enc:TypeId × Value->H)(W:World)(base:Nat)(args:Array Value)(ds gs:List (DataW H))(before:List MemPlace)
  (hval:∀ (j:Nat) t v,f6.params[j]?=some t->args[j]?=some v->Value.okWide prog W .any base t v)
  (hW:DataW.Whole enc prog f6.params.toList Rows.seriesSpec.vars Vf W args.toList ds gs before) (hk:Rows.uptoSmall H (ds++gs)=true) (hL:laidMetH prog Rows.seriesUptoRow.laid W) (hS:W.ShapedOpen prog):
  Calls prog 6 args W fun e W'=>∃ v,e=.returned v/\Rows.seriesSpec.post enc prog f6 Vf true Vf Vf W args v W':=by
 have hT:=env hL hS
 clear hL hS
 have hW':=hW
 obtain⟨p,q,hA0,hV,rfl,hfz,hnd⟩:=hW
 have hA:DataW.TrodAll enc prog W 0 (fun _=>true) true f6.params.toList args.toList ds p:=hA0
 rw[params6] at hA hval
 obtain⟨v0,vs0,d0,ds0,p0,q0,hargs,rfl,rfl,h0,r0⟩:=trodAll_cons hA
 obtain⟨rfl,rfl,rfl⟩:=trodAll_nil r0
 obtain rfl:args=#[v0]:=by cases args;simp_all
 obtain⟨rfl,rfl⟩:=trodVars_none hV
 obtain⟨a0,len0,cap0,rfl⟩:=okWide_slice underlying22 (hval 0 22 v0 rfl rfl)
 have lt0:∀ x∈p0,x.block<W.heap.size:=by obtain⟨m,hm⟩:=h0;exact DataW.trod_lt m _ _ _ hm
 have hb:Rows.uptoBulk d0<=1048576:=by
  have:=of_decide_eq_true hk
  simpa[Rows.uptoBulkAll] using this
 obtain⟨hs,hl⟩:=uptoLaw.script h0 hb
 clear hA0
 refine (M8 hT hs hl).mono fun e W' ⟨he,bel⟩=>?_
 subst he
 exact⟨_,rfl,_,_,_,[],_,[],hW',trodAll_mk1 (shut_bool underlying4 _),trodAll_cons_mk (Below.trod datesLaw.OL UZ (of_decide_eq_true UZ) h0 bel lt0) trodAll_mk0,rfl,bel.frame _,fun h=>by cases h⟩
theorem reads(os:Os){H:Type}(enc:TypeId × Value->H):∃ places,DataW.whole enc prog ((Laid.AB (World.holding prog os ⟨#[],#[],[]⟩)).forCall (fun _ _=>0) ⟨#[],#[.slice none 0 0],[]⟩).memory f6.params.toList Rows.seriesSpec.vars Vf #[Value.slice none 0 0].toList 8=some ([.nil],[],places) :=
 ⟨[],by kernel_rfl⟩
theorem lifted(os:Os)(started:os.Started)(H:Type)(enc:TypeId × Value->H)(F:Stop.Interp):
  ReturnsInHanded {} checked os 6 .any ((Rows.OpenSpec.upto Rows.seriesSpec).preRow enc prog f6 Rows.seriesUptoRow.domain Vf Rows.seriesUptoRow.laid) (((Rows.OpenSpec.upto Rows.seriesSpec).at F).post enc prog f6 Vf true Vf Vf):=by
 obtain⟨places,hx⟩:=reads os enc
 refine returnsInHanded_of_row (C:=checked) (s:=Rows.OpenSpec.upto Rows.seriesSpec) datesLaw.own started UZ func6
  (witness_row_atRef (enc:=enc) (C:=checked) Vf (Laid.AB (World.holding prog os ⟨#[],#[],[]⟩)) #[.slice none 0 0] rfl UZ UZ UZ
   (OpenSpec.preRow_of_cond 8 hx UZ (fun k hk=>by cases hk;rfl) UZ (met os))) ?_
 intro W base args ds gs before hval hW _ hk _ hL hS _
 exact contract H enc W base args ds gs before hval hW (hk _ rfl) hL hS
theorem said:Rows.SeriesUptoSaid :=
 OpenClaim.holds_of_cond 6 f6 rfl rfl rfl rfl rfl rfl rfl ⟨rfl,rfl,rfl,rfl,rfl⟩ rfl rfl rfl rfl rfl named func6 kQ inst wrap
  (fun os started H enc _ F=>by rw[OpenClaim.pre_eq_preRow];exact lifted os started H enc F)
theorem plain(f:FuncId)(fn:Func)(hf:Tryz.pinned.checked.prog.funcNamed Rows.seriesUptoRow.func=some f)(hfn:Tryz.pinned.checked.prog.funcs[f]?=some fn):
  Rows.seriesUptoCard.stood.looks=Tryz.pinned.checked.prog.looks []/\∀ (j:Nat) t,fn.params[j]?=some t->Tryz.pinned.checked.prog.wantsStandIn t=Vf:=by
 obtain rfl:f=6:=WY ((show prog.funcNamed Rows.seriesUptoRow.func=some 6 by kernel_rfl).symm.trans hf) |>.symm
 obtain rfl:fn=f6:=(WY (func6.symm.trans hfn)).symm
 refine⟨by kernel_rfl,fun j t ht=>?_⟩
 rw[params6] at ht
 obtain rfl:t=22:=by simpa using Array.mem_of_getElem? ht
 exact (show prog.wantsStandIn 22=Vf by kernel_rfl)
theorem JG:Rows.seriesUptoRow.wfByText (Rows.OpenSpec.upto Rows.seriesSpec)=true:=UZ
theorem KH:Tryz.pinned.checked.prog.mainIs=some (Rows.seriesUptoCard.stood.harness.1,Rows.seriesUptoCard.stood.harness.2.toList):=UZ
theorem KE:Vf=Rows.seriesUptoRow.goesBy Tryz.pinned.checked.prog:=UZ
theorem card:Rows.SeriesUptoCardSaid :=
 Claim7.holds_tied_plain_at .later [] _ _ _ _ said (fun _ h=>by cases h) JG (fun _ h=>by cases h) seriesUpto_row_tie rfl ⟨rfl,rfl⟩ KH rfl plain KE
end Go.Proofs.YtfigmlfdnickmaaGreatDoor.seriesLaw
