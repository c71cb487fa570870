/-
  For every script of steps of bulk at most 1048576 the law bookingslaw.All returns true (every Day, Date and Plain answers as the document, every line on every desk is answered as the document answers it, and every list that came out reads as its owner wrote it, and the script is left as it was), where the listed package variables hold what the program text lays in them.
-/
import Derived.Test.YtolaacmheeaadaaGreatDoorL15
set_option maxRecDepth 100000
set_option maxHeartbeats 8000000
open Go.Proofs.Tryz
open Bool renaming false->UD
open Option.some renaming inj->Wq
namespace Go.Proofs.YtolaacmheeaadaaGreatDoor.allLaw
open Go.ChangeShapes Go.WideShapes Go.ChangeAt Go.RowKit
theorem met(os:Os):laidMet prog Rows.allUptoRow.laid ((Laid.Dm (World.holding prog os ⟨#[],#[],[]⟩)).forCall (fun _ _=>0) ⟨#[],#[.slice none 0 0],[]⟩).memory :=
 laidMet_of_run' 8 Um Um
theorem env{W:World}(h:laidMetH prog Rows.allUptoRow.laid W)(hS:W.ShapedOpen prog):Env W :=
 EnvLaid.Tj (l:=Rows.allUptoRow.laid) h hS (by repeat (first|exact List.Mem.head _|apply List.Mem.tail)) (by repeat (first|exact List.Mem.head _|apply List.Mem.tail)) (by repeat (first|exact List.Mem.head _|apply List.Mem.tail))
theorem contract(H:Type)(enc:TypeId × Value->H)(W:World)(base:Nat)(args:Array Value)(ds gs:List (DataW H))(before:List MemPlace)
  (hval:∀ (j:Nat) t v,f3.params[j]?=some t->args[j]?=some v->Value.okWide prog W .any base t v)
  (hW:DataW.Whole enc prog f3.params.toList Rows.allSpec.vars UD W args.toList ds gs before) (hk:Rows.uptoSmall H (ds++gs)=true) (hL:laidMetH prog Rows.allUptoRow.laid W) (hS:W.ShapedOpen prog):
  Calls prog 3 args W fun e W'=>∃ v,e=.returned v/\Rows.allSpec.post enc prog f3 UD true UD UD W args v W':=by
 have hT:=env hL hS
 clear hL hS
 have hW':=hW
 obtain⟨p,q,hA0,hV,rfl,hfz,hnd⟩:=hW
 have hA:DataW.TrodAll enc prog W 0 (fun _=>true) true f3.params.toList args.toList ds p:=hA0
 rw[params3] at hA hval
 obtain⟨v0,vs0,d0,ds0,p0,q0,hargs,rfl,rfl,h0,r0⟩:=trodAll_cons hA
 obtain⟨rfl,rfl,rfl⟩:=trodAll_nil r0
 obtain rfl:args=#[v0]:=by cases args;simp_all
 obtain⟨rfl,rfl⟩:=trodVars_none hV
 obtain⟨a0,len0,cap0,rfl⟩:=okWide_slice underlying22 (hval 0 22 v0 rfl rfl)
 have lt0:∀ x∈p0,x.block<W.heap.size:=by obtain⟨m,hm⟩:=h0;exact DataW.trod_lt m _ _ _ hm
 have hb:Rows.uptoBulk d0<=1048576:=by
  have:=of_decide_eq_true hk
  simpa[Rows.uptoBulkAll] using this
 obtain⟨hs,hl⟩:=uptoLaw.script h0 hb
 clear hA0
 refine (OY hT hs hl).mono fun e W' ⟨he,bel⟩=>?_
 subst he
 exact⟨_,rfl,_,_,_,[],_,[],hW',trodAll_mk1 (shut_bool underlying4 _),trodAll_cons_mk (Below.trod datesLaw.TS Um (of_decide_eq_true Um) h0 bel lt0) trodAll_mk0,rfl,bel.frame _,fun h=>by cases h⟩
theorem reads(os:Os){H:Type}(enc:TypeId × Value->H):∃ places,DataW.whole enc prog ((Laid.Dm (World.holding prog os ⟨#[],#[],[]⟩)).forCall (fun _ _=>0) ⟨#[],#[.slice none 0 0],[]⟩).memory f3.params.toList Rows.allSpec.vars UD #[Value.slice none 0 0].toList 8=some ([.nil],[],places) :=
 ⟨[],by kernel_rfl⟩
theorem lifted(os:Os)(started:os.Started)(H:Type)(enc:TypeId × Value->H)(F:Stop.Interp):
  ReturnsInHanded {} checked os 3 .any ((Rows.OpenSpec.upto Rows.allSpec).preRow enc prog f3 Rows.allUptoRow.domain UD Rows.allUptoRow.laid) (((Rows.OpenSpec.upto Rows.allSpec).at F).post enc prog f3 UD true UD UD):=by
 obtain⟨places,hx⟩:=reads os enc
 refine returnsInHanded_of_row (C:=checked) (s:=Rows.OpenSpec.upto Rows.allSpec) datesLaw.own started Um func3
  (witness_row_atRef (enc:=enc) (C:=checked) UD (Laid.Dm (World.holding prog os ⟨#[],#[],[]⟩)) #[.slice none 0 0] rfl Um Um Um
   (OpenSpec.preRow_of_cond 8 hx Um (fun k hk=>by cases hk;rfl) Um (met os))) ?_
 intro W base args ds gs before hval hW _ hk _ hL hS _
 exact contract H enc W base args ds gs before hval hW (hk _ rfl) hL hS
theorem said:Rows.AllUptoSaid :=
 OpenClaim.holds_of_cond 3 f3 rfl rfl rfl rfl rfl rfl rfl ⟨rfl,rfl,rfl,rfl,rfl⟩ rfl rfl rfl rfl rfl named func3 nB inst wrap
  (fun os started H enc _ F=>by rw[OpenClaim.pre_eq_preRow];exact lifted os started H enc F)
theorem plain(f:FuncId)(fn:Func)(hf:Tryz.pinned.checked.prog.funcNamed Rows.allUptoRow.func=some f)(hfn:Tryz.pinned.checked.prog.funcs[f]?=some fn):
  Rows.allUptoCard.stood.looks=Tryz.pinned.checked.prog.looks []/\∀ (j:Nat) t,fn.params[j]?=some t->Tryz.pinned.checked.prog.wantsStandIn t=UD:=by
 obtain rfl:f=3:=Wq ((show prog.funcNamed Rows.allUptoRow.func=some 3 by kernel_rfl).symm.trans hf) |>.symm
 obtain rfl:fn=f3:=(Wq (func3.symm.trans hfn)).symm
 refine⟨by kernel_rfl,fun j t ht=>?_⟩
 rw[params3] at ht
 obtain rfl:t=22:=by simpa using Array.mem_of_getElem? ht
 exact (show prog.wantsStandIn 22=UD by kernel_rfl)
theorem Nb:Rows.allUptoRow.wfByText (Rows.OpenSpec.upto Rows.allSpec)=true:=Um
theorem PA:Tryz.pinned.checked.prog.mainIs=some (Rows.allUptoCard.stood.harness.1,Rows.allUptoCard.stood.harness.2.toList):=Um
theorem Py:UD=Rows.allUptoRow.goesBy Tryz.pinned.checked.prog:=Um
theorem card:Rows.AllUptoCardSaid :=
 Claim7.holds_tied_plain_at .later [] _ _ _ _ said (fun _ h=>by cases h) Nb (fun _ h=>by cases h) allUpto_row_tie rfl ⟨rfl,rfl⟩ PA rfl plain Py
end Go.Proofs.YtolaacmheeaadaaGreatDoor.allLaw
