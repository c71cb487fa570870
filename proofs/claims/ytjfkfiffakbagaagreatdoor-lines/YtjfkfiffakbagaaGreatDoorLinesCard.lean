/-
  For every script of steps the law bookingslaw.Lines returns true (each Plain of the script is answered as the document's own patterns answer it: the plain form, the error and the word, and the script is left as it was), where the listed package variables hold what the program's text lays in them.
-/
import Derived.Test.YtjfkfiffakbagaaGreatDoorL11
import Derived.Lib.LaidU8
import Derived.Shelf.Vars
namespace Go.Proofs.YtjfkfiffakbagaaGreatDoor.linesLaw
open Go.ChangeShapes Go.WideShapes Go.ChangeAt Go.RowKit

/-- A listed table of integers, wherever it stands on the list. -/
theorem tab_reads {P : Program} {W : World} {name : String} {k : IntKind} {zs : List Int} {g : Nat} {t e : TypeId} {n : Nat}
    (hg : P.globalNamed name = some g) (hty : (P.globals[g]?).map (·.type) = some t) (ht : P.underlying t = some (.array n e)) (he : P.underlying e = some (.int k)) (hce : P.cellsOf e = 1) (hct : P.cellsOf t = n)
    (h : Lib.VarReads P W name (Lib.tabData k zs)) : Lib.TabIs P W name k zs := by
  obtain ⟨g', t', cs, fuel, p, hg', ht', hvar, hd⟩ := h
  obtain rfl := Option.some.inj (hg.symm.trans hg')
  obtain rfl := Option.some.inj (hty.symm.trans ht')
  unfold Lib.TabIs
  rw [hvar, ← Lib.cells_of_tab ht he hce hct hd]
/-- A listed table of strings: what its cells hold. -/
theorem strs_read {P : Program} {W : World} {name : String} {zs : List (List UInt8)} {g : Nat} {t e : TypeId} {n : Nat}
    (hg : P.globalNamed name = some g) (hty : (P.globals[g]?).map (·.type) = some t) (ht : P.underlying t = some (.array n e)) (he : P.underlying e = some .string) (hce : P.cellsOf e = 1)
    (h : Lib.VarReads P W name (.agg (zs.map fun z => .lit (.string z)))) (i : Nat) (z : List UInt8) (hz : zs[i]? = some z) : W.cell? ⟨g, i, none⟩ = some (.string ⟨z.toArray⟩) := by
  obtain ⟨g', t', cs, fuel, p, hg', ht', hvar, hd⟩ := h
  obtain rfl := Option.some.inj (hg.symm.trans hg')
  obtain rfl := Option.some.inj (hty.symm.trans ht')
  obtain ⟨xs, m, _, hx, _, hxl, hall⟩ := DataW.trod_array ht hd
  have hx1 : zs.map (fun z => (DataW.lit (.string z) : DataW Unit)) = xs.map (·.1) := by
    have := congrArg Prod.fst hx
    simpa using this
  have hlen : zs.length = xs.length := by
    have := congrArg List.length hx1
    simpa using this
  have hi : i < zs.length := (List.getElem?_eq_some_iff.1 hz).1
  have hxi : xs[i]? = some xs[i] := List.getElem?_eq_getElem (by omega)
  have hti := hall i (by omega)
  rw [hxi, hce] at hti
  obtain ⟨s, hs1, hs2, _⟩ := DataW.trod_string he hti
  have h1 : (xs.map (·.1))[i]? = some (DataW.lit (.string z) : DataW Unit) := by rw [← hx1]; simp [hz]
  have h2 : (xs.map (·.1))[i]? = some (DataW.lit (.string s.data.toList) : DataW Unit) := by simp [hxi, hs2]
  have h3 : z = s.data.toList := by
    have := h1.symm.trans h2
    simpa using this
  have h4 : cs[i]? = some (.string s) := by
    have := congrArg (·[0]?) hs1
    simpa [List.getElem?_take, List.getElem?_drop] using this
  rw [World.var?_cell hg hvar i, h4, h3]

theorem gPowType : (Tryz.prog.globals[1]?).map (·.type) = some 299 := by kernel_rfl
theorem cellsPow : Tryz.prog.cellsOf 299 = 20 := by kernel_rfl
theorem cellsU64 : Tryz.prog.cellsOf 252 = 1 := by kernel_rfl
theorem gDays : Tryz.prog.globalNamed "bookings/lines.weekdays" = some 2 := by kernel_rfl
theorem gDaysType : (Tryz.prog.globals[2]?).map (·.type) = some 345 := by kernel_rfl

theorem env {W : World} (h : laidMetH Tryz.prog Rows.linesRow.laid W) (hS : W.ShapedOpen Tryz.prog) : Env W := by
  have hM : laidMet Tryz.prog Rows.linesRow.laid W := h
  have hp : Lib.VarReads Tryz.prog W "internal/strconv.uint64pow10" (Lib.tabData .u64 Lib.pow10Tab) := Lib.laidMet.reads hM (d := Rows.laid_internal_strconv_uint64pow10) (by repeat (first | exact List.Mem.head _ | apply List.Mem.tail))
  have hd : Lib.VarReads Tryz.prog W "bookings/lines.weekdays" (.agg ([[109, 111], [116, 117], [119, 101], [116, 104], [102, 114], [115, 97], [115, 117]].map fun z => .lit (.string z))) := Lib.laidMet.reads hM (d := Rows.laid_bookings_lines_weekdays) (by repeat (first | exact List.Mem.head _ | apply List.Mem.tail))
  have day := fun i z hz => strs_read gDays gDaysType Tryz.underlying345 Tryz.underlying9 datesLaw.cellsStr hd i z hz
  have hsz : 10 ≤ W.heap.size := by
    have h0 : (((begin Tryz.prog (fun _ _ => 0) default).world.heap[9]?).bind Obj.row?).isSome = true := by kernel_rfl
    obtain ⟨⟨zero, t⟩, h1⟩ := Option.isSome_iff_exists.1 h0
    obtain ⟨cs, hh, _⟩ := hS.1 9 zero t (of_decide_eq_true (by kernel_rfl)) h1
    exact (Array.getElem?_eq_some_iff.1 hh).1
  exact ⟨datesLaw.tab h, cell_of_shapedOpen_int (zero := #[.int .i64 0]) (t := 3) hS (of_decide_eq_true (by kernel_rfl)) (by kernel_rfl) rfl (by kernel_rfl) (by kernel_rfl) Tryz.underlying3,
    tab_reads gPow gPowType Tryz.underlying299 Tryz.underlying252 cellsU64 cellsPow hp, hsz,
    day 0 _ rfl, day 1 _ rfl, day 2 _ rfl, day 3 _ rfl, day 4 _ rfl, day 5 _ rfl, day 6 _ rfl⟩

set_option maxRecDepth 100000 in
theorem contract (H : Type) (enc : TypeId × Value → H) (W : World) (base : Nat) (args : Array Value) (ds gs : List (DataW H)) (before : List MemPlace)
    (hval : ∀ (j : Nat) t v, Tryz.f4.params[j]? = some t → args[j]? = some v → Value.okWide Tryz.prog W .any base t v)
    (hW : DataW.Whole enc Tryz.prog Tryz.f4.params.toList Rows.linesSpec.vars false W args.toList ds gs before) (hL : laidMetH Tryz.prog Rows.linesRow.laid W) (hS : W.ShapedOpen Tryz.prog) :
    Calls Tryz.prog 4 args W fun e W' => ∃ v, e = .returned v ∧ Rows.linesSpec.post enc Tryz.prog Tryz.f4 false true false false W args v W' := by
  have hT := env hL hS
  clear hL hS
  have hW' := hW
  obtain ⟨p, q, hA0, hV, rfl, hfz, hnd⟩ := hW
  have hA : DataW.TrodAll enc Tryz.prog W 0 (fun _ => true) true Tryz.f4.params.toList args.toList ds p := hA0
  rw [Tryz.params4] at hA hval
  obtain ⟨v0, vs0, d0, ds0, p0, q0, hargs, rfl, rfl, h0, r0⟩ := trodAll_cons hA
  obtain ⟨rfl, rfl, rfl⟩ := trodAll_nil r0
  obtain rfl : args = #[v0] := by cases args; simp_all
  obtain ⟨rfl, rfl⟩ := trodVars_none hV
  obtain ⟨a0, len0, cap0, rfl⟩ := okWide_slice Tryz.underlying22 (hval 0 22 v0 rfl rfl)
  have k0 := h0
  have lt0 : ∀ x ∈ p0, x.block < W.heap.size := by obtain ⟨m, hm⟩ := k0; exact DataW.trod_lt m _ _ _ hm
  have walk : Calls Tryz.prog 4 #[.slice a0 len0 cap0] W fun e w' => e = .returned (.bool true) ∧ Below W.heap.size W w' := by
    obtain ⟨fuel, hf⟩ := h0
    rcases Deep.open_slice Tryz.underlying22 hf with ⟨hcs, _⟩ | ⟨a, l, c, m, n, D, Pl, hcs, _, hl, hm, hmd, _, hel⟩
    · simp [Value.cells] at hcs
      obtain ⟨rfl, rfl, rfl⟩ := hcs
      exact lines_empty _ _ _
    · simp [Value.cells] at hcs
      obtain ⟨rfl, rfl, rfl⟩ := hcs
      by_cases hz : len0 = 0
      · subst hz; exact lines_empty _ _ _
      · have hlm : len0 ≤ m := by rw [hmd]; simp only [if_true]; exact hl
        obtain ⟨b, off, spot⟩ := a
        have hspot : spot = none := by
          obtain ⟨cs, hc, _⟩ := hel 0 (by omega)
          obtain ⟨_, hn, hcc⟩ := World.cells?_some hc
          rw [datesLaw.cellsOp] at hn hcc
          obtain ⟨c0, c1, c2, c3, c4, c5, rfl⟩ := datesLaw.six hn
          have g := hcc 0 (by decide)
          simpa [Addr.add] using World.cell?_spot g
        subst hspot
        refine lines_some b off len0 cap0 W hT (Nat.le_trans hl hm) fun i hi => ?_
        obtain ⟨cs, hc, ht⟩ := hel i (by omega)
        rw [datesLaw.cellsOp] at hc
        exact datesLaw.op_at i hc ht
  clear hA0
  refine walk.mono fun e W' ⟨he, bel⟩ => ?_
  subst he
  exact ⟨_, rfl, _, _, _, [], _, [], hW', trodAll_mk1 (shut_bool Tryz.underlying4 _), trodAll_cons_mk (Below.trod datesLaw.laidOut (by kernel_rfl) (of_decide_eq_true (by kernel_rfl)) k0 bel lt0) trodAll_mk0, rfl, bel.frame _, fun h => by cases h⟩

theorem reads (os : Os) {H : Type} (enc : TypeId × Value → H) : ∃ places, DataW.whole enc Tryz.prog ((Laid.tabs (World.holding Tryz.prog os ⟨#[], #[], []⟩)).forCall (fun _ _ => 0) ⟨#[], #[.slice none 0 0], []⟩).memory Tryz.f4.params.toList Rows.linesSpec.vars false #[Value.slice none 0 0].toList 8 = some ([.nil], [], places) :=
  ⟨[], by kernel_rfl⟩

set_option maxRecDepth 100000 in
theorem lifted (os : Os) (started : os.Started) (H : Type) (enc : TypeId × Value → H) (F : Stop.Interp) :
    ReturnsInHanded {} Tryz.checked os 4 .any ((OpenSpec.ofChange Rows.linesSpec).preRow enc Tryz.prog Tryz.f4 Rows.linesRow.domain false Rows.linesRow.laid) (((OpenSpec.ofChange Rows.linesSpec).at F).post enc Tryz.prog Tryz.f4 false true false false) := by
  obtain ⟨places, hx⟩ := reads os enc
  refine returnsInHanded_of_row (C := Tryz.checked) (s := OpenSpec.ofChange Rows.linesSpec) datesLaw.own started (by kernel_rfl) Tryz.func4
    (witness_row_atRef (enc := enc) (C := Tryz.checked) false (Laid.tabs (World.holding Tryz.prog os ⟨#[], #[], []⟩)) #[.slice none 0 0] rfl (by kernel_rfl) (by kernel_rfl) (by kernel_rfl)
      (OpenSpec.preRow_of_cond 8 hx (by kernel_rfl) (fun k hk => by cases hk) (by kernel_rfl) (Laid.met os))) ?_
  intro W base args ds gs before hval hW _ _ _ hL hS _
  exact contract H enc W base args ds gs before hval hW hL hS

theorem said : Rows.LinesSaid :=
  OpenClaim.holds_of_cond 4 Tryz.f4 rfl rfl rfl rfl rfl rfl rfl ⟨rfl, rfl, rfl, rfl, rfl⟩ rfl rfl rfl rfl rfl named Tryz.func4 joined inst wrap
    (fun os started H enc _ F => by rw [OpenClaim.pre_eq_preRow]; exact lifted os started H enc F)

theorem plain (f : FuncId) (fn : Func) (hf : Tryz.pinned.checked.prog.funcNamed Rows.linesRow.func = some f) (hfn : Tryz.pinned.checked.prog.funcs[f]? = some fn) :
    Rows.linesCard.stood.looks = Tryz.pinned.checked.prog.looks [] ∧ ∀ (j : Nat) t, fn.params[j]? = some t → Tryz.pinned.checked.prog.wantsStandIn t = false := by
  obtain rfl : f = 4 := Option.some.inj ((show Tryz.prog.funcNamed Rows.linesRow.func = some 4 by kernel_rfl).symm.trans hf) |>.symm
  obtain rfl : fn = Tryz.f4 := (Option.some.inj (Tryz.func4.symm.trans hfn)).symm
  refine ⟨by kernel_rfl, fun j t ht => ?_⟩
  rw [Tryz.params4] at ht
  obtain rfl : t = 22 := by simpa using Array.mem_of_getElem? ht
  exact (show Tryz.prog.wantsStandIn 22 = false by kernel_rfl)

/-- The card. -/
theorem card : Rows.LinesCardSaid :=
  Claim7.holds_tied_plain_at .later [] _ _ _ _ said (fun _ h => by cases h) (by kernel_rfl) (fun _ h => by cases h) lines_row_tie rfl ⟨rfl, rfl⟩ (by kernel_rfl) rfl plain (by kernel_rfl)
end Go.Proofs.YtjfkfiffakbagaaGreatDoor.linesLaw
