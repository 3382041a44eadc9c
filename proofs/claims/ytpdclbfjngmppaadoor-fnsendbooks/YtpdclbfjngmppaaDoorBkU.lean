import Derived.Test.YtpdclbfjngmppaaDoorCards
import Derived.Test.YtpdclbfjngmppaaDoorTie
import Derived.Test.YtpdclbfjngmppaaDoorLift
import Derived.Test.YtpdclbfjngmppaaDoorBkV
import Derived.Test.YtpdclbfjngmppaaDoorLiftV
import Derived.Lib.LaidTab
namespace Go.Proofs.YtpdclbfjngmppaaDoor.fnSendBooks
open Go.ChangeShapes Go.WideShapes Go.ChangeAt Go.RowKit
set_option linter.unusedVariables false

theorem own : ownKnob Tryd.prog.godebug = none := by kernel_rfl
theorem laidOut : laidOutB Tryd.prog = true := by kernel_rfl
theorem cells_b : Tryd.prog.cellsOf 5 = 1 := by kernel_rfl
theorem gTab : Tryd.prog.globalNamed "loop.example/g00012/impl.streamFollows" = some 0 := by kernel_rfl
theorem gTabType : (Tryd.prog.globals[0]?).map (·.type) = some 71 := by kernel_rfl
theorem table {W : World} (h : laidMetH Tryd.prog Rows.fnSendBooksRow.laid W) : TabF W :=
  tabF_of_laid gTab gTabType Tryd.underlying71 Tryd.underlying70 Tryd.underlying5 (by kernel_rfl) (by kernel_rfl) (by kernel_rfl) h

set_option maxRecDepth 20000 in
theorem contract (H : Type) (enc : TypeId × Value → H) (W : World) (base : Nat) (args : Array Value) (ds gs : List (DataW H)) (before : List MemPlace)
    (hval : ∀ (j : Nat) t v, Tryd.f3.params[j]? = some t → args[j]? = some v → Value.okWide Tryd.prog W .any base t v)
    (hW : DataW.Whole enc Tryd.prog Tryd.f3.params.toList Rows.fnSendBooksSpec.vars false W args.toList ds gs before) (hL : laidMetH Tryd.prog Rows.fnSendBooksRow.laid W) :
    Calls Tryd.prog 3 args W fun e W' => ∃ v, e = .returned v ∧ Rows.fnSendBooksSpec.post enc Tryd.prog Tryd.f3 false true false false W args v W' := by
  have hW' := hW
  obtain ⟨p, q, hA0, hV, rfl, hfz, hnd⟩ := hW
  have hA : DataW.TrodAll enc Tryd.prog W 0 (fun _ => true) true Tryd.f3.params.toList args.toList ds p := hA0
  rw [Tryd.params3] at hA hval
  obtain ⟨v0, vs0, d0, ds0, p0, q0, hargs, rfl, rfl, h0, r0⟩ := trodAll_cons hA
  obtain ⟨rfl, rfl, rfl⟩ := trodAll_nil r0
  obtain rfl : args = #[v0] := by cases args; simp_all
  obtain ⟨g, t, cs, fuel, dg, pg, rfl, -⟩ := trodVars_one hV
  obtain ⟨xs0, row0, len0, wf0⟩ := open_row Tryd.underlying22 Tryd.underlying5 cells_b (hval 0 22 v0 rfl rfl) h0
  refine (fnSendBooks_walk v0 xs0 len0 wf0 W row0 (table hL)).mono fun e W' ⟨he, hb⟩ => ?_
  subst he
  exact ⟨_, rfl, law_post laidOut (by kernel_rfl) (by kernel_rfl) (by kernel_rfl) Tryd.underlying4 hW' rfl hb⟩

theorem laid_met (os : Os) : laidMet Tryd.prog Rows.fnSendBooksRow.laid (({ World.holding Tryd.prog os ⟨#[], #[], []⟩ with heap := (World.holding Tryd.prog os ⟨#[], #[], []⟩).heap.modify 0 fun | .cells _ t frozen => .cells #[.int .u8 18, .int .u8 20, .int .u8 8, .int .u8 0, .int .u8 32, .int .u8 0, .int .u8 22, .int .u8 20, .int .u8 24, .int .u8 0, .int .u8 32, .int .u8 0] t frozen | o => o } : World).forCall (fun _ _ => 0) ⟨#[], #[.slice none 0 0], []⟩).memory :=
  laidMet_of_run' 8 (by kernel_rfl) (by kernel_rfl)
theorem reads (os : Os) {H : Type} (enc : TypeId × Value → H) : ∃ places, DataW.whole enc Tryd.prog (({ World.holding Tryd.prog os ⟨#[], #[], []⟩ with heap := (World.holding Tryd.prog os ⟨#[], #[], []⟩).heap.modify 0 fun | .cells _ t frozen => .cells #[.int .u8 18, .int .u8 20, .int .u8 8, .int .u8 0, .int .u8 32, .int .u8 0, .int .u8 22, .int .u8 20, .int .u8 24, .int .u8 0, .int .u8 32, .int .u8 0] t frozen | o => o } : World).forCall (fun _ _ => 0) ⟨#[], #[.slice none 0 0], []⟩).memory Tryd.f3.params.toList Rows.fnSendBooksSpec.vars false #[(.slice none 0 0 : Value)].toList 8 = some ([.nil], [.agg [.agg [.lit (.int .u8 18), .lit (.int .u8 20), .lit (.int .u8 8), .lit (.int .u8 0), .lit (.int .u8 32), .lit (.int .u8 0)], .agg [.lit (.int .u8 22), .lit (.int .u8 20), .lit (.int .u8 24), .lit (.int .u8 0), .lit (.int .u8 32), .lit (.int .u8 0)]]], places) :=
  ⟨[.cell 0 0, .cell 0 1, .cell 0 2, .cell 0 3, .cell 0 4, .cell 0 5, .cell 0 6, .cell 0 7, .cell 0 8, .cell 0 9, .cell 0 10, .cell 0 11], by kernel_rfl⟩

set_option maxRecDepth 100000 in
theorem lifted (os : Os) (started : os.Started) (H : Type) (enc : TypeId × Value → H) (F : Stop.Interp) :
    ReturnsInHanded {} Tryd.checked os 3 .any ((OpenSpec.ofChange Rows.fnSendBooksSpec).preRow enc Tryd.prog Tryd.f3 Rows.fnSendBooksRow.domain false Rows.fnSendBooksRow.laid) (((OpenSpec.ofChange Rows.fnSendBooksSpec).at F).post enc Tryd.prog Tryd.f3 false true false false) := by
  obtain ⟨places, hx⟩ := reads os enc
  refine returnsInHanded_of_row (C := Tryd.checked) (s := OpenSpec.ofChange Rows.fnSendBooksSpec) own started (by kernel_rfl) Tryd.func3
    (witness_row_at (enc := enc) (C := Tryd.checked) false ({ World.holding Tryd.prog os ⟨#[], #[], []⟩ with heap := (World.holding Tryd.prog os ⟨#[], #[], []⟩).heap.modify 0 fun | .cells _ t frozen => .cells #[.int .u8 18, .int .u8 20, .int .u8 8, .int .u8 0, .int .u8 32, .int .u8 0, .int .u8 22, .int .u8 20, .int .u8 24, .int .u8 0, .int .u8 32, .int .u8 0] t frozen | o => o } : World) #[.slice none 0 0] rfl (by kernel_rfl) (by kernel_rfl) (by kernel_rfl)
      (OpenSpec.preRow_of_cond 8 hx (by kernel_rfl) (fun k hk => by cases hk) (by kernel_rfl) (laid_met os))) ?_
  intro W base args ds gs before hval hW _ _ _ hL _ _
  exact contract H enc W base args ds gs before hval hW hL

theorem said : Rows.FnSendBooksSaid :=
  OpenClaim.holds_of_cond 3 Tryd.f3 rfl rfl rfl rfl rfl rfl rfl ⟨rfl, rfl, rfl, rfl, rfl⟩ rfl rfl rfl rfl rfl (by kernel_rfl) Tryd.func3 (by kernel_rfl)
    (of_decide_eq_true (by kernel_rfl)) (by unfold Func.isWrapper; first | (rw [if_pos (by decide +kernel)]; kernel_rfl) | (rw [if_neg (by decide +kernel)]; exact ⟨rfl, rfl⟩))
    (fun os started H enc _ F => by rw [OpenClaim.pre_eq_preRow]; exact lifted os started H enc F)

theorem plain (f : FuncId) (fn : Func) (hf : Tryd.pinned.checked.prog.funcNamed "loop.example/g00012/laws.FnSendBooks" = some f) (hfn : Tryd.pinned.checked.prog.funcs[f]? = some fn) :
    false = Tryd.pinned.checked.prog.looks [] ∧ ∀ (j : Nat) t, fn.params[j]? = some t → Tryd.pinned.checked.prog.wantsStandIn t = false := by
  obtain rfl : f = 3 := Option.some.inj ((show Tryd.prog.funcNamed "loop.example/g00012/laws.FnSendBooks" = some 3 by kernel_rfl).symm.trans hf) |>.symm
  obtain rfl : fn = Tryd.f3 := (Option.some.inj (Tryd.func3.symm.trans hfn)).symm
  refine ⟨by kernel_rfl, fun j t ht => ?_⟩
  rw [Tryd.params3] at ht
  have hm : t ∈ [22] := by simpa using Array.mem_of_getElem? ht
  have hall : ([22].all fun u => !Tryd.prog.wantsStandIn u) = true := by kernel_rfl
  exact (show Tryd.prog.wantsStandIn t = false by simpa using List.all_eq_true.1 hall t hm)

end Go.Proofs.YtpdclbfjngmppaaDoor.fnSendBooks

namespace Go.Proofs.YtpdclbfjngmppaaDoor
theorem fnSendBooks_holds : Rows.FnSendBooksCardSaid :=
  Claim7.holds_tied_plain_at .later [] _ _ _ _ fnSendBooks.said (fun _ h => by cases h) (by kernel_rfl) (fun _ h => by cases h) fnSendBooks_row_tie rfl ⟨rfl, rfl⟩ (by kernel_rfl) rfl fnSendBooks.plain (by kernel_rfl)
#print axioms fnSendBooks_holds
end Go.Proofs.YtpdclbfjngmppaaDoor
