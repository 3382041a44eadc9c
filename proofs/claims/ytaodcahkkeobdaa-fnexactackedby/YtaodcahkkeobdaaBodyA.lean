import Derived.Test.YtaodcahkkeobdaaMem
import Derived.Laws.EntriesVeiled
namespace Go.Proofs.Ytaodcahkkeobdaa
open Go.RowKit
set_option linter.unusedVariables false

theorem hmf0 (fn : Fn) (first cap : Array Value) (w : World) : (Instr.makeFunc fn first cap).run Try.prog w = .ok (.func fn first cap) w := rfl
theorem infoSP : (Try.prog.info? 86).map (·.size) = some 10 := by kernel_rfl
theorem infoSC : (Try.prog.info? 91).map (·.size) = some 10 := by kernel_rfl
theorem infoEC : (Try.prog.info? 95).map (·.size) = some 10 := by kernel_rfl
theorem infoSF : (Try.prog.info? 109).map (·.size) = some 10 := by kernel_rfl
theorem i64_sum {x y : Int} (h0 : 0 ≤ x + y) (h1 : x + y ≤ 9223372036854775807) : IntKind.i64.wrap (x + y) = x + y := by rw [IntKind.wrap_i64]; omega
theorem fld_sp (x0 x1 x2 x3 x4 x5 x6 x7 x8 x9 : Value) (w : World) : (Instr.field 86 (.agg #[x0, x1, x2, x3, x4, x5, x6, x7, x8, x9]) 1).run Try.prog w = .ok (.agg #[x0, x1, x2, x3, x4, x5, x6, x7, x8, x9]) w := by kernel_rfl
theorem hp3 (w : World) (a b c : Obj) : (((w.alloc a).alloc b).alloc c).heap[w.heap.size + 2]? = some c := by have := heap_alloc_new ((w.alloc a).alloc b) c; simpa using this
theorem hp4 (w : World) (a b c d : Obj) : ((((w.alloc a).alloc b).alloc c).alloc d).heap[w.heap.size + 3]? = some d := by have := heap_alloc_new (((w.alloc a).alloc b).alloc c) d; simpa using this
theorem hp43 (w : World) (a b c d : Obj) : ((((w.alloc a).alloc b).alloc c).alloc d).heap[w.heap.size + 2]? = some c := by rw [Below.heap_alloc _ _ _ (by simp)]; exact hp3 w a b c
theorem al2 (w : World) (a b : Obj) : Below w.heap.size w ((w.alloc a).alloc b) := ((Below.refl _ _).alloc (Nat.le_refl _) _).alloc (by simp) _
theorem al3 (w : World) (a b c : Obj) : Below w.heap.size w (((w.alloc a).alloc b).alloc c) := (al2 w a b).alloc (by simp; omega) _
theorem al4 (w : World) (a b c d : Obj) : Below w.heap.size w ((((w.alloc a).alloc b).alloc c).alloc d) := (al3 w a b c).alloc (by simp; omega) _
end Go.Proofs.Ytaodcahkkeobdaa
