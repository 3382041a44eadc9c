import Derived.Test.YtdfhpacioblcbaaDoorParamsBytesLaw
import Derived.Test.YtdfhpacioblcbaaDoorPbI
import Derived.Test.YtdfhpacioblcbaaDoorPbT0
import Derived.Test.YtdfhpacioblcbaaDoorPbT1
import Derived.Test.YtdfhpacioblcbaaDoorPbT2
import Derived.Test.YtdfhpacioblcbaaDoorPbT3
import Derived.Test.YtdfhpacioblcbaaDoorPbT4
import Derived.Test.YtdfhpacioblcbaaDoorPbT5
import Derived.Test.YtdfhpacioblcbaaDoorPbT6
import Derived.Test.YtdfhpacioblcbaaDoorPbT7
namespace Go.Proofs.YtdfhpacioblcbaaDoor
open Go.RowKit
set_option linter.unusedVariables false

theorem pbS_ok (v : Value) (p : PP) (s : Bool) (w : World) (hr : PPRow w v p) (hs : p.small 9223372036854775807) (hyes : pok p s = true) :
    Calls Tryd.prog 6 #[v, .bool s] w fun e w' => ∃ r, e = .returned (.tuple #[r, .int .i64 0]) ∧ w'.ownsRow w.heap.size 5 1 r (parB p s).length ((parB p s).map (Value.int .u8)) ∧ Below w.heap.size w w' := by
  cases s <;> by_cases ht : 0 < p.t.length <;> cases hm : p.m
  · exact pbS_010 v p w hr hs hyes ht hm
  · exact pbS_011 v p w hr hs hyes ht hm
  · exact pbS_000 v p w hr hs hyes (by omega) hm
  · exact pbS_001 v p w hr hs hyes (by omega) hm
  · exact pbS_110 v p w hr hs hyes ht hm
  · exact pbS_111 v p w hr hs hyes ht hm
  · exact pbS_100 v p w hr hs hyes (by omega) hm
  · exact pbS_101 v p w hr hs hyes (by omega) hm
theorem fnExactParamsBytes_walk (v0 : Value) (k0 : PP) (a1 : Bool) (sm0 : k0.small maxLen) (kb0 : k0.bytes) (w : World) (row0 : PPRow w v0 k0) (ht : Tab w) :
    Calls Tryd.prog 3 #[v0, .bool a1] w fun e w' => e = .returned (.bool true) ∧ Below w.heap.size w w' := by
  have sm9 : k0.small 9223372036854775807 := ppsmall_mono sm0 (by unfold maxLen; decide)
  cases hp : pok k0 a1
  · exact paramsBytes_walkOf v0 k0 a1 [] 11 w (fun u => Tab u) (fun u h => ht.below h ht.lt) sm0 kb0 row0 (by simp)
      (fun w u0 r0 => pbS_bad u0 k0 a1 w r0 sm9 hp) (fun w u0 _ r0 => pbI_bad u0 k0 a1 w r0 sm9 hp)
  · exact paramsBytes_walkOf v0 k0 a1 (parB k0 a1) 0 w (fun u => Tab u) (fun u h => ht.below h ht.lt) sm0 kb0 row0 (by have := parB_le k0 a1 hp; omega)
      (fun w u0 r0 => pbS_ok u0 k0 a1 w r0 sm9 hp) (fun w u0 t r0 => pbI_ok u0 k0 a1 w t r0 sm9 hp)
end Go.Proofs.YtdfhpacioblcbaaDoor
