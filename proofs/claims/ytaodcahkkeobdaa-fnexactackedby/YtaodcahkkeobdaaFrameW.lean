import Derived.Deep.RegionWith
import Derived.Test.YtaodcahkkeobdaaFrameB
import Derived.Test.YtaodcahkkeobdaaToFrame
namespace Go.Proofs.Ytaodcahkkeobdaa
open Go.RowKit
set_option linter.unusedVariables false

theorem bothF (h : F8) (hs : h.small 1048576) : ∃ s : Bool, (∀ v w, FRow w v h → Calls Try.prog 33 #[v] w fun e w' => e = .returned (.bool s) ∧ Below w.heap.size w w') ∧ (∀ v w, FRow w v h → Calls Try.prog 25 #[v] w fun e w' => e = .returned (.bool s) ∧ Below w.heap.size w w') := by
  obtain ⟨s, h1, h2⟩ := bothC h.k h.a h.b h.c h.fin h.d.length h.t.length h.r.length h.r rfl (Nat.le_trans hs.1 (by decide)) (Nat.le_trans hs.2.2 (by decide))
  refine ⟨s, fun v w hr => ?_, fun v w hr => ?_⟩
  · obtain ⟨a2, a3, a4, p2, p3, p4, rfl, q2, q3, q4⟩ := hr.parts
    exact h1 a2 a3 a4 p2 p3 p4 w q4
  · obtain ⟨a2, a3, a4, p2, p3, p4, rfl, q2, q3, q4⟩ := hr.parts
    exact h2 a2 a3 a4 p2 p3 p4 w q4
end Go.Proofs.Ytaodcahkkeobdaa
