import Derived.Test.YtiiefhpkkjocbakDoorRetryPacketLaw
import Derived.Test.YtiiefhpkkjocbakDoorRetryG
import Derived.Test.YtiiefhpkkjocbakDoorIRetG
namespace Go.Proofs.YtiiefhpkkjocbakDoor
open Go.RowKit
set_option linter.unusedVariables false

theorem retI_ok (v : Value) (h : H8) (ao : Option Addr) (po : Nat) (o : List Int) (w : World) (tb : TabL w) (hr : HRow w v h) (hb : h.bytes) (ro : Row w .u8 (.slice ao o.length po) o) (bo : Bytes o) (ok : rok h o) :
    Calls Tryd.prog 18 #[v, .slice ao o.length po] w fun e w' => ∃ r, e = .returned (.tuple #[r, .int .i64 0]) ∧ w'.ownsRow w.heap.size 5 1 r (retP h o).length ((retP h o).map (Value.int .u8)) ∧ Below w.heap.size w w' := by
  have bO := retO_bytes h hb ok.2.2.1 ok.2.2.2.1
  obtain ⟨xf, xv, xd, xs, xt, xn, xl, xp⟩ := h
  obtain ⟨v2, v3, v4, rfl, r2, r3, r4⟩ := hr
  obtain ⟨a2, p2, rfl⟩ := r2.form
  obtain ⟨a3, p3, rfl⟩ := r3.form
  obtain ⟨a4, p4, rfl⟩ := r4.form
  unfold rok at ok
  dsimp only at *
  obtain ⟨rfl, gv, gd, gs, g1, g2, rfl, rfl, rfl, go⟩ := ok
  exact retI_core xv a2 a3 a4 ao _ _ _ _ p2 p3 p4 po xd xs xt o w tb r2 r3 r4 ro rfl rfl rfl rfl gv gd gs g1 g2 go bo bO
theorem fnExactRetryPacket_walk (v0 : Value) (k0 : H8) (v1 : Value) (x1 : List Int) (sm0 : k0.small maxLen) (kb0 : k0.bytes) (l1 : x1.length ≤ maxLen) (wf1 : ∀ x ∈ x1, (Lit.int .u8 x).wf = true) (w : World) (row0 : HRow w v0 k0) (row1 : Row w .u8 v1 x1) (tb : TabL w) :
    Calls Tryd.prog 4 #[v0, v1] w fun e w' => e = .returned (.bool true) ∧ Below w.heap.size w w' := by
  have b1 := bytes_of_wf wf1
  have m1 : x1.length ≤ 9223372036854775807 := by have h := l1; unfold maxLen at h; omega
  have sm9 : k0.small 9223372036854775807 := h8small_mono sm0 (by unfold maxLen; decide)
  by_cases h : rok k0 x1
  · refine retryPacket_walkOf v0 k0 v1 x1 (retP k0 x1) 0 w TabL (fun w' hb => tb.below hb tb.lt) sm0 kb0 l1 wf1 row0 row1 (by unfold retP; rw [List.length_append, retO_length, retV_length]; have h1 := h.2.2.1; have h2 := h.2.2.2.1; have h3 := h.2.2.2.2.2.1; omega) ?_ ?_
    · intro w u0 u1 r0 r1
      obtain ⟨ao, cp, rfl⟩ := r1.form
      exact retS_ok u0 k0 ao cp x1 w r0 kb0 r1 b1 h
    · intro w u0 u1 tw r0 r1
      obtain ⟨ao, cp, rfl⟩ := r1.form
      exact retI_ok u0 k0 ao cp x1 w tw r0 kb0 r1 b1 h
  · refine retryPacket_walkOf v0 k0 v1 x1 [] 1 w TabL (fun w' hb => tb.below hb tb.lt) sm0 kb0 l1 wf1 row0 row1 (by simp) ?_ ?_
    · intro w u0 u1 r0 r1
      obtain ⟨ao, cp, rfl⟩ := r1.form
      exact retS_bad u0 k0 ao cp x1 w r0 sm9 m1 h
    · intro w u0 u1 _ r0 r1
      obtain ⟨ao, cp, rfl⟩ := r1.form
      exact retI_bad u0 k0 ao cp x1 w r0 sm9 r1 m1 h
end Go.Proofs.YtiiefhpkkjocbakDoor
