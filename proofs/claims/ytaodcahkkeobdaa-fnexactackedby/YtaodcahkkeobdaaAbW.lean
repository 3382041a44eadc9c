import Derived.Test.YtaodcahkkeobdaaAbS2
import Derived.Test.YtaodcahkkeobdaaAbS3
import Derived.Test.YtaodcahkkeobdaaAbI
import Derived.Test.YtaodcahkkeobdaaAbLaw
namespace Go.Proofs.Ytaodcahkkeobdaa
open Go.RowKit
set_option linter.unusedVariables false

/-- Both FrameOK's tell one Bool; at an acknowledgement it tells that the ranges are valid. -/
theorem bothA (h : F8) (hs : h.small 1048576) : ∃ s : Bool, (∀ v w, FRow w v h → Calls Try.prog 33 #[v] w fun e w' => e = .returned (.bool s) ∧ Below w.heap.size w w') ∧ (∀ v w, FRow w v h → Calls Try.prog 25 #[v] w fun e w' => e = .returned (.bool s) ∧ Below w.heap.size w w') ∧ (h.k = 2 → s = true → rokV h.r = true) := by
  by_cases hk : h.k = 2
  · have hb := both_ack h.a h.b h.c h.fin h.d.length h.t.length h.r.length h.r rfl (Nat.le_trans hs.1 (by decide)) (Nat.le_trans hs.2.2 (by decide))
    rw [← hk] at hb
    obtain ⟨h1, h2⟩ := hb
    refine ⟨okI h.a h.b h.c h.d.length (sfK (bitOf (h.a != 0) (h.b != 0) (h.c != 0) h.fin ((h.d.length : Int) != 0) ((h.t.length : Int) != 0) ((h.r.length : Int) != 0)) 7) 65 0 0 (decide (0 < h.r.length) && rokV h.r), fun v w hr => ?_, fun v w hr => ?_, fun _ ht => ?_⟩
    · obtain ⟨a2, a3, a4, p2, p3, p4, rfl, q2, q3, q4⟩ := hr.parts
      exact h1 a2 a3 a4 p2 p3 p4 w q4
    · obtain ⟨a2, a3, a4, p2, p3, p4, rfl, q2, q3, q4⟩ := hr.parts
      exact h2 a2 a3 a4 p2 p3 p4 w q4
    · unfold okI at ht
      simp only [Bool.and_eq_true] at ht
      exact ht.2.2
  · obtain ⟨s, h1, h2⟩ := bothF h hs
    exact ⟨s, h1, h2, fun h => absurd h hk⟩
theorem fnExactAckedBy_walk (v0 : Value) (k0 : F8) (v1 : Value) (xs : List Int) (sm : k0.small maxLen) (hl : xs.length ≤ maxLen) (hwf : ∀ x ∈ xs, (Lit.int .i64 x).wf = true) (w : World) (row : FRow w v0 k0) (rx : Row w .i64 v1 xs) :
    Calls Try.prog 4 #[v0, v1] w fun e w' => e = .returned (.bool true) ∧ Below w.heap.size w w' := by
  have sm2 : k0.small 9223372036854775807 := ⟨Nat.le_trans sm.1 (by decide), Nat.le_trans sm.2.1 (by decide), Nat.le_trans sm.2.2 (by decide)⟩
  have hl2 : xs.length ≤ 9223372036854775807 := Nat.le_trans hl (by decide)
  by_cases hx : xs.length ≤ 1048576
  · by_cases hf : k0.total ≤ 1048576
    · have sk : k0.small 1048576 := by unfold F8.total at hf; exact ⟨by omega, by omega, by omega⟩
      obtain ⟨s, hS, hI, hro⟩ := bothA k0 sk
      by_cases h4 : xs.length ≤ 4096
      · by_cases hk : k0.k = 2
        · cases hs : s with
          | false =>
            subst hs
            refine abLaw v0 k0 v1 xs [] 1 w row rx hx hf (by simp) (fun v u w hv hu => ?_) (fun v u w hv hu => ?_)
            · obtain ⟨a2, a3, a4, p2, p3, p4, rfl, _, _, _⟩ := hv.parts
              obtain ⟨ao, cp, rfl⟩ := hu.form
              exact abS_frame k0 a2 a3 a4 p2 p3 p4 xs ao cp w hv hu h4 hk hS
            · obtain ⟨a2, a3, a4, p2, p3, p4, rfl, _, _, _⟩ := hv.parts
              obtain ⟨ao, cp, rfl⟩ := hu.form
              exact abI_frame k0 a2 a3 a4 p2 p3 p4 xs ao cp w hv hu h4 hk hI
          | true =>
            subst hs
            have hr := hro hk rfl
            by_cases hg : ∀ j, j < xs.length → ngood xs j
            · refine abLaw v0 k0 v1 xs (accL k0.r xs) 0 w row rx hx hf (Nat.le_trans (accL_length k0.r xs) hx) (fun v u w hv hu => ?_) (fun v u w hv hu => ?_)
              · obtain ⟨a2, a3, a4, p2, p3, p4, rfl, _, _, _⟩ := hv.parts
                obtain ⟨ao, cp, rfl⟩ := hu.form
                exact abS_ok k0 a2 a3 a4 p2 p3 p4 xs ao cp w hv hu h4 hk hS hr sk.2.2 hg
              · obtain ⟨a2, a3, a4, p2, p3, p4, rfl, _, _, _⟩ := hv.parts
                obtain ⟨ao, cp, rfl⟩ := hu.form
                exact abI_ok k0 a2 a3 a4 p2 p3 p4 xs ao cp w hv hu h4 hk hI hr sk.2.2 hg
            · have hb : ∃ j, j < xs.length ∧ ¬ ngood xs j := by
                by_cases he : ∃ j, j < xs.length ∧ ¬ ngood xs j
                · exact he
                · exact absurd (fun j hj => by
                    by_cases hn : ngood xs j
                    · exact hn
                    · exact absurd ⟨j, hj, hn⟩ he) hg
              refine abLaw v0 k0 v1 xs [] 1 w row rx hx hf (by simp) (fun v u w hv hu => ?_) (fun v u w hv hu => ?_)
              · obtain ⟨a2, a3, a4, p2, p3, p4, rfl, _, _, _⟩ := hv.parts
                obtain ⟨ao, cp, rfl⟩ := hu.form
                exact abS_rise k0 a2 a3 a4 p2 p3 p4 xs ao cp w hv hu h4 hk hS hb
              · obtain ⟨a2, a3, a4, p2, p3, p4, rfl, _, _, _⟩ := hv.parts
                obtain ⟨ao, cp, rfl⟩ := hu.form
                exact abI_rise k0 a2 a3 a4 p2 p3 p4 xs ao cp w hv hu h4 hk hI hb
        · refine abLaw v0 k0 v1 xs [] 1 w row rx hx hf (by simp) (fun v u w hv hu => ?_) (fun v u w hv hu => ?_)
          · obtain ⟨a2, a3, a4, p2, p3, p4, rfl, _, _, _⟩ := hv.parts
            obtain ⟨ao, cp, rfl⟩ := hu.form
            exact abS_kind k0 a2 a3 a4 p2 p3 p4 xs ao cp w h4 hk
          · obtain ⟨a2, a3, a4, p2, p3, p4, rfl, _, _, _⟩ := hv.parts
            obtain ⟨ao, cp, rfl⟩ := hu.form
            exact abI_kind k0 a2 a3 a4 p2 p3 p4 xs ao cp w h4 hk
      · refine abLaw v0 k0 v1 xs [] 4 w row rx hx hf (by simp) (fun v u w hv hu => ?_) (fun v u w hv hu => ?_)
        · obtain ⟨a2, a3, a4, p2, p3, p4, rfl, _, _, _⟩ := hv.parts
          obtain ⟨ao, cp, rfl⟩ := hu.form
          exact abS_long k0 a2 a3 a4 p2 p3 p4 xs ao cp w (by omega) hl2
        · obtain ⟨a2, a3, a4, p2, p3, p4, rfl, _, _, _⟩ := hv.parts
          obtain ⟨ao, cp, rfl⟩ := hu.form
          exact abI_long k0 a2 a3 a4 p2 p3 p4 xs ao cp w (by omega) hl2
    · obtain ⟨ao, cp, rfl⟩ := rx.form
      exact ab_hugeF v0 k0 sm2 ao xs.length cp w row hx (by omega)
  · obtain ⟨ao, cp, rfl⟩ := rx.form
    obtain ⟨a2, a3, a4, p2, p3, p4, rfl, _, _, _⟩ := row.parts
    exact ab_huge a2 a3 a4 p2 p3 p4 k0 ao xs.length cp w (by omega) hl2
end Go.Proofs.Ytaodcahkkeobdaa
