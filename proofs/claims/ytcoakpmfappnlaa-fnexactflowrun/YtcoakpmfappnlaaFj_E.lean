import Derived.Test.YtcoakpmfappnlaaFj_A
import Derived.Test.YtcoakpmfappnlaaFvC
import Derived.Deep.Cut
import Derived.Deep.CutRange
namespace Go.Proofs.Ytcoakpmfappnlaa
open Go.RowKit
set_option linter.unusedVariables false
set_option linter.unusedSimpArgs false

set_option maxRecDepth 20000 in
set_option maxHeartbeats 4000000 in
theorem setupM (F : FS) (w : World) : Calls Try.prog 14 #[fsV F] w fun e w' => e = .returned (.bool (fsOK F)) ∧ Below w.heap.size w w' := by
  obtain ⟨sv, cw, sw, tw, ow, pc, ps, pt, po⟩ := F
  unfold fsV
  dsimp only
  have V1 := fun u => varFx pc u
  have V2 := fun u => varFx ps u
  have hB : Below w.heap.size w (w.alloc (.cells #[.bool sv, .int .i64 cw, .int .i64 sw, .int .i64 tw, .int .i64 ow, .int .i64 pc, .int .i64 ps, .int .i64 pt, .int .i64 po] 29)) := (Below.refl _ _).alloc (Nat.le_refl _) _
  have HB : Hid _ := hB
  have HV : Hid _ := And.intro V1 V2
  clear V1 V2 hB
  obtain ⟨b, eb⟩ : ∃ b, b = decide (1 ≤ cw ∧ cw ≤ 16384 ∧ 1 ≤ sw ∧ sw ≤ 16384 ∧ 0 ≤ tw ∧ tw ≤ 64 ∧ 0 ≤ ow ∧ ow ≤ 64 ∧ 0 ≤ pc ∧ pc ≤ 4611686018427387903 ∧ 0 ≤ ps ∧ ps ≤ 4611686018427387903 ∧ 0 ≤ pt ∧ pt ≤ 1152921504606846976 ∧ 0 ≤ po ∧ po ≤ 1152921504606846976) := ⟨_, rfl⟩
  rw [show fsOK ⟨sv, cw, sw, tw, ow, pc, ps, pt, po⟩ = decide (1 ≤ cw ∧ cw ≤ 16384 ∧ 1 ≤ sw ∧ sw ≤ 16384 ∧ 0 ≤ tw ∧ tw ≤ 64 ∧ 0 ≤ ow ∧ ow ≤ 64 ∧ 0 ≤ pc ∧ pc ≤ 4611686018427387903 ∧ 0 ≤ ps ∧ ps ≤ 4611686018427387903 ∧ 0 ≤ pt ∧ pt ≤ 1152921504606846976 ∧ 0 ≤ po ∧ po ≤ 1152921504606846976) from rfl, ← eb]
  obtain ⟨bA, ebA⟩ : ∃ b, b = decide (1 ≤ cw ∧ cw ≤ 16384 ∧ 1 ≤ sw ∧ sw ≤ 16384) := ⟨_, rfl⟩
  obtain ⟨bB, ebB⟩ : ∃ b, b = decide (0 ≤ tw ∧ tw ≤ 64 ∧ 0 ≤ ow ∧ ow ≤ 64) := ⟨_, rfl⟩
  have HE : Hid _ := eb
  have HA : Hid _ := ebA
  have HC : Hid _ := ebB
  clear eb ebA ebB
  go_enter Try.func14, Try.ntmps14
  go_upto_region 1 with fail
  go_cut [3] from 5 to 22 (fun v wx => v = .bool bA ∧ wx = w.alloc (.cells #[.bool sv, .int .i64 cw, .int .i64 sw, .int .i64 tw, .int .i64 ow, .int .i64 pc, .int .i64 ps, .int .i64 pt, .int .i64 po] 29))
  case first =>
    by_cases h0 : 1 ≤ cw
    case neg =>
      have HF : Hid _ := (HA.out.trans (decide_eq_false (by omega)) : bA = false)
      have d0 : decide (1 ≤ cw) = false := decide_eq_false h0
      go_wp2
      go_meet
      exact ⟨by rw [HF.out], rfl⟩
    by_cases h1 : cw ≤ 16384
    case neg =>
      have HF : Hid _ := (HA.out.trans (decide_eq_false (by omega)) : bA = false)
      have d0 : decide (1 ≤ cw) = true := decide_eq_true h0
      have d1 : decide (cw ≤ 16384) = false := decide_eq_false h1
      go_wp2
      go_meet
      exact ⟨by rw [HF.out], rfl⟩
    by_cases h2 : 1 ≤ sw
    case neg =>
      have HF : Hid _ := (HA.out.trans (decide_eq_false (by omega)) : bA = false)
      have d0 : decide (1 ≤ cw) = true := decide_eq_true h0
      have d1 : decide (cw ≤ 16384) = true := decide_eq_true h1
      have d2 : decide (1 ≤ sw) = false := decide_eq_false h2
      go_wp2
      go_meet
      exact ⟨by rw [HF.out], rfl⟩
    by_cases h3 : sw ≤ 16384
    case neg =>
      have HF : Hid _ := (HA.out.trans (decide_eq_false (by omega)) : bA = false)
      have d0 : decide (1 ≤ cw) = true := decide_eq_true h0
      have d1 : decide (cw ≤ 16384) = true := decide_eq_true h1
      have d2 : decide (1 ≤ sw) = true := decide_eq_true h2
      have d3 : decide (sw ≤ 16384) = false := decide_eq_false h3
      go_wp2
      go_meet
      exact ⟨by rw [HF.out], rfl⟩
    have HF : Hid _ := (HA.out.trans (decide_eq_true (by omega)) : bA = true)
    have d0 : decide (1 ≤ cw) = true := decide_eq_true h0
    have d1 : decide (cw ≤ 16384) = true := decide_eq_true h1
    have d2 : decide (1 ≤ sw) = true := decide_eq_true h2
    have d3 : decide (sw ≤ 16384) = true := decide_eq_true h3
    go_wp2
    go_meet
    exact ⟨by rw [HF.out], rfl⟩
  case rest =>
  obtain ⟨rfl, rfl⟩ := hcut
  go_upto_region 2 with fail
  go_cut [4] from 23 to 40 (fun v wx => v = .bool bB ∧ wx = w.alloc (.cells #[.bool sv, .int .i64 cw, .int .i64 sw, .int .i64 tw, .int .i64 ow, .int .i64 pc, .int .i64 ps, .int .i64 pt, .int .i64 po] 29))
  case first =>
    by_cases h0 : 0 ≤ tw
    case neg =>
      have HF : Hid _ := (HC.out.trans (decide_eq_false (by omega)) : bB = false)
      have d0 : decide (0 ≤ tw) = false := decide_eq_false h0
      go_wp2
      go_meet
      exact ⟨by rw [HF.out], rfl⟩
    by_cases h1 : tw ≤ 64
    case neg =>
      have HF : Hid _ := (HC.out.trans (decide_eq_false (by omega)) : bB = false)
      have d0 : decide (0 ≤ tw) = true := decide_eq_true h0
      have d1 : decide (tw ≤ 64) = false := decide_eq_false h1
      go_wp2
      go_meet
      exact ⟨by rw [HF.out], rfl⟩
    by_cases h2 : 0 ≤ ow
    case neg =>
      have HF : Hid _ := (HC.out.trans (decide_eq_false (by omega)) : bB = false)
      have d0 : decide (0 ≤ tw) = true := decide_eq_true h0
      have d1 : decide (tw ≤ 64) = true := decide_eq_true h1
      have d2 : decide (0 ≤ ow) = false := decide_eq_false h2
      go_wp2
      go_meet
      exact ⟨by rw [HF.out], rfl⟩
    by_cases h3 : ow ≤ 64
    case neg =>
      have HF : Hid _ := (HC.out.trans (decide_eq_false (by omega)) : bB = false)
      have d0 : decide (0 ≤ tw) = true := decide_eq_true h0
      have d1 : decide (tw ≤ 64) = true := decide_eq_true h1
      have d2 : decide (0 ≤ ow) = true := decide_eq_true h2
      have d3 : decide (ow ≤ 64) = false := decide_eq_false h3
      go_wp2
      go_meet
      exact ⟨by rw [HF.out], rfl⟩
    have HF : Hid _ := (HC.out.trans (decide_eq_true (by omega)) : bB = true)
    have d0 : decide (0 ≤ tw) = true := decide_eq_true h0
    have d1 : decide (tw ≤ 64) = true := decide_eq_true h1
    have d2 : decide (0 ≤ ow) = true := decide_eq_true h2
    have d3 : decide (ow ≤ 64) = true := decide_eq_true h3
    go_wp2
    go_meet
    exact ⟨by rw [HF.out], rfl⟩
  case rest =>
  obtain ⟨rfl, rfl⟩ := hcut
  cases bA
  case false =>
    have g0 : ¬ (1 ≤ cw ∧ cw ≤ 16384 ∧ 1 ≤ sw ∧ sw ≤ 16384) := of_decide_eq_false HA.out.symm
    have HP : Hid _ := HV.out
    cases bB
    · skip
      have HF : Hid _ := (HE.out.trans (decide_eq_false (by omega)) : b = false)
      go_wp2_with (first | (go_at_call 26; first | (refine (HP.out.1 _).mono ?_; rintro e w1 ⟨rfl, hw1⟩; subst hw1) | (refine (HP.out.2 _).mono ?_; rintro e w1 ⟨rfl, hw1⟩; subst hw1)))
      go_ret
      exact ⟨by rw [HF.out]; rfl, HB.out⟩
    · skip
      have HF : Hid _ := (HE.out.trans (decide_eq_false (by omega)) : b = false)
      go_wp2_with (first | (go_at_call 26; first | (refine (HP.out.1 _).mono ?_; rintro e w1 ⟨rfl, hw1⟩; subst hw1) | (refine (HP.out.2 _).mono ?_; rintro e w1 ⟨rfl, hw1⟩; subst hw1)))
      go_ret
      exact ⟨by rw [HF.out]; rfl, HB.out⟩
  have g0 : 1 ≤ cw ∧ cw ≤ 16384 ∧ 1 ≤ sw ∧ sw ≤ 16384 := of_decide_eq_true HA.out.symm
  cases bB
  case false =>
    have g1 : ¬ (0 ≤ tw ∧ tw ≤ 64 ∧ 0 ≤ ow ∧ ow ≤ 64) := of_decide_eq_false HC.out.symm
    have HP : Hid _ := HV.out
    have HF : Hid _ := (HE.out.trans (decide_eq_false (by omega)) : b = false)
    go_wp2_with (first | (go_at_call 26; first | (refine (HP.out.1 _).mono ?_; rintro e w1 ⟨rfl, hw1⟩; subst hw1) | (refine (HP.out.2 _).mono ?_; rintro e w1 ⟨rfl, hw1⟩; subst hw1)))
    go_ret
    exact ⟨by rw [HF.out]; rfl, HB.out⟩
  have g1 : 0 ≤ tw ∧ tw ≤ 64 ∧ 0 ≤ ow ∧ ow ≤ 64 := of_decide_eq_true HC.out.symm
  by_cases g2 : 0 ≤ pc ∧ pc ≤ 4611686018427387903
  case neg =>
    have HP : Hid _ := HV.out
    rw [decide_eq_false g2] at HP
    have HF : Hid _ := (HE.out.trans (decide_eq_false (by omega)) : b = false)
    go_wp2_with (first | (go_at_call 26; first | (refine (HP.out.1 _).mono ?_; rintro e w1 ⟨rfl, hw1⟩; subst hw1) | (refine (HP.out.2 _).mono ?_; rintro e w1 ⟨rfl, hw1⟩; subst hw1)))
    go_ret
    exact ⟨by rw [HF.out]; rfl, HB.out⟩
  rw [decide_eq_true g2] at HV
  by_cases g3 : 0 ≤ ps ∧ ps ≤ 4611686018427387903
  case neg =>
    have HP : Hid _ := HV.out
    rw [decide_eq_false g3] at HP
    have HF : Hid _ := (HE.out.trans (decide_eq_false (by omega)) : b = false)
    go_wp2_with (first | (go_at_call 26; first | (refine (HP.out.1 _).mono ?_; rintro e w1 ⟨rfl, hw1⟩; subst hw1) | (refine (HP.out.2 _).mono ?_; rintro e w1 ⟨rfl, hw1⟩; subst hw1)))
    go_ret
    exact ⟨by rw [HF.out]; rfl, HB.out⟩
  rw [decide_eq_true g3] at HV
  have HP : Hid _ := HV.out
  by_cases p0 : 0 ≤ pt
  case neg =>
    have HF : Hid _ := (HE.out.trans (decide_eq_false (by omega)) : b = false)
    have d0 : decide (0 ≤ pt) = false := decide_eq_false p0
    go_wp2_with (first | (go_at_call 26; first | (refine (HP.out.1 _).mono ?_; rintro e w1 ⟨rfl, hw1⟩; subst hw1) | (refine (HP.out.2 _).mono ?_; rintro e w1 ⟨rfl, hw1⟩; subst hw1)))
    go_ret
    exact ⟨by rw [HF.out]; rfl, HB.out⟩
  by_cases p1 : pt ≤ 1152921504606846976
  case neg =>
    have HF : Hid _ := (HE.out.trans (decide_eq_false (by omega)) : b = false)
    have d0 : decide (0 ≤ pt) = true := decide_eq_true p0
    have d1 : decide (pt ≤ 1152921504606846976) = false := decide_eq_false p1
    go_wp2_with (first | (go_at_call 26; first | (refine (HP.out.1 _).mono ?_; rintro e w1 ⟨rfl, hw1⟩; subst hw1) | (refine (HP.out.2 _).mono ?_; rintro e w1 ⟨rfl, hw1⟩; subst hw1)))
    go_ret
    exact ⟨by rw [HF.out]; rfl, HB.out⟩
  by_cases p2 : 0 ≤ po
  case neg =>
    have HF : Hid _ := (HE.out.trans (decide_eq_false (by omega)) : b = false)
    have d0 : decide (0 ≤ pt) = true := decide_eq_true p0
    have d1 : decide (pt ≤ 1152921504606846976) = true := decide_eq_true p1
    have d2 : decide (0 ≤ po) = false := decide_eq_false p2
    go_wp2_with (first | (go_at_call 26; first | (refine (HP.out.1 _).mono ?_; rintro e w1 ⟨rfl, hw1⟩; subst hw1) | (refine (HP.out.2 _).mono ?_; rintro e w1 ⟨rfl, hw1⟩; subst hw1)))
    go_ret
    exact ⟨by rw [HF.out]; rfl, HB.out⟩
  by_cases p3 : po ≤ 1152921504606846976
  case neg =>
    have HF : Hid _ := (HE.out.trans (decide_eq_false (by omega)) : b = false)
    have d0 : decide (0 ≤ pt) = true := decide_eq_true p0
    have d1 : decide (pt ≤ 1152921504606846976) = true := decide_eq_true p1
    have d2 : decide (0 ≤ po) = true := decide_eq_true p2
    have d3 : decide (po ≤ 1152921504606846976) = false := decide_eq_false p3
    go_wp2_with (first | (go_at_call 26; first | (refine (HP.out.1 _).mono ?_; rintro e w1 ⟨rfl, hw1⟩; subst hw1) | (refine (HP.out.2 _).mono ?_; rintro e w1 ⟨rfl, hw1⟩; subst hw1)))
    go_ret
    exact ⟨by rw [HF.out]; rfl, HB.out⟩
  have HF : Hid _ := (HE.out.trans (decide_eq_true (by omega)) : b = true)
  have d0 : decide (0 ≤ pt) = true := decide_eq_true p0
  have d1 : decide (pt ≤ 1152921504606846976) = true := decide_eq_true p1
  have d2 : decide (0 ≤ po) = true := decide_eq_true p2
  have d3 : decide (po ≤ 1152921504606846976) = true := decide_eq_true p3
  go_wp2_with (first | (go_at_call 26; first | (refine (HP.out.1 _).mono ?_; rintro e w1 ⟨rfl, hw1⟩; subst hw1) | (refine (HP.out.2 _).mono ?_; rintro e w1 ⟨rfl, hw1⟩; subst hw1)))
  go_ret
  exact ⟨by rw [HF.out]; rfl, HB.out⟩
end Go.Proofs.Ytcoakpmfappnlaa

namespace Go.Proofs.Ytcoakpmfappnlaa
open Go.RowKit
set_option linter.unusedVariables false
set_option linter.unusedSimpArgs false

set_option maxRecDepth 20000 in
set_option maxHeartbeats 4000000 in
theorem newM (F : FS) (w : World) : Calls Try.prog 15 #[fsV F] w fun e w' => ∃ x, e = .returned (.pointer (some ⟨x, 0, none⟩)) ∧ MRep w' x w.heap.size F (fx0 F) ∧ Below w.heap.size w w' := by
  unfold fsV
  go_enter Try.func15, Try.ntmps15
  go_wp2
  go_region
  go_wp2
  go_region
  go_wp2
  go_region
  go_wp2
  go_region
  go_wp2
  go_ret
  obtain ⟨sv, cw, sw, tw, ow, pc, ps, pt, po⟩ := F
  refine ⟨w.heap.size + 1, rfl, ⟨.slice none 0 0, ?_, ⟨[], World.ownsRow_nil _ _ _ _, fun j hj => by simp [fx0] at hj⟩, by omega⟩, bdr (bdr (bdr (bdr (((Below.refl _ _).alloc (Nat.le_refl _) _).alloc (by simp) _))))⟩
  have z := fun o1 o2 => heap_alloc_new (w.alloc o1) o2
  have hs : ∀ o1, (w.alloc o1).heap.size = w.heap.size + 1 := fun o1 => by simp
  simp only [hs] at z
  exact z _ _
end Go.Proofs.Ytcoakpmfappnlaa
