import Derived.Test.YthjakbpcpfmbjaaFuM
import Derived.Deep.RegionHeld3
import Derived.BigRegion
namespace Go.Proofs.Ythjakbpcpfmbjaa
open Go.RowKit
set_option linter.unusedVariables false
set_option linter.unusedSimpArgs false

set_option maxRecDepth 20000 in
set_option maxHeartbeats 1000000 in
theorem kindI (g : Nat) (sv ours o : Bool) (w : World) (h0 : w.cell? ⟨g, 0, none⟩ = some (.bool sv)) :
    Calls Try.prog 35 #[.pointer (some ⟨g, 0, none⟩), .bool ours, .bool o] w fun e w' => e = .returned (.pointer (some ⟨g, 10 + bN (sv == ours) o * 2, none⟩)) ∧ ∃ n, w' = w.drewN n := by
  have C : ∀ u : World, Calls Try.prog 9 #[.bool (sv == ours), .bool o, .int .i64 0] u fun e w' => e = .returned (.int .i64 (bN (sv == ours) o : Int)) ∧ w' = u := fun u => by
    have e : idV (sv == ours) o 0 = (bN (sv == ours) o : Int) := by cases sv <;> cases ours <;> cases o <;> decide
    rw [← e]; exact implIdOf _ _ _ u
  have hb := bN_lt (sv == ours) o
  generalize bN (sv == ours) o = b at *
  have hbi : (b : Int) < 4 := by omega
  have HC : Hid _ := And.intro C True.intro
  clear C
  go_enter Try.func35, Try.ntmps35
  go_wp2_with fail
  go_quiet (first | (go_at_call 9; exact Calls.quiet_of_same (HC.out.1 _)))
  go_wp2_with fail
  go_ret
  exact ⟨rfl, _, rfl⟩
theorem newAccI (a b : Int) (w : World) :
    Calls Try.prog 34 #[.int .i64 a, .int .i64 b] w fun e w' => e = .returned (.pointer (some ⟨w.heap.size, 0, none⟩)) ∧ w' = w.alloc (.cells #[.int .i64 a, .int .i64 0, .int .i64 b, .int .i64 0, .int .i64 0, .int .i64 a] 96) := by
  go_enter Try.func34, Try.ntmps34
  go_wp2
  go_ret
  exact ⟨rfl, rfl⟩
theorem ptS_and {id : Int} (h0 : 0 ≤ id) (h1 : id < 4611686018427387904) : (bits .and .i64 id 1 != 0) = ptS id ∧ (bits .and .i64 id 2 == 0) = !ptO id := by
  rw [andI1 id h0 (by omega), andI2 id h0 (by omega)]
  have hn : ¬ (id < 0 ∨ 4611686018427387904 ≤ id) := by omega
  simp only [ptS, ptO, if_neg hn]
  refine ⟨?_, ?_⟩
  · rcases (show id % 2 = 0 ∨ id % 2 = 1 by omega) with a | a <;> rw [a] <;> rfl
  · rcases (show id / 2 % 2 = 0 ∨ id / 2 % 2 = 1 by omega) with a | a <;> rw [a] <;> rfl
theorem oursI (g : Nat) (sv : Bool) (id : Int) (w : World) (h0 : w.cell? ⟨g, 0, none⟩ = some (.bool sv)) (hi0 : 0 ≤ id) (hi1 : id < 4611686018427387904) :
    Calls Try.prog 54 #[.pointer (some ⟨g, 0, none⟩), .int .i64 id] w fun e w' => e = .returned (.bool (ptS id == sv)) ∧ w' = w := by
  have e : Hid _ := (ptS_and hi0 hi1).1
  go_enter Try.func54, Try.ntmps54
  go_wp2
  go_ret
  exact ⟨by rw [← e.out]; rfl, rfl⟩
/-- A stream that is there has a number. -/
theorem FXI.valid {F : FS} {i : Nat} {m : FX} (h : FXI F i m) (hi : i ≤ 400) {id : Int} (hl : ixf m.L id < m.L.length) : 0 ≤ id ∧ id < 4611686018427387904 := by
  obtain ⟨o, k, hk, ⟨k1, e⟩ | ⟨k1, e⟩⟩ := (h.mem id).1 (ixf_mem.1 hl)
  · have a := h.op o
    have b := h.my o
    rw [e]; exact idn_bound hk (by omega)
  · have a := h.th o
    have b := h.tin o
    rw [e]; exact idn_bound hk (by omega)
set_option maxHeartbeats 1000000 in
theorem canSI (g base : Nat) (F : FS) (m : FX) (ss sc : Int) (wb ms ml : Nat) (pb : Nat → Nat) (i : Nat) (id : Int) (w : World) (h : FR w g base F m ss sc wb ms ml pb) (hI : FXI F i m) (hi : i ≤ 400) (hw : (Lit.int .i64 id).wf = true) :
    Calls Try.prog 53 #[.pointer (some ⟨g, 0, none⟩), .int .i64 id] w fun e w' => e = .returned (.bool (decide (canS F m.L id))) ∧ w' = w := by
  have c0 : w.cell? ⟨g, 0, none⟩ = some (.bool F.sv) := h.cell 0
  have c18 : w.cell? ⟨g, 18, none⟩ = some (.map (some ms)) := h.cell 18
  have LK := h.lookS hw
  unfold mS at LK
  by_cases hl : ixf m.L id < m.L.length
  · rw [if_pos hl] at LK
    simp only [pval] at LK
    have hv := hI.valid hi hl
    have O := oursI g F.sv id w c0 hv.1 hv.2
    have ez : Hid _ := (ptS_and hv.1 hv.2).2
    have e : decide (canS F m.L id) = ((ptS id == F.sv) || !ptO id) := by
      unfold canS
      simp only [hl, true_and]
      cases ptS id <;> cases F.sv <;> cases ptO id <;> rfl
    rw [e]
    have HO : Hid _ := And.intro O True.intro
    clear O e hI h hl
    cases hz : (ptS id == F.sv)
    · rw [hz] at HO
      go_enter Try.func53, Try.ntmps53
      go_wp2_with (first | (go_at_call 54; refine HO.out.1.mono ?_; rintro e w1 ⟨rfl, hw1⟩; subst hw1))
      go_ret
      exact ⟨by rw [← ez.out]; rfl, rfl⟩
    · rw [hz] at HO
      go_enter Try.func53, Try.ntmps53
      go_wp2_with (first | (go_at_call 54; refine HO.out.1.mono ?_; rintro e w1 ⟨rfl, hw1⟩; subst hw1))
      go_ret
      exact ⟨rfl, rfl⟩
  · rw [if_neg hl] at LK
    simp only [pval] at LK
    have e : decide (canS F m.L id) = false := decide_eq_false (fun x => hl x.1)
    rw [e]
    clear e hI h hl
    go_enter Try.func53, Try.ntmps53
    go_wp2
    go_ret
    exact ⟨rfl, rfl⟩
set_option maxHeartbeats 1000000 in
theorem canGI (g base : Nat) (F : FS) (m : FX) (ss sc : Int) (wb ms ml : Nat) (pb : Nat → Nat) (i : Nat) (id : Int) (w : World) (h : FR w g base F m ss sc wb ms ml pb) (hI : FXI F i m) (hi : i ≤ 400) (hw : (Lit.int .i64 id).wf = true) :
    Calls Try.prog 56 #[.pointer (some ⟨g, 0, none⟩), .int .i64 id] w fun e w' => e = .returned (.bool (decide (canG F m.L id))) ∧ w' = w := by
  have c0 : w.cell? ⟨g, 0, none⟩ = some (.bool F.sv) := h.cell 0
  have c18 : w.cell? ⟨g, 18, none⟩ = some (.map (some ms)) := h.cell 18
  have LK := h.lookS hw
  unfold mS at LK
  by_cases hl : ixf m.L id < m.L.length
  · rw [if_pos hl] at LK
    simp only [pval] at LK
    have hv := hI.valid hi hl
    have O := oursI g F.sv id w c0 hv.1 hv.2
    have ez : Hid _ := (ptS_and hv.1 hv.2).2
    have e : decide (canG F m.L id) = (!(ptS id == F.sv) || !ptO id) := by
      unfold canG
      simp only [hl, true_and]
      cases ptS id <;> cases F.sv <;> cases ptO id <;> rfl
    rw [e]
    have HO : Hid _ := And.intro O True.intro
    clear O e hI h hl
    cases hz : (ptS id == F.sv)
    · rw [hz] at HO
      go_enter Try.func56, Try.ntmps56
      go_wp2_with (first | (go_at_call 54; refine HO.out.1.mono ?_; rintro e w1 ⟨rfl, hw1⟩; subst hw1))
      go_ret
      exact ⟨rfl, rfl⟩
    · rw [hz] at HO
      go_enter Try.func56, Try.ntmps56
      go_wp2_with (first | (go_at_call 54; refine HO.out.1.mono ?_; rintro e w1 ⟨rfl, hw1⟩; subst hw1))
      go_ret
      exact ⟨by rw [← ez.out]; rfl, rfl⟩
  · rw [if_neg hl] at LK
    simp only [pval] at LK
    have e : decide (canG F m.L id) = false := decide_eq_false (fun x => hl x.1)
    rw [e]
    clear e hI h hl
    go_enter Try.func56, Try.ntmps56
    go_wp2
    go_ret
    exact ⟨rfl, rfl⟩
end Go.Proofs.Ythjakbpcpfmbjaa
