import Derived.Test.YtdommkpeilmdnaaDoorRdI
import Derived.Test.YtdommkpeilmdnaaDoorGetVarI
import Derived.Deep.RegionWith
namespace Go.Proofs.YtdommkpeilmdnaaDoor
open Go.RowKit
set_option linter.unusedVariables false

/-- The bytes from p on, k of them. -/
def sub (xs : List Int) (p k : Nat) : List Int := (xs.drop p).take k
theorem sub_len (xs : List Int) (p k : Nat) (h : p + k ≤ xs.length) : (sub xs p k).length = k := sub_length xs p k h
theorem sub_bytes {xs : List Int} (h : Bytes xs) (p k : Nat) : Bytes (sub xs p k) := (h.drop p).take k
theorem numK_lt (xs : List Int) (hb : Bytes xs) (p k : Nat) (hk : k ≤ 4) : 0 ≤ vals (sub xs p k) ∧ vals (sub xs p k) < 4294967296 := by
  refine ⟨vals_nonneg _ (sub_bytes hb p k), ?_⟩
  have h := vals_lt (sub xs p k) (sub_bytes hb p k)
  have hl : (sub xs p k).length ≤ 4 := by unfold sub; rw [List.length_take]; omega
  generalize (sub xs p k).length = m at *
  have : m = 0 ∨ m = 1 ∨ m = 2 ∨ m = 3 ∨ m = 4 := by omega
  rcases this with rfl | rfl | rfl | rfl | rfl <;> simp at h <;> omega
/-- Whether a number in the variable form stands at p; the number; the place behind it. -/
abbrev varOK (xs : List Int) (p : Nat) : Prop := p < xs.length ∧ p + gvn (xs.getD p 0) ≤ xs.length
def varV (xs : List Int) (p : Nat) : Int := vals (sub xs p (gvn (xs.getD p 0))) % gvm (xs.getD p 0)
def varN (xs : List Int) (p : Nat) : Nat := p + gvn (xs.getD p 0)
theorem gv_yes (xs : List Int) (p : Nat) (h : xs.length ≤ 65536) (hv : varOK xs p) : gv xs (p : Int) = (varV xs p, ((varN xs p : Nat) : Int), 0) := by
  rw [gv_ok xs p h hv.1 hv.2]
  simp [varV, varN, sub]
theorem gv_not (xs : List Int) (p : Nat) (h : xs.length ≤ 65536) (hp : p ≤ xs.length) (hv : ¬ varOK xs p) : gv xs (p : Int) = (0, 0, 2) := by
  by_cases e : p = xs.length
  · unfold gv
    rw [if_neg (by omega), if_neg (by omega), if_pos (by omega)]
  · exact gv_short xs p h (by omega) (by unfold varOK at hv; omega)
theorem varV_bd (xs : List Int) (p : Nat) : 0 ≤ varV xs p ∧ varV xs p < 4611686018427387904 := by
  unfold varV gvm
  split
  · omega
  · split
    · omega
    · split <;> omega
theorem varN_bd (xs : List Int) (p : Nat) (h : varOK xs p) : p < varN xs p ∧ varN xs p ≤ xs.length := by
  have := gvn_bd (xs.getD p 0)
  exact ⟨by unfold varN; omega, h.2⟩
set_option maxRecDepth 20000 in
set_option maxHeartbeats 1000000 in
theorem variable_ok (g b off n cap p : Nat) (xs : List Int) (w : World) (ht : Tab w) (h : rdB w g (.slice (some ⟨b, off, none⟩) n cap) p) (hl : Lies w b off n cap xs) (hB : Bytes xs) (hn : n ≤ 65536) (hv : varOK xs p) :
    Calls Tryd.prog 24 #[.pointer (some ⟨g, 0, none⟩)] w fun e w' => e = .returned (.int .i64 (varV xs p)) ∧
      rdB w' g (.slice (some ⟨b, off, none⟩) n cap) ((varN xs p : Nat) : Int) ∧ Chg (· = g) w w' := by
  have hr : Row w.drew .u8 (.slice (some ⟨b, off, none⟩) n cap) xs := by
    have := (hl.row 0 n (by omega)).drewN 1
    rwa [Nat.add_zero, Nat.sub_zero, List.drop_zero, List.take_of_length_le (by rw [hl.len]; exact Nat.le_refl _)] at this
  have hg := implGetVar _ xs p w.drew (ht.below (B := w.heap.size) ⟨rfl, rfl, rfl, Nat.le_refl _, fun _ _ => rfl⟩ ht.lt) hr hB (by rw [hl.len]; omega)
  rw [gv_yes xs p (by rw [hl.len]; exact hn) hv] at hg
  dsimp only at hg
  have c0 : w.drew.cell? ⟨g, 0, none⟩ = _ := h.c0
  have c1 : w.drew.cell? ⟨g, 1, none⟩ = _ := h.c1
  have f1 : w.drew.frozen? ⟨g, 1, none⟩ = false := h.fr 1
  have HH : Hid _ := And.intro h True.intro
  generalize varV xs p = V at *
  generalize varN xs p = N at *
  clear h hr hl hv
  go_enter Tryd.func24, Tryd.ntmps24
  go_wp2_with fail
  go_region_with (go_at_call 42; refine hg.mono ?_; rintro e w2 ⟨rfl, hw2⟩; rw [hw2]; clear hw2 w2)
  all_goals (go_wp2_with fail; go_at_call 25; refine (leaveIf_f _ 0 _).mono ?_; rintro e w3 ⟨rfl, hw3⟩; rw [hw3]; clear hw3 w3; go_wp2_with fail; go_ret)
  all_goals (exact ⟨rfl, HH.out.1.set _, ⟨rfl, rfl, rfl, by simp [World.setCell], fun q hq hs => bk_other (w := w) hs 1 _⟩⟩)
set_option maxRecDepth 20000 in
set_option maxHeartbeats 1000000 in
theorem variable_no (g b off n cap p : Nat) (xs : List Int) (w : World) (ht : Tab w) (h : rdB w g (.slice (some ⟨b, off, none⟩) n cap) p) (hl : Lies w b off n cap xs) (hB : Bytes xs) (hn : n ≤ 65536) (hp : p ≤ n) (hv : ¬ varOK xs p) :
    Calls Tryd.prog 24 #[.pointer (some ⟨g, 0, none⟩)] w fun e w' => e = .panicked [leftP 2] ∧ Chg (· = g) w w' := by
  have hr : Row w.drew .u8 (.slice (some ⟨b, off, none⟩) n cap) xs := by
    have := (hl.row 0 n (by omega)).drewN 1
    rwa [Nat.add_zero, Nat.sub_zero, List.drop_zero, List.take_of_length_le (by rw [hl.len]; exact Nat.le_refl _)] at this
  have hg := implGetVar _ xs p w.drew (ht.below (B := w.heap.size) ⟨rfl, rfl, rfl, Nat.le_refl _, fun _ _ => rfl⟩ ht.lt) hr hB (by rw [hl.len]; omega)
  rw [gv_not xs p (by rw [hl.len]; exact hn) (by rw [hl.len]; exact hp) hv] at hg
  dsimp only at hg
  have c0 : w.drew.cell? ⟨g, 0, none⟩ = _ := h.c0
  have c1 : w.drew.cell? ⟨g, 1, none⟩ = _ := h.c1
  clear h hr hl hv
  go_enter Tryd.func24, Tryd.ntmps24
  go_wp2_with fail
  go_region_with (go_at_call 42; refine hg.mono ?_; rintro e w2 ⟨rfl, hw2⟩; rw [hw2]; clear hw2 w2)
  all_goals (go_wp2_with fail; go_at_call 25; refine (leaveIf_t _ 2 _).mono ?_; rintro e w3 ⟨rfl, hw3⟩; rw [hw3]; clear hw3 w3; go_wp2_with fail)
  all_goals (exact ⟨rfl, rfl, ⟨rfl, rfl, rfl, Nat.le_refl _, fun _ _ _ => rfl⟩⟩)
/-- A reading of an id at p: the code, or the id and the place behind it. -/
def pkCid (xs : List Int) (p : Nat) : Except Int (List Int × Nat) :=
  if xs.length < p + 1 then .error 2
  else if 8 < vals (sub xs p 1) then .error 3
  else if xs.length < p + 1 + (vals (sub xs p 1)).toNat then .error 2
  else .ok (sub xs (p + 1) (vals (sub xs p 1)).toNat, p + 1 + (vals (sub xs p 1)).toNat)
end Go.Proofs.YtdommkpeilmdnaaDoor
