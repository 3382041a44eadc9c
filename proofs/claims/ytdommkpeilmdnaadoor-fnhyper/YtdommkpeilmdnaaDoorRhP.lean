import Derived.Test.YtdommkpeilmdnaaDoorRdJ
import Derived.Test.YtdommkpeilmdnaaDoorHyD
namespace Go.Proofs.YtdommkpeilmdnaaDoor
open Go.RowKit
set_option linter.unusedVariables false

/-- The settings from p on, at most f of them; none where one is not whole. -/
def prs (ys : List Int) : Nat → Nat → Option (List SSetting)
  | 0, p => if p < ys.length then none else some []
  | f + 1, p => if p < ys.length then (if varOK ys p ∧ varOK ys (varN ys p) then (prs ys f (varN ys (varN ys p))).map (fun L => ⟨varV ys p, varV ys (varN ys p)⟩ :: L) else none) else some []
theorem prs_end (ys : List Int) (f p : Nat) (h : ¬ p < ys.length) : prs ys f p = some [] := by
  cases f <;> simp [prs, h]
theorem prs_no (ys : List Int) (f p : Nat) (h : p < ys.length) (hv : ¬ (varOK ys p ∧ varOK ys (varN ys p))) : prs ys f p = none := by
  cases f with
  | zero => unfold prs; rw [if_pos h]
  | succ f => unfold prs; rw [if_pos h, if_neg hv]
theorem prs_yes (ys : List Int) (f p : Nat) (h : p < ys.length) (hv : varOK ys p ∧ varOK ys (varN ys p)) : prs ys (f + 1) p = (prs ys f (varN ys (varN ys p))).map (fun L => ⟨varV ys p, varV ys (varN ys p)⟩ :: L) := by
  rw [prs, if_pos h, if_pos hv]
theorem prs_len (ys : List Int) : ∀ f p L, prs ys f p = some L → L.length ≤ f
  | 0, p, L, h => by
    unfold prs at h
    split at h
    · cases h
    · cases h; simp
  | f + 1, p, L, h => by
    unfold prs at h
    split at h
    · split at h
      · cases h2 : prs ys f (varN ys (varN ys p)) with
        | none => rw [h2] at h; cases h
        | some M =>
          rw [h2] at h
          cases h
          have := prs_len ys f _ M h2
          simp; omega
      · cases h
    · cases h; simp
/-- What stands in a frame's bytes. -/
def rhF (k : Int) (ys : List Int) : Option HF :=
  if k = 4 then (prs ys ys.length 0).map (fun L => ⟨4, 0, [], L⟩)
  else if k = 7 ∨ k = 15 then (if varOK ys 0 then some ⟨k, varV ys 0, ys.drop (varN ys 0), []⟩ else none)
  else some ⟨k, 0, ys, []⟩
theorem rhF_len (k : Int) (ys : List Int) (f : HF) (h : rhF k ys = some f) : f.d.length ≤ ys.length ∧ f.s.length ≤ ys.length ∧ f.k = k := by
  unfold rhF at h
  split at h
  · rename_i e
    cases h2 : prs ys ys.length 0 with
    | none => rw [h2] at h; cases h
    | some L =>
      rw [h2] at h
      cases h
      exact ⟨by simp, prs_len ys _ _ L h2, e.symm⟩
  · split at h
    · split at h
      · cases h; simp
      · cases h
    · cases h; simp
/-- The frame at p and the place behind it, or the code. -/
def rhT (xs : List Int) (p : Nat) : Except Int (HF × Nat) :=
  if ¬ varOK xs p then .error 2
  else if ¬ varOK xs (varN xs p) then .error 2
  else if 16384 < varV xs (varN xs p) then .error 3
  else if xs.length < varN xs (varN xs p) + (varV xs (varN xs p)).toNat then .error 2
  else match rhF (varV xs p) (sub xs (varN xs (varN xs p)) (varV xs (varN xs p)).toNat) with
    | none => .error 3
    | some f => if hyP f.k f.a f.d.length f.s then .ok (f, varN xs (varN xs p) + (varV xs (varN xs p)).toNat) else .error 3
def zHF : HF := ⟨0, 0, [], []⟩
/-- ReadHyper's whole answer. -/
def rhR (xs : List Int) (at' : Int) : HF × Int × Int :=
  if 65536 < xs.length then (zHF, 0, 4)
  else if at' < 0 ∨ (xs.length : Int) < at' then (zHF, 0, 1)
  else match rhT xs at'.toNat with
    | .error c => (zHF, 0, c)
    | .ok (f, q) => (f, (q : Int), 0)
theorem rhT_err (xs : List Int) (p : Nat) (c : Int) (h : rhT xs p = .error c) : c = 2 ∨ c = 3 := by
  unfold rhT at h
  split at h
  · cases h; simp
  split at h
  · cases h; simp
  split at h
  · cases h; simp
  split at h
  · cases h; simp
  split at h
  · cases h; simp
  · split at h
    · cases h
    · cases h; simp
theorem rhT_ok (xs : List Int) (p : Nat) (f : HF) (q : Nat) (h : rhT xs p = .ok (f, q)) : q ≤ xs.length ∧ f.d.length ≤ 16384 ∧ f.s.length ≤ 16384 := by
  unfold rhT at h
  split at h
  · cases h
  split at h
  · cases h
  split at h
  · cases h
  rename_i h3
  split at h
  · cases h
  rename_i h4
  split at h
  · cases h
  · rename_i f' hf
    split at h
    · cases h
      have l := rhF_len _ _ _ hf
      have ls : (sub xs (varN xs (varN xs p)) (varV xs (varN xs p)).toNat).length = (varV xs (varN xs p)).toNat := sub_len _ _ _ (by omega)
      rw [ls] at l
      exact ⟨by omega, by omega, by omega⟩
    · cases h
theorem rhR_small (xs : List Int) (at' : Int) : (rhR xs at').1.d.length ≤ 16384 ∧ (rhR xs at').1.s.length ≤ 16384 := by
  unfold rhR
  split
  · simp [zHF]
  split
  · simp [zHF]
  split
  · simp [zHF]
  · rename_i f q h
    exact (rhT_ok _ _ _ _ h).2
end Go.Proofs.YtdommkpeilmdnaaDoor
