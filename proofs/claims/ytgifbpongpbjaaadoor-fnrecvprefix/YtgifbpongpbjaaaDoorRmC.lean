import Derived.Test.YtgifbpongpbjaaaDoorRmB
namespace Go.Proofs.YtgifbpongpbjaaaDoor
open Go.RowKit
set_option linter.unusedVariables false

theorem whole_cnt (T : PL) (f : Int) (h : (T.length : Int) ≤ f) : wholeM true f T = decide ((cnt T : Int) = f) := by
  have hc : cnt T ≤ T.length := List.countP_le_length
  rw [Bool.eq_iff_iff, decide_eq_true_eq]
  unfold wholeM
  simp only [Bool.true_and, Bool.and_eq_true, decide_eq_true_eq, List.all_eq_true, List.mem_range]
  constructor
  · rintro ⟨h1, h2⟩
    have hf : f.toNat = T.length := by omega
    have : T.length ≤ cnt T := low_cnt T T.length (fun p hp => h2 p (by omega))
    omega
  · intro h1
    refine ⟨by omega, fun i hi => ?_⟩
    have e : cnt T = T.length := by omega
    have := List.countP_eq_length.1 e
    rw [g_in T i (by omega)]
    exact this _ (List.getElem_mem _)
theorem whole_no (f : Int) (T : PL) : wholeM false f T = false := rfl
theorem MI.inc {win i : Nat} {m : MS} (h : MI win i m) : MI win (i + 1) m := ⟨h.st, h.toldT, h.low, h.told, by have := h.cnt; omega, h.szd, h.fin, h.fz⟩
theorem mdata_inv {win i : Nat} {m : MS} (h : MI win i m) (off : Int) (D : List Int) (fb : Bool) : MI win (i + 1) (mdata m off D fb).1 := by
  unfold mdata
  split
  · exact h.inc
  split
  · exact h.inc
  split
  · exact h.inc
  split
  · exact h.inc
  rename_i h1 h2 h3 h4
  have hr := h.read
  have hD : D.length ≤ 1500 ∧ 0 ≤ off := by omega
  have hlen : (putF (pad m.T (off.toNat + D.length)) off.toNat D D.length).length = max m.T.length (off.toNat + D.length) := by rw [putF_length, pad_length]
  have hcn : cnt (putF (pad m.T (off.toNat + D.length)) off.toNat D D.length) ≤ cnt m.T + 1500 := by
    have := putF_le (pad m.T (off.toNat + D.length)) off.toNat D D.length
    rw [pad_cnt] at this; omega
  have hs := h.szd
  have hf := h.fin
  have ht := h.toldT
  dsimp only
  refine ⟨?_, ?_, ?_, h.told, ?_, ?_, ?_, ?_⟩
  · dsimp only
    have := h.st
    generalize wholeM _ _ _ = W
    cases W <;> cases fb <;> simp <;> omega
  · dsimp only; rw [hlen]; omega
  · dsimp only; intro p hp
    rw [putF_keeps]
    · rw [pad_g]; exact h.low p hp
    · rw [pad_g]; exact h.low p hp
  · dsimp only; have := h.cnt; omega
  · dsimp only
    cases fb
    · simp only [Bool.or_false, Bool.false_eq_true, if_false]
      by_cases hsz : m.sized = true
      · have h5 : m.st ≠ 0 := by rw [hsz] at hs; simpa using hs.symm
        generalize wholeM _ _ _ = W
        rw [hsz]; cases W <;> simp [h5]
      · have hsz' : m.sized = false := by simpa using hsz
        have h5 : m.st = 0 := by rw [hsz'] at hs; simpa using hs.symm
        rw [hsz', whole_no]; simp [h5]
    · simp only [Bool.or_true, if_true]
      generalize wholeM _ _ _ = W
      cases W <;> simp
  · dsimp only
    intro hsz
    rw [hlen]
    cases fb
    · simp only [Bool.or_false] at hsz
      have hff := hf hsz
      have h3' : ¬ (m.final < off + D.length) := fun e => h3 (Or.inl ⟨hsz, Or.inl e⟩)
      simp
      omega
    · have h3' : ¬ (off + (D.length : Int) < m.T.length) := fun e => h3 (Or.inr ⟨rfl, e⟩)
      simp
      omega
  · dsimp only
    cases fb
    · simp only [Bool.or_false, Bool.false_eq_true, if_false]; exact h.fz
    · simp
theorem mreset_inv {win i : Nat} {m : MS} (h : MI win i m) (n : Int) : MI win (i + 1) (mreset m n).1 := by
  unfold mreset
  split
  · exact h.inc
  split
  · exact h.inc
  split
  · exact h.inc
  rename_i h1 h2 h3
  have hs := h.szd
  refine ⟨?_, h.toldT, h.low, h.told, by have := h.cnt; dsimp only; omega, ?_, fun _ => ?_, fun e => by cases e⟩
  · dsimp only; have := h.st; split <;> omega
  · dsimp only
    symm; rw [decide_eq_true_eq]
    split <;> omega
  · dsimp only
    have h3' : ¬ (n < m.T.length) := fun e => h3 (Or.inr e)
    omega
theorem cnV_le (r w t : Int) (h0 : 0 ≤ r) (h1 : r ≤ 1000000) (h2 : 0 ≤ t) (h3 : t ≤ 1000000) (h4 : 1 ≤ w) (h5 : w ≤ 16384) (h6 : t ≤ r + w) : t ≤ cnV r w t ∧ cnV r w t ≤ r + w := by
  unfold cnV
  rw [if_neg (by omega)]
  split <;> omega
theorem rdk_len (T : PL) (a n : Nat) (h : a ≤ T.length) : a + rdk T a n ≤ T.length := by
  rcases Nat.lt_or_ge T.length (a + rdk T a n) with h1 | h1
  · have := rdk_all T a n (T.length - a) (by omega)
    rw [g_out T _ (by omega)] at this; cases this
  · exact h1
theorem mread_inv {win i : Nat} {m : MS} (h : MI win i m) (hw : 1 ≤ win) (hw2 : win ≤ 16384) (hi : i ≤ 400) (n : Int) : MI win (i + 1) (mread win m n).1 := by
  unfold mread
  split
  · exact h.inc
  split
  · rename_i h1 h2
    exact ⟨by show (5 : Nat) < 6; decide, h.toldT, h.low, h.told, by have := h.cnt; dsimp only; omega, by have := h.szd; dsimp only; rw [this]; simp; omega, h.fin, h.fz⟩
  rename_i h1 h2
  have hr := h.read
  have hrl := rdk_len m.T m.read n.toNat hr.2
  have hs := h.szd
  have hc : cnt m.T ≤ m.T.length := List.countP_le_length
  have hcn := h.cnt
  have htt := h.toldT
  have htd := h.told
  have hlow : ∀ p, p < m.read + rdk m.T m.read n.toNat → (PL.g m.T p).1 = true := fun p hp => by
    by_cases e : p < m.read
    · exact h.low p e
    · have := rdk_all m.T m.read n.toNat (p - m.read) (by omega)
      rw [show m.read + (p - m.read) = p by omega] at this; exact this
  have hrc := low_cnt m.T _ hlow
  have hcv := cnV_le ((m.read + rdk m.T m.read n.toNat : Nat) : Int) win m.told (by omega) (by omega) (by omega) (by omega) (by omega) (by omega) (by omega)
  dsimp only
  refine ⟨?_, ?_, hlow, ?_, by dsimp only; omega, ?_, ?_, h.fz⟩
  · dsimp only; split <;> omega
  · dsimp only
    generalize (if m.st = 2 ∧ ((m.read + rdk m.T m.read n.toNat : Nat) : Int) = m.final then 3 else m.st) = s2
    split <;> omega
  · dsimp only
    generalize (if m.st = 2 ∧ ((m.read + rdk m.T m.read n.toNat : Nat) : Int) = m.final then 3 else m.st) = s2
    split
    · exact hcv.2
    · omega
  · dsimp only; rw [hs]
    by_cases h2 : m.st = 2 ∧ ((m.read + rdk m.T m.read n.toNat : Nat) : Int) = m.final
    · rw [if_pos h2]; simp [h2.1]
    · rw [if_neg h2]
  · dsimp only; intro hsz
    have hf := h.fin hsz
    refine ⟨hf.1, ?_⟩
    generalize (if m.st = 2 ∧ ((m.read + rdk m.T m.read n.toNat : Nat) : Int) = m.final then 3 else m.st) = s2
    split
    · omega
    · exact hf.2
theorem mstep_inv {win i : Nat} {m : MS} (h : MI win i m) (hw : 1 ≤ win) (hw2 : win ≤ 16384) (hi : i ≤ 400) (o : SRecvOp) : MI win (i + 1) (mstep win m o).1 := by
  unfold mstep
  split
  · exact mdata_inv h _ _ _
  split
  · exact mreset_inv h _
  split
  · exact mread_inv h hw hw2 hi _
  · exact h.inc
theorem mrun_inv {win : Nat} (hw : 1 ≤ win) (hw2 : win ≤ 16384) (ops : List SRecvOp) : ∀ i, i ≤ 400 → MI win i (mrun win ops i).1
  | 0, _ => ⟨by show (0 : Nat) < 6; decide, by show (0 : Int) ≤ _; show (0 : Int) ≤ (win : Int); omega, fun p hp => by simp [mrun] at hp, by show (win : Int) ≤ 0 + win; omega, by simp [mrun], rfl, fun h => (by cases h), fun _ => rfl⟩
  | i + 1, hi => mstep_inv (mrun_inv hw hw2 ops i (by omega)) hw hw2 (by omega) _
theorem mrun_length (win : Nat) (ops : List SRecvOp) : ∀ i, (mrun win ops i).2.length = i
  | 0 => rfl
  | i + 1 => by show ((mrun win ops i).2 ++ _).length = _; rw [List.length_append, mrun_length win ops i]; rfl
theorem mrun_at (win : Nat) (ops : List SRecvOp) (j : Nat) : ∀ i, j < i → (mrun win ops i).2.getD j default = (mstep win (mrun win ops j).1 (ops.getD j default)).2
  | 0, h => by omega
  | i + 1, h => by
    show ((mrun win ops i).2 ++ [_]).getD j default = _
    by_cases e : j = i
    · subst e
      simp [List.getD, mrun_length]
    · have := mrun_at win ops j i (by omega)
      simp only [List.getD] at this ⊢
      rw [List.getElem?_append_left (by rw [mrun_length]; omega)]
      exact this
end Go.Proofs.YtgifbpongpbjaaaDoor
