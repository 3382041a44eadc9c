import Derived.Test.YtlmfgnjampeckaaFrB
namespace Go.Proofs.Ytlmfgnjampeckaa
open Go.RowKit
set_option linter.unusedVariables false

/-- One step of the model's join. -/
def jstep (out : List (Int × Int)) (p : Int × Int) : List (Int × Int) :=
  if 0 < out.length ∧ p.1 ≤ rhi out (out.length - 1) + 1 then out.set (out.length - 1) (rlo out (out.length - 1), max (rhi out (out.length - 1)) p.2) else out ++ [p]
theorem pair_app_last (P : List (Int × Int)) (q : Int × Int) : rlo (P ++ [q]) P.length = q.1 ∧ rhi (P ++ [q]) P.length = q.2 := by simp [rlo, rhi, List.getD]
theorem jstep_nil (p : Int × Int) : jstep [] p = [p] := by simp [jstep]
theorem jstep_in (P : List (Int × Int)) (q p : Int × Int) (h : p.1 ≤ q.2 + 1) : jstep (P ++ [q]) p = P ++ [(q.1, max q.2 p.2)] := by
  unfold jstep
  have hl : (P ++ [q]).length - 1 = P.length := by simp
  rw [hl, (pair_app_last P q).1, (pair_app_last P q).2, if_pos ⟨by simp, h⟩]
  simp
theorem jstep_out (P : List (Int × Int)) (q p : Int × Int) (h : ¬ p.1 ≤ q.2 + 1) : jstep (P ++ [q]) p = P ++ [q] ++ [p] := by
  unfold jstep
  have hl : (P ++ [q]).length - 1 = P.length := by simp
  rw [hl, (pair_app_last P q).2, if_neg (fun hh => h hh.2)]
def Sep : Int → List (Int × Int) → Prop
  | _, [] => True
  | h, p :: D => h + 1 < p.1 ∧ Sep p.2 D
theorem join_sep (D : List (Int × Int)) (P : List (Int × Int)) (q : Int × Int) (h : Sep q.2 D) : D.foldl jstep (P ++ [q]) = P ++ [q] ++ D := by
  induction D generalizing P q with
  | nil => simp
  | cons p D ih =>
    have h1 : q.2 + 1 < p.1 := h.1
    rw [List.foldl_cons, jstep_out P q p (by omega), ih (P ++ [q]) p h.2]
    simp
theorem drop_pair (R : List (Int × Int)) (j : Nat) (hj : j < R.length) : R.drop j = (rlo R j, rhi R j) :: R.drop (j + 1) := by
  rw [List.drop_eq_getElem_cons hj]
  congr 1
  simp [rlo, rhi, List.getD, hj]
theorem sep_drop {R : List (Int × Int)} (hg : ∀ j, j < R.length → rgood R j) (d j : Nat) (hd : d = R.length - j) (x : Int) (hx : j < R.length → x + 1 < rlo R j) : Sep x (R.drop j) := by
  induction d generalizing j x with
  | zero => rw [List.drop_eq_nil_of_le (by omega)]; trivial
  | succ d ih =>
    rw [drop_pair R j (by omega)]
    exact ⟨hx (by omega), ih (j + 1) (by omega) _ (fun h => rsorted hg j (j + 1) (by omega) h)⟩
theorem join_take {R : List (Int × Int)} (hg : ∀ j, j < R.length → rgood R j) (i : Nat) (hi : i ≤ R.length) : (R.take i).foldl jstep [] = R.take i := by
  induction i with
  | zero => rfl
  | succ i ih =>
    rw [take_succ_pair R i (by omega), List.foldl_append, ih (by omega)]
    show jstep (R.take i) (rlo R i, rhi R i) = _
    cases i with
    | zero => exact jstep_nil _
    | succ i =>
      have hs := rsorted hg i (i + 1) (by omega) (by omega)
      rw [take_succ_pair R i (by omega)]
      exact jstep_out _ _ _ (by simp only; omega)
/-- What n adds: between f and b all is one. -/
def foldJ (R : List (Int × Int)) (n : Int) (f : Nat) : Nat → Int × Int
  | 0 => (n, n)
  | t + 1 => (min (foldJ R n f t).1 (rlo R (f + t)), max (foldJ R n f t).2 (rhi R (f + t)))
def addL (R : List (Int × Int)) (n : Int) (f b : Nat) : List (Int × Int) := R.take f ++ [foldJ R n f (b - f)] ++ R.drop b
structure FB (R : List (Int × Int)) (n : Int) (f b : Nat) : Prop where
  fm : f ≤ R.length
  bm : b ≤ R.length
  f0 : ∀ j, j < f → rhi R j + 1 < n
  f1 : f < R.length → n ≤ rhi R f + 1
  b0 : ∀ j, j < b → rlo R j ≤ n + 1
  b1 : b < R.length → n + 1 < rlo R b
theorem FB.le {R : List (Int × Int)} {n : Int} {f b : Nat} (hg : ∀ j, j < R.length → rgood R j) (h : FB R n f b) : f ≤ b := by
  by_cases hc : b < f
  · have h1 := h.f0 b hc
    have h2 := h.b1 (by have := h.fm; omega)
    have h3 := (hg b (by have := h.fm; omega)).2.1
    omega
  · omega
theorem insert_join {R : List (Int × Int)} (hg : ∀ j, j < R.length → rgood R j) (n : Int) (i : Nat) (hi : i ≤ R.length) (hlo : ∀ j, j < i → rlo R j ≤ n) (hhi : i < R.length → n < rlo R i) {f b : Nat} (h : FB R n f b) :
    (R.take i ++ (n, n) :: R.drop i).foldl jstep [] = addL R n f b := by
  have hfb := h.le hg
  -- the place of f
  have hf : f = i ∨ (f + 1 = i ∧ n ≤ rhi R f + 1) := by
    rcases Nat.lt_trichotomy f i with hl | he | hr
    · right
      have h1 := h.f1 (by omega)
      refine ⟨?_, h1⟩
      by_cases hc : f + 1 < i
      · have h2 := rsorted hg f (f + 1) (by omega) (by omega)
        have h3 := hlo (f + 1) hc
        omega
      · omega
    · exact Or.inl he
    · have h1 := h.f0 i hr
      have h2 := hhi (by have := h.fm; omega)
      have h3 := (hg i (by have := h.fm; omega)).2.1
      omega
  have hb : b = i ∨ (b = i + 1 ∧ i < R.length ∧ rlo R i = n + 1) := by
    rcases Nat.lt_trichotomy b i with hl | he | hr
    · have h1 := h.b1 (by omega)
      have h2 := hlo b hl
      omega
    · exact Or.inl he
    · right
      have h1 := h.b0 i hr
      have h2 := hhi (by have := h.bm; omega)
      refine ⟨?_, by have := h.bm; omega, by omega⟩
      by_cases hc : i + 1 < b
      · have h3 := h.b0 (i + 1) hc
        have h4 := rsorted hg i (i + 1) (by omega) (by have := h.bm; omega)
        have h5 := (hg i (by have := h.bm; omega)).2.1
        omega
      · omega
  -- below
  have hA : ∃ q : Int × Int, jstep (R.take i) (n, n) = R.take f ++ [q] ∧ q = foldJ R n f (i - f) ∧ n ≤ q.2 ∧ (i < R.length → q.2 + 1 < rlo R i ∨ q.2 = n) := by
    rcases hf with rfl | ⟨rfl, hle⟩
    · refine ⟨(n, n), ?_, by rw [Nat.sub_self]; rfl, Int.le_refl _, fun _ => Or.inr rfl⟩
      cases f with
      | zero => exact jstep_nil _
      | succ f =>
        have h1 := h.f0 f (by omega)
        rw [take_succ_pair R f (by omega)]
        exact jstep_out _ _ _ (by simp only; omega)
    · have h2 := hlo f (by omega)
      refine ⟨(rlo R f, max (rhi R f) n), ?_, ?_, by simp only; omega, fun hm => ?_⟩
      · rw [take_succ_pair R f (by omega)]
        exact jstep_in _ _ _ (by simp only; omega)
      · rw [show f + 1 - f = 0 + 1 by omega]
        show _ = (min n (rlo R (f + 0)), max n (rhi R (f + 0)))
        rw [Nat.add_zero]
        congr 1 <;> omega
      · have h3 := rsorted hg f (f + 1) (by omega) hm
        by_cases hc : rhi R f < n
        · right; simp only; omega
        · left; simp only; omega
  obtain ⟨q, hq, eq, hnq, hqi⟩ := hA
  rw [List.foldl_append, join_take hg i hi, List.foldl_cons, hq]
  unfold addL
  rcases hb with rfl | ⟨rfl, him, hlo1⟩
  · rw [eq]
    refine join_sep _ _ _ (sep_drop hg (R.length - b) b rfl _ (fun hm => ?_))
    have h1 := h.b1 hm
    rw [← eq]
    rcases hqi hm with h2 | h2
    · exact h2
    · rw [h2]; exact h1
  · have h2 : q.2 = n := by
      rcases hqi him with h2 | h2
      · omega
      · exact h2
    rw [drop_pair R i him, List.foldl_cons, jstep_in _ _ _ (by rw [h2]; simp only; omega)]
    have e : foldJ R n f (i + 1 - f) = (q.1, max q.2 (rhi R i)) := by
      have hfi : f ≤ i := by rcases hf with h | ⟨h, _⟩ <;> omega
      rw [show i + 1 - f = (i - f) + 1 by omega]
      show (min (foldJ R n f (i - f)).1 (rlo R (f + (i - f))), max (foldJ R n f (i - f)).2 (rhi R (f + (i - f)))) = _
      rw [← eq, show f + (i - f) = i by omega]
      congr 1
      have hq1 : q.1 ≤ n := by
        rw [eq]
        rcases hf with h | ⟨h, _⟩
        · rw [h, Nat.sub_self]; exact Int.le_refl _
        · rw [← h, show f + 1 - f = 0 + 1 by omega]
          show min n _ ≤ n
          omega
      omega
    rw [e]
    refine join_sep _ _ _ (sep_drop hg (R.length - (i + 1)) (i + 1) rfl _ (fun hm => ?_))
    have h3 := rsorted hg i (i + 1) (by omega) hm
    have h4 := (hg i him).2.1
    show max q.2 (rhi R i) + 1 < _
    omega
/-- Bounds of what is joined. -/
def HiOK (L : List (Int × Int)) : Prop := ∀ j, j < L.length → 0 ≤ rhi L j ∧ rhi L j ≤ 4611686018427387903
theorem hiOK_mem {L : List (Int × Int)} : HiOK L ↔ ∀ p ∈ L, 0 ≤ p.2 ∧ p.2 ≤ 4611686018427387903 := by
  constructor
  · intro h p hp
    obtain ⟨j, hj, rfl⟩ := mem_pair hp
    exact h j hj
  · intro h j hj
    have := h (L[j]'hj) (List.getElem_mem hj)
    simpa [rhi, List.getD, hj] using this
end Go.Proofs.Ytlmfgnjampeckaa
