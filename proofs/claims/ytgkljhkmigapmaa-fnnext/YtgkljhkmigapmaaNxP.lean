import Derived.Test.YtgkljhkmigapmaaNxD
namespace Go.Proofs.Ytgkljhkmigapmaa
open Go.RowKit
set_option linter.unusedVariables false

theorem ahd_trans (a b c : SWaiting) (h1 : ahd a b = true) (h2 : ahd b c = true) : ahd a c = true := by
  obtain ⟨a0, a1, a2, a3⟩ := a
  obtain ⟨b0, b1, b2, b3⟩ := b
  obtain ⟨c0, c1, c2, c3⟩ := c
  unfold ahd at *
  simp only at *
  grind
theorem nxt_min (L : List SWaiting) : ∀ n j, j < n → ahd (L.getD j default) (L.getD (nxt L n) default) = false := by
  intro n
  induction n with
  | zero => intro j hj; omega
  | succ n ih =>
    intro j hj
    simp only [nxt]
    by_cases hc : ahd (L.getD n default) (L.getD (nxt L n) default) = true
    · rw [if_pos hc]
      by_cases hjn : j = n
      · rw [hjn]; exact ahd_self _
      · cases h : ahd (L.getD j default) (L.getD n default) with
        | false => rfl
        | true =>
          have := ahd_trans _ _ _ h hc
          rw [ih j (by omega)] at this
          cases this
    · rw [if_neg hc]
      by_cases hjn : j = n
      · rw [hjn]; simpa using hc
      · exact ih j (by omega)
theorem ahd_no (y x : SWaiting) (h : ahd y x = false) : ¬ y.f1 < x.f1 ∧ (y.f1 = x.f1 → (x.f3 = true → y.f3 = true ∧ ¬ y.f2 < x.f2) ∧ (x.f3 = false → y.f3 = false → ¬ y.f0 < x.f0)) := by
  obtain ⟨y0, y1, y2, y3⟩ := y
  obtain ⟨x0, x1, x2, x3⟩ := x
  unfold ahd at h
  simp only at *
  grind
/-- What was taken out. -/
def outK (L : List SWaiting) (k : Nat) : List SWaiting := L.take k ++ L.drop (k + 1)
theorem outK_len (L : List SWaiting) (k : Nat) (h : k < L.length) : (outK L k).length = L.length - 1 := by
  simp [outK]; omega
theorem outK_mem (L : List SWaiting) (k : Nat) (x : SWaiting) (h : x ∈ outK L k) : x ∈ L := by
  rcases List.mem_append.1 h with h | h
  · exact List.mem_of_mem_take h
  · exact List.mem_of_mem_drop h
theorem getD_mem (L : List SWaiting) (x : SWaiting) (h : x ∈ L) : ∃ j, j < L.length ∧ L.getD j default = x := by
  obtain ⟨j, hj, e⟩ := List.getElem_of_mem h
  exact ⟨j, hj, by simp [List.getD, hj, e]⟩
theorem GOwns.at0 {T : TypeId} {K : Nat} {w : World} {base : Nat} {v : Value} {L : List (List Value)} (h : GOwns T K w base v L) (h0 : 0 < L.length) : ∃ g cap, v = .slice (some ⟨g, 0, none⟩) L.length cap ∧ g < w.heap.size ∧ base ≤ g ∧ L.length ≤ cap ∧ cap ≤ maxLen ∧ ∀ j, j < L.length → ∀ f, f < K → w.cell? ⟨g, j * K + f, none⟩ = (L.getD j [])[f]? := by
  obtain ⟨zs, ho, hz⟩ := h
  have ho' := ho
  rcases ho.2 with ⟨_, h1⟩ | ⟨g, cap, cur, rfl, hb, hg, hnc, hcm, _⟩
  · omega
  · exact ⟨g, cap, rfl, (Array.getElem?_eq_some_iff.1 hg).1, hb, hnc, hcm, fun j hj f hf => (ho'.cellAt (j * K + f) (jK_lt hj hf)).trans (hz j hj f hf)⟩
theorem grow_take {K : Nat} {w : World} {g n cap k : Nat} {L : List (List Value)} (hg : g < w.heap.size) (hk : k ≤ L.length) (hc : ∀ j, j < L.length → ∀ f, f < K → w.cell? ⟨g, j * K + f, none⟩ = (L.getD j [])[f]?) : GRow K w (.slice (some ⟨g, 0, none⟩) k cap) (L.take k) := by
  have hl : (L.take k).length = k := by rw [List.length_take]; omega
  refine Or.inr ⟨g, 0, cap, by rw [hl], hg, fun j hj f hf => ?_⟩
  rw [hl] at hj
  rw [Nat.zero_add, hc j (by omega) f hf]
  congr 1
  simp [List.getD, hj]
theorem grow_drop {K : Nat} {w : World} {g n cap k : Nat} {L : List (List Value)} (hg : g < w.heap.size) (hc : ∀ j, j < L.length → ∀ f, f < K → w.cell? ⟨g, j * K + f, none⟩ = (L.getD j [])[f]?) : GRow K w (.slice (some ⟨g, k * K, none⟩) (L.length - k) cap) (L.drop k) := by
  have hl : (L.drop k).length = L.length - k := by rw [List.length_drop]
  refine Or.inr ⟨g, k * K, cap, by rw [hl], hg, fun j hj f hf => ?_⟩
  rw [hl] at hj
  rw [show k * K + (j * K + f) = (k + j) * K + f by rw [Nat.add_mul]; omega, hc (k + j) (by omega) f hf]
  congr 1
  simp [List.getD]
end Go.Proofs.Ytgkljhkmigapmaa
