import Derived.Test.YtiiefhpkkjocbalLiftK
import Derived.Test.YtiiefhpkkjocbalSS
namespace Go.Proofs.Ytiiefhpkkjocbal
open Go.ChangeShapes Go.WideShapes Go.ChangeAt Go.RowKit Go.Joins Go.Deep
set_option linter.unusedVariables false

theorem list_of_each {Q : Nat → List Int → Prop} (n : Nat) (h : ∀ i, i < n → ∃ xs, Q i xs) : ∃ L : List (List Int), L.length = n ∧ ∀ i, i < n → Q i (L.getD i []) := by
  induction n with
  | zero => exact ⟨[], rfl, fun i hi => by omega⟩
  | succ n ih =>
    obtain ⟨L, hl, hL⟩ := ih (fun i hi => h i (by omega))
    obtain ⟨xs, hx⟩ := h n (by omega)
    refine ⟨L ++ [xs], by simp [hl], fun i hi => ?_⟩
    by_cases hin : i < n
    · have e : (L ++ [xs]).getD i [] = L.getD i [] := by simp [List.getD, List.getElem?_append_left (show i < L.length by omega)]
      rw [e]; exact hL i hin
    · obtain rfl : i = n := by omega
      have e : (L ++ [xs]).getD i [] = xs := by simp [List.getD, hl]
      rw [e]; exact hx
/-- AN ARGUMENT THAT IS A SLICE OF SLICES OF BYTES. -/
theorem open_ss {H : Type} {enc : TypeId × Value → H} {P : Program} {W : World} {r : Reach} {base : Nat} {t ts e : TypeId} {v : Value} {d : DataW H} {p : List MemPlace}
    (ht : P.underlying t = some (.slice ts)) (hcs : P.cellsOf ts = 1) (hts : P.underlying ts = some (.slice e)) (he : P.underlying e = some (.int .u8)) (hc : P.cellsOf e = 1) (hval : Value.okWide P W r base t v) (h : DataW.Trod enc P W 0 (fun _ => true) true t v d p) :
    ∃ L : List (List Int), SRow W v L ∧ L.length ≤ maxLen ∧ (∀ j, (L.getD j []).length ≤ maxLen) ∧ ∀ j, Bytes (L.getD j []) := by
  obtain ⟨a0, len0, cap0, rfl⟩ := okWide_slice ht hval
  obtain ⟨fuel, hf⟩ := h
  rcases DataW.trod_slice ht hf with ⟨h0, _⟩ | ⟨a, len, cap, elems, rest, n, _, hcv, _, _, hl, hm, hlen, hel, _, _⟩
  · have : Value.slice a0 len0 cap0 = .slice none 0 0 := by simpa [Value.cells] using h0
    rw [this]
    exact ⟨[], Or.inl ⟨rfl, none, 0, rfl⟩, by simp, fun j => by simp [List.getD], fun j => by intro x hx; simp [List.getD] at hx⟩
  · have : Value.slice a0 len0 cap0 = .slice (some a) len cap := by simpa [Value.cells] using hcv
    rw [this]
    have each : ∀ i, i < len → ∃ xs : List Int, (∃ u, W.cell? (a.add i) = some u ∧ Row W .u8 u xs) ∧ xs.length ≤ maxLen ∧ Bytes xs := by
      intro i hi
      have h1 := hel i hi
      rw [hcs, Nat.mul_one] at h1
      obtain ⟨y, hy⟩ : ∃ y, elems[i]? = some y := ⟨elems[i]'(by omega), by simp [hlen, hi]⟩
      rw [hy, Option.bind_eq_some_iff] at h1
      obtain ⟨cs', hcc, hy'⟩ := h1
      have hl1 : cs'.length = 1 := (World.cells?_some hcc).2.1
      match cs', hl1 with
      | [c], _ =>
        obtain ⟨xs, rx, lx, wx⟩ := open_field hts he hc hy'
        exact ⟨xs, ⟨c, cell_of_cells?_one hcc, rx⟩, lx, bytes_of_wf wx⟩
    obtain ⟨L, hL, hq⟩ := list_of_each len each
    have hout : ∀ j, ¬ j < len → L.getD j [] = [] := fun j hj => by simp [List.getD, List.getElem?_eq_none (show L.length ≤ j by omega)]
    refine ⟨L, ?_, by omega, fun j => ?_, fun j => ?_⟩
    · by_cases h0 : len = 0
      · subst h0
        exact Or.inl ⟨List.eq_nil_of_length_eq_zero hL, _, _, rfl⟩
      · obtain ⟨⟨u0, hu0, _⟩, _, _⟩ := hq 0 (by omega)
        obtain ⟨b, off, spot⟩ := a
        have hspot : spot = none := by simpa [Addr.add] using World.cell?_spot hu0
        subst hspot
        rw [add_plain, Nat.add_zero] at hu0
        refine Or.inr ⟨b, off, cap, by rw [hL], cell_lt hu0, fun j hj => ?_⟩
        obtain ⟨⟨u, hu, ru⟩, _, _⟩ := hq j (by omega)
        rw [add_plain] at hu
        exact ⟨u, hu, ru⟩
    · by_cases hj : j < len
      · exact (hq j hj).2.1
      · rw [hout j hj]; simp
    · by_cases hj : j < len
      · exact (hq j hj).2.2
      · rw [hout j hj]; intro x hx; simp at hx
end Go.Proofs.Ytiiefhpkkjocbal
