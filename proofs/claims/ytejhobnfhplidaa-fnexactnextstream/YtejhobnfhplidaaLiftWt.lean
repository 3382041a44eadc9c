import Derived.Test.YtejhobnfhplidaaLiftB
import Derived.Test.YtejhobnfhplidaaFlWaiting
namespace Go.Proofs.Ytejhobnfhplidaa
open Go.ChangeShapes Go.WideShapes Go.ChangeAt Go.RowKit Go.Joins Go.Deep
set_option linter.unusedVariables false

theorem list_of_flat {α : Type} {d : α} {Q : Nat → α → Prop} (n : Nat) (h : ∀ i, i < n → ∃ p, Q i p) : ∃ L : List α, L.length = n ∧ ∀ i, i < n → Q i (L.getD i d) := by
  induction n with
  | zero => exact ⟨[], rfl, fun i hi => by omega⟩
  | succ n ih =>
    obtain ⟨L, hl, hL⟩ := ih (fun i hi => h i (by omega))
    obtain ⟨xs, hx⟩ := h n (by omega)
    refine ⟨L ++ [xs], by simp [hl], fun i hi => ?_⟩
    by_cases hin : i < n
    · have e : (L ++ [xs]).getD i d = L.getD i d := by simp [List.getD, List.getElem?_append_left (show i < L.length by omega)]
      rw [e]; exact hL i hin
    · obtain rfl : i = n := by omega
      have e : (L ++ [xs]).getD i d = xs := by simp [List.getD, hl]
      rw [e]; exact hx
theorem open_flagW {H : Type} {enc : TypeId × Value → H} {P : Program} {W : World} {t : TypeId} {n : Nat} {v : Value} {y : DataW H × List MemPlace} (hb : P.underlying t = some .bool) (h : DataW.trod enc P W 0 (fun _ => true) true n t [v] = some y) : ∃ b, v = .bool b := by
  obtain ⟨a, ha, _⟩ := DataW.trod_bool hb h
  exact ⟨a, by simpa using ha⟩
/-- AN ARGUMENT THAT IS A LIST OF WHAT WAITS. -/
theorem open_waits {H : Type} {enc : TypeId × Value → H} {P : Program} {W : World} {r : Reach} {base : Nat} {t te ti tb : TypeId} {f0 f1 f2 f3 : Field} {v : Value} {d : DataW H} {p : List MemPlace}
    (ht : P.underlying t = some (.slice te)) (hs : P.underlying te = some (.struct #[f0, f1, f2, f3])) (hone : oneCellFields P #[f0, f1, f2, f3] = true) (hC : P.cellsOf te = 4) (hf : f0.type = ti ∧ f1.type = ti ∧ f2.type = ti ∧ f3.type = tb) (hb : P.underlying tb = some .bool) (hi : P.underlying ti = some (.int .i64))
    (hval : Value.okWide P W r base t v) (h : DataW.Trod enc P W 0 (fun _ => true) true t v d p) : ∃ L : List SWaiting, GRow 4 W v (SWaiting.L L) ∧ L.length ≤ maxLen := by
  obtain ⟨a0, len0, cap0, rfl⟩ := okWide_slice ht hval
  obtain ⟨fuel, hx0⟩ := h
  have hx : DataW.trod enc P W 0 (fun _ => true) true fuel t [.slice a0 len0 cap0] = some (d, p) := by simpa [Value.cells] using hx0
  rcases DataW.trod_slice ht hx with ⟨h0, _⟩ | ⟨a, len, cap, elems, rest, n, _, hcv, _, _, hl, hm, hlen, hel, _, _⟩
  · have e : (.slice a0 len0 cap0 : Value) = .slice none 0 0 := by simpa using h0
    rw [e]
    exact ⟨[], Or.inl ⟨rfl, none, 0, rfl⟩, by simp⟩
  · have e : (.slice a0 len0 cap0 : Value) = .slice (some a) len cap := by simpa using hcv
    rw [e]
    have each : ∀ i, i < len → ∃ q : SWaiting, ∀ f, f < 4 → W.cell? ((a.add (i * 4)).add f) = (q.c)[f]? := by
      intro i hi'
      have h1 := hel i hi'
      rw [hC] at h1
      obtain ⟨y, hy⟩ : ∃ y, elems[i]? = some y := ⟨elems[i]'(by omega), by simp [hlen, hi']⟩
      rw [hy, Option.bind_eq_some_iff] at h1
      obtain ⟨cs', hcc, hy'⟩ := h1
      obtain ⟨_, hl2, hcell⟩ := World.cells?_some hcc
      obtain ⟨xs, m, _, _, _, hlx, hg⟩ := DataW.trod_struct hs hy'
      match cs', hl2, hcell, xs, hlx, hg with
      | [c0, c1, c2, c3], _, hcell, [y0, y1, y2, y3], _, hg =>
        obtain ⟨o0, k0⟩ := hone_of hone 0 f0 rfl
        obtain ⟨o1, k1⟩ := hone_of hone 1 f1 rfl
        obtain ⟨o2, k2⟩ := hone_of hone 2 f2 rfl
        obtain ⟨o3, k3⟩ := hone_of hone 3 f3 rfl
        have e0 : DataW.trod enc P W 0 (fun _ => true) true m f0.type [c0] = some y0 := by simpa [o0, k0] using hg 0 f0 rfl
        have e1 : DataW.trod enc P W 0 (fun _ => true) true m f1.type [c1] = some y1 := by simpa [o1, k1] using hg 1 f1 rfl
        have e2 : DataW.trod enc P W 0 (fun _ => true) true m f2.type [c2] = some y2 := by simpa [o2, k2] using hg 2 f2 rfl
        have e3 : DataW.trod enc P W 0 (fun _ => true) true m f3.type [c3] = some y3 := by simpa [o3, k3] using hg 3 f3 rfl
        rw [hf.1] at e0
        rw [hf.2.1] at e1
        rw [hf.2.2.1] at e2
        rw [hf.2.2.2] at e3
        obtain ⟨x0, rfl, _⟩ := open_num hi e0
        obtain ⟨x1, rfl, _⟩ := open_num hi e1
        obtain ⟨x2, rfl, _⟩ := open_num hi e2
        obtain ⟨x3, rfl⟩ := open_flagW hb e3
        refine ⟨⟨x0, x1, x2, x3⟩, fun f hf4 => ?_⟩
        have q := hcell f (by simpa using hf4)
        exact q
    obtain ⟨L, hR, hq⟩ := list_of_flat (d := (default : SWaiting)) len each
    refine ⟨L, ?_, by omega⟩
    by_cases h0 : len = 0
    · subst h0
      have hL : L = [] := List.eq_nil_of_length_eq_zero hR
      subst hL
      exact Or.inl ⟨rfl, _, _, rfl⟩
    · have u0 := hq 0 (by omega) 0 (by omega)
      obtain ⟨b, off, spot⟩ := a
      have u1 : W.cell? ((Addr.add ⟨b, off, spot⟩ (0 * 4)).add 0) = some (.int .i64 (L.getD 0 default).f0) := u0
      have hspot : spot = none := by simpa [Addr.add] using World.cell?_spot u1
      subst hspot
      rw [add_plain, add_plain] at u1
      refine Or.inr ⟨b, off, cap, by rw [List.length_map, hR], cell_ltL u1, fun j hj f hf4 => ?_⟩
      rw [List.length_map] at hj
      have w0 := hq j (by omega) f hf4
      rw [add_plain, add_plain, Nat.add_assoc] at w0
      rw [SWaiting.at L j hj]
      exact w0
end Go.Proofs.Ytejhobnfhplidaa
