import Derived.Test.YtjikdecfampbiaaLiftB
import Derived.Test.YtjikdecfampbiaaFbPathOpB
namespace Go.Proofs.Ytjikdecfampbiaa
open Go.ChangeShapes Go.WideShapes Go.ChangeAt Go.RowKit Go.Joins Go.Deep
set_option linter.unusedVariables false

theorem list_of_flatP {α : Type} {d : α} {Q : Nat → α → Prop} (n : Nat) (h : ∀ i, i < n → ∃ p, Q i p) : ∃ L : List α, L.length = n ∧ ∀ i, i < n → Q i (L.getD i d) := by
  induction n with
  | zero => exact ⟨[], rfl, fun i hi => by omega⟩
  | succ n ih =>
    obtain ⟨L, hl, hL⟩ := ih (fun i hi => h i (by omega))
    obtain ⟨xs, hx⟩ := h n (by omega)
    refine ⟨L ++ [xs], by simp [hl], fun i hi => ?_⟩
    by_cases hin : i < n
    · have e : (L ++ [xs]).getD i d = L.getD i d := by simp [List.getD, List.getElem?_append_left (show i < L.length by omega)]
      rw [e]; exact hL i hin
    · obtain rfl : i = n := by omega
      have e : (L ++ [xs]).getD i d = xs := by simp [List.getD, hl]
      rw [e]; exact hx
theorem wf_leP {a : Int} (h : (Lit.int .i64 a).wf = true) : a ≤ 9223372036854775807 := by
  simp only [Lit.wf, Bool.and_eq_true, decide_eq_true_eq] at h
  exact h.2
/-- AN ARGUMENT THAT IS A LIST OF STRUCTS: THREE NUMBERS, BYTES. -/
theorem open_opsP {H : Type} {enc : TypeId × Value → H} {P : Program} {W : World} {r : Reach} {base : Nat} {t te ti ts tu : TypeId} {f0 f1 f2 f3 : Field} {v : Value} {d : DataW H} {p : List MemPlace}
    (ht : P.underlying t = some (.slice te)) (hs : P.underlying te = some (.struct #[f0, f1, f2, f3])) (hone : oneCellFields P #[f0, f1, f2, f3] = true) (hC : P.cellsOf te = 4) (hf : f0.type = ti ∧ f1.type = ti ∧ f2.type = ti ∧ f3.type = ts) (hi : P.underlying ti = some (.int .i64))
    (hts : P.underlying ts = some (.slice tu)) (htu : P.underlying tu = some (.int .u8)) (hcu : P.cellsOf tu = 1)
    (hval : Value.okWide P W r base t v) (h : DataW.Trod enc P W 0 (fun _ => true) true t v d p) : ∃ L : List SPathOp, BRow 4 SPathOp.c SPathOp.d W v L ∧ L.length ≤ maxLen ∧ (∀ j, j < L.length → (L.getD j default).d.length ≤ maxLen) ∧ ∀ j, j < L.length → ∀ x ∈ (L.getD j default).d, (Lit.int .u8 x).wf = true := by
  obtain ⟨a0, len0, cap0, rfl⟩ := okWide_slice ht hval
  obtain ⟨fuel, hx0⟩ := h
  have hx : DataW.trod enc P W 0 (fun _ => true) true fuel t [.slice a0 len0 cap0] = some (d, p) := by simpa [Value.cells] using hx0
  rcases DataW.trod_slice ht hx with ⟨h0, _⟩ | ⟨a, len, cap, elems, rest, n, _, hcv, _, _, hl, hm, hlen, hel, _, _⟩
  · have e : (.slice a0 len0 cap0 : Value) = .slice none 0 0 := by simpa using h0
    rw [e]
    exact ⟨[], ⟨fun _ => .slice none 0 0, Or.inl ⟨by simp [zl], none, 0, rfl⟩, fun j hj => by simp at hj⟩, by simp, fun j hj => by simp at hj, fun j hj => by simp at hj⟩
  · have e : (.slice a0 len0 cap0 : Value) = .slice (some a) len cap := by simpa using hcv
    rw [e]
    have each : ∀ i, i < len → ∃ q : SPathOp × Value, (∀ f, f < 4 → W.cell? ((a.add (i * 4)).add f) = (q.1.c q.2)[f]?) ∧ Row W .u8 q.2 q.1.d ∧ q.1.d.length ≤ maxLen ∧ ∀ x ∈ q.1.d, (Lit.int .u8 x).wf = true := by
      intro i hi'
      have h1 := hel i hi'
      rw [hC] at h1
      obtain ⟨y, hy⟩ : ∃ y, elems[i]? = some y := ⟨elems[i]'(by omega), by simp [hlen, hi']⟩
      rw [hy, Option.bind_eq_some_iff] at h1
      obtain ⟨cs', hcc, hy'⟩ := h1
      obtain ⟨_, hl2, hcell⟩ := World.cells?_some hcc
      obtain ⟨xs, m, _, _, _, hlx, hg⟩ := DataW.trod_struct hs hy'
      match cs', hl2, hcell, xs, hlx, hg with
      | [c0, c1, c2, c3], _, hcell, [y0, y1, y2, y3], _, hg =>
        obtain ⟨o0, k0⟩ := hone_of hone 0 f0 rfl
        obtain ⟨o1, k1⟩ := hone_of hone 1 f1 rfl
        obtain ⟨o2, k2⟩ := hone_of hone 2 f2 rfl
        obtain ⟨o3, k3⟩ := hone_of hone 3 f3 rfl
        have e0 : DataW.trod enc P W 0 (fun _ => true) true m f0.type [c0] = some y0 := by simpa [o0, k0] using hg 0 f0 rfl
        have e1 : DataW.trod enc P W 0 (fun _ => true) true m f1.type [c1] = some y1 := by simpa [o1, k1] using hg 1 f1 rfl
        have e2 : DataW.trod enc P W 0 (fun _ => true) true m f2.type [c2] = some y2 := by simpa [o2, k2] using hg 2 f2 rfl
        have e3 : DataW.trod enc P W 0 (fun _ => true) true m f3.type [c3] = some y3 := by simpa [o3, k3] using hg 3 f3 rfl
        rw [hf.1] at e0
        rw [hf.2.1] at e1
        rw [hf.2.2.1] at e2
        rw [hf.2.2.2] at e3
        obtain ⟨x0, rfl, _⟩ := open_num hi e0
        obtain ⟨x1, rfl, _⟩ := open_num hi e1
        obtain ⟨x2, rfl, _⟩ := open_num hi e2
        obtain ⟨x3, rx, lx, wx⟩ := open_field hts htu hcu e3
        refine ⟨(⟨x0, x1, x2, x3⟩, c3), fun f hf4 => ?_, rx, lx, wx⟩
        have q := hcell f (by simpa using hf4)
        exact q
    obtain ⟨L, hR, hq⟩ := list_of_flatP (d := ((default : SPathOp), Value.slice none 0 0)) len each
    have hg : ∀ j, j < len → (L.map (·.1)).getD j default = (L.getD j (default, Value.slice none 0 0)).1 := fun j hj => by simp [List.getD, show j < L.length by omega]
    refine ⟨L.map (·.1), ⟨fun j => (L.getD j (default, Value.slice none 0 0)).2, ?_, fun j hj => ?_⟩, by rw [List.length_map]; omega, fun j hj => ?_, fun j hj => ?_⟩
    · by_cases h0 : len = 0
      · subst h0
        have hL : L = [] := List.eq_nil_of_length_eq_zero hR
        subst hL
        exact Or.inl ⟨by simp [zl], _, _, rfl⟩
      · have u0 := (hq 0 (by omega)).1 0 (by omega)
        obtain ⟨b, off, spot⟩ := a
        have u1 : W.cell? ((Addr.add ⟨b, off, spot⟩ (0 * 4)).add 0) = some (.int .i64 (L.getD 0 (default, Value.slice none 0 0)).1.f0) := u0
        have hspot : spot = none := by simpa [Addr.add] using World.cell?_spot u1
        subst hspot
        rw [add_plain, add_plain] at u1
        refine Or.inr ⟨b, off, cap, by rw [zl_length, List.length_map, hR], cell_ltL u1, fun j hj f hf4 => ?_⟩
        rw [zl_length, List.length_map] at hj
        have w0 := (hq j (by omega)).1 f hf4
        rw [add_plain, add_plain, Nat.add_assoc] at w0
        rw [zl_at _ _ _ _ (by rw [List.length_map]; exact hj), hg j (by omega)]
        exact w0
    · rw [List.length_map] at hj
      rw [hg j (by omega)]; exact (hq j (by omega)).2.1
    · rw [List.length_map] at hj
      rw [hg j (by omega)]; exact (hq j (by omega)).2.2.1
    · rw [List.length_map] at hj
      rw [hg j (by omega)]; exact (hq j (by omega)).2.2.2
end Go.Proofs.Ytjikdecfampbiaa
