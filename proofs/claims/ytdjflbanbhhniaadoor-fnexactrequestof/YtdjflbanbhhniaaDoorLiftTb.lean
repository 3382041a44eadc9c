import Derived.Test.YtdjflbanbhhniaaDoorLiftB
import Derived.Test.YtdjflbanbhhniaaDoorTbZ
import Derived.Lib.SmallJoins
import Derived.ChangeMaps5
namespace Go.Proofs.YtdjflbanbhhniaaDoor
open Go.ChangeShapes Go.WideShapes Go.ChangeAt Go.RowKit Go.Joins Go.Deep
set_option linter.unusedVariables false

theorem list_of_flds {α : Type} {d : α} {Q : Nat → α → Prop} (n : Nat) (h : ∀ i, i < n → ∃ p, Q i p) : ∃ L : List α, L.length = n ∧ ∀ i, i < n → Q i (L.getD i d) := by
  induction n with
  | zero => exact ⟨[], rfl, fun i hi => by omega⟩
  | succ n ih =>
    obtain ⟨L, hl, hL⟩ := ih (fun i hi => h i (by omega))
    obtain ⟨xs, hx⟩ := h n (by omega)
    refine ⟨L ++ [xs], by simp [hl], fun i hi => ?_⟩
    by_cases hin : i < n
    · have e : (L ++ [xs]).getD i d = L.getD i d := by simp [List.getD, List.getElem?_append_left (show i < L.length by omega)]
      rw [e]; exact hL i hin
    · obtain rfl : i = n := by omega
      have e : (L ++ [xs]).getD i d = xs := by simp [List.getD, hl]
      rw [e]; exact hx
/-- A FIELD THAT IS A LIST OF PAIRS OF TEXTS. -/
theorem open_flds {H : Type} {enc : TypeId × Value → H} {P : Program} {W : World} {fuel : Nat} {t te ti : TypeId} {f0 f1 : Field} {v : Value} {y : DataW H × List MemPlace}
    (ht : P.underlying t = some (.slice te)) (hs : P.underlying te = some (.struct #[f0, f1])) (hone : oneCellFields P #[f0, f1] = true) (hC : P.cellsOf te = 2) (hf : f0.type = ti ∧ f1.type = ti) (hi : P.underlying ti = some .string)
    (hx : DataW.trod enc P W 0 (fun _ => true) true fuel t [v] = some y) : ∃ L : List SField, GRow 2 W v (SField.L L) ∧ L.length ≤ maxLen ∧ fin L := by
  obtain ⟨d, p⟩ := y
  rcases DataW.trod_slice ht hx with ⟨h0, _⟩ | ⟨a, len, cap, elems, rest, n, _, hcv, _, _, hl, hm, hlen, hel, _, _⟩
  · have e : v = .slice none 0 0 := by simpa using h0
    rw [e]
    exact ⟨[], Or.inl ⟨rfl, none, 0, rfl⟩, by simp, fun j hj => by simp at hj⟩
  · have e : v = .slice (some a) len cap := by simpa using hcv
    rw [e]
    have each : ∀ i, i < len → ∃ q : SField, (∀ f, f < 2 → W.cell? ((a.add (i * 2)).add f) = (q.c)[f]?) ∧ q.f0.size ≤ maxLen ∧ q.f1.size ≤ maxLen := by
      intro i hi'
      have h1 := hel i hi'
      rw [hC] at h1
      obtain ⟨y, hy⟩ : ∃ y, elems[i]? = some y := ⟨elems[i]'(by omega), by simp [hlen, hi']⟩
      rw [hy, Option.bind_eq_some_iff] at h1
      obtain ⟨cs', hcc, hy'⟩ := h1
      obtain ⟨_, hl2, hcell⟩ := World.cells?_some hcc
      obtain ⟨xs, m, _, _, _, hlx, hg⟩ := DataW.trod_struct hs hy'
      match cs', hl2, hcell, xs, hlx, hg with
      | [c0, c1], _, hcell, [y0, y1], _, hg =>
        obtain ⟨o0, k0⟩ := hone_of hone 0 f0 rfl
        obtain ⟨o1, k1⟩ := hone_of hone 1 f1 rfl
        have e0 : DataW.trod enc P W 0 (fun _ => true) true m f0.type [c0] = some y0 := by simpa [o0, k0] using hg 0 f0 rfl
        have e1 : DataW.trod enc P W 0 (fun _ => true) true m f1.type [c1] = some y1 := by simpa [o1, k1] using hg 1 f1 rfl
        rw [hf.1] at e0
        rw [hf.2] at e1
        obtain ⟨s0, q0, _, z0⟩ := DataW.trod_string hi e0
        obtain ⟨s1, q1, _, z1⟩ := DataW.trod_string hi e1
        obtain rfl : c0 = .string s0 := by simpa using q0
        obtain rfl : c1 = .string s1 := by simpa using q1
        refine ⟨⟨s0, s1⟩, fun f hf5 => ?_, z0, z1⟩
        have q := hcell f (by simpa using hf5)
        exact q
    obtain ⟨L, hR, hq⟩ := list_of_flds (d := (default : SField)) len each
    refine ⟨L, ?_, by omega, fun j hj => ?_⟩
    · by_cases h0 : len = 0
      · subst h0
        have hL : L = [] := List.eq_nil_of_length_eq_zero hR
        subst hL
        exact Or.inl ⟨rfl, _, _, rfl⟩
      · have u0 := (hq 0 (by omega)).1 0 (by omega)
        obtain ⟨b, off, spot⟩ := a
        have u1 : W.cell? ((Addr.add ⟨b, off, spot⟩ (0 * 2)).add 0) = some (.string (L.getD 0 default).f0) := u0
        have hspot : spot = none := by simpa [Addr.add] using World.cell?_spot u1
        subst hspot
        rw [add_plain, add_plain] at u1
        refine Or.inr ⟨b, off, cap, by rw [List.length_map, hR], cell_ltL u1, fun j hj f hf5 => ?_⟩
        rw [List.length_map] at hj
        have w0 := (hq j (by omega)).1 f hf5
        rw [add_plain, add_plain, Nat.add_assoc] at w0
        rw [SField.at L j hj]
        exact w0
    · have := (hq j (by omega)).2
      unfold maxLen at this
      exact ⟨by omega, by omega⟩
/-- AN ARGUMENT THAT IS A TABLE. -/
theorem open_tab {H : Type} {enc : TypeId × Value → H} {P : Program} {W : World} {r : Reach} {base : Nat} {t ti tl te ts : TypeId} {g0 g1 g2 g3 f0 f1 : Field} {v : Value} {d : DataW H} {p : List MemPlace}
    (hs : P.underlying t = some (.struct #[g0, g1, g2, g3])) (hone4 : oneCellFields P #[g0, g1, g2, g3] = true) (hC4 : P.cellsOf t = 4) (hg : g0.type = ti ∧ g1.type = ti ∧ g2.type = ti ∧ g3.type = tl) (hi : P.underlying ti = some (.int .i64))
    (ht : P.underlying tl = some (.slice te)) (hse : P.underlying te = some (.struct #[f0, f1])) (hone : oneCellFields P #[f0, f1] = true) (hC : P.cellsOf te = 2) (hf : f0.type = ts ∧ f1.type = ts) (hst : P.underlying ts = some .string)
    (hval : Value.okWide P W r base t v) (h : DataW.Trod enc P W 0 (fun _ => true) true t v d p) :
    ∃ (k : TB) (s : Value), v = tV k s ∧ GRow 2 W s (SField.L k.es) ∧ k.es.length ≤ maxLen ∧ fin k.es := by
  obtain ⟨v0, v1, v2, v3, y0, y1, y2, y3, n, rfl, _, _, h0, h1, h2, h3⟩ := open_agg4 hs hone4 hC4 hval h
  rw [hg.1] at h0
  rw [hg.2.1] at h1
  rw [hg.2.2.1] at h2
  rw [hg.2.2.2] at h3
  obtain ⟨x0, rfl, _⟩ := open_num hi h0
  obtain ⟨x1, rfl, _⟩ := open_num hi h1
  obtain ⟨x2, rfl, _⟩ := open_num hi h2
  obtain ⟨L, hr, hl, hfn⟩ := open_flds ht hse hone hC hf hst h3
  exact ⟨⟨x0, x1, x2, L⟩, v3, rfl, hr, hl, hfn⟩
end Go.Proofs.YtdjflbanbhhniaaDoor
