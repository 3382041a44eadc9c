import Derived.Test.YtaodcahkkeobdaaLiftB
import Derived.Test.YtaodcahkkeobdaaFrame8
namespace Go.Proofs.Ytaodcahkkeobdaa
open Go.ChangeShapes Go.WideShapes Go.ChangeAt Go.RowKit Go.Joins Go.Deep
set_option linter.unusedVariables false

theorem open_bool {H : Type} {enc : TypeId × Value → H} {P : Program} {W : World} {n : Nat} {t : TypeId} {v : Value} {y : DataW H × List MemPlace} (ht : P.underlying t = some .bool) (hf : DataW.trod enc P W 0 (fun _ => true) true n t [v] = some y) :
    ∃ a : Bool, v = .bool a := by
  obtain ⟨a, ha, _⟩ := DataW.trod_bool ht hf
  exact ⟨a, by simpa using ha⟩
theorem list_of_pairs {Q : Nat → (Int × Int) → Prop} (n : Nat) (h : ∀ i, i < n → ∃ p, Q i p) : ∃ L : List (Int × Int), L.length = n ∧ ∀ i, i < n → Q i (L.getD i (0, 0)) := by
  induction n with
  | zero => exact ⟨[], rfl, fun i hi => by omega⟩
  | succ n ih =>
    obtain ⟨L, hl, hL⟩ := ih (fun i hi => h i (by omega))
    obtain ⟨xs, hx⟩ := h n (by omega)
    refine ⟨L ++ [xs], by simp [hl], fun i hi => ?_⟩
    by_cases hin : i < n
    · have e : (L ++ [xs]).getD i (0, 0) = L.getD i (0, 0) := by simp [List.getD, List.getElem?_append_left (show i < L.length by omega)]
      rw [e]; exact hL i hin
    · obtain rfl : i = n := by omega
      have e : (L ++ [xs]).getD i (0, 0) = xs := by simp [List.getD, hl]
      rw [e]; exact hx
/-- A FIELD THAT IS A SLICE OF RANGES. -/
theorem open_rngs {H : Type} {enc : TypeId × Value → H} {P : Program} {W : World} {n : Nat} {t te ti : TypeId} {f0 f1 : Field} {v : Value} {y : DataW H × List MemPlace}
    (ht : P.underlying t = some (.slice te)) (hs : P.underlying te = some (.struct #[f0, f1])) (hone : oneCellFields P #[f0, f1] = true) (hC : P.cellsOf te = 2) (hf : f0.type = ti ∧ f1.type = ti) (hi : P.underlying ti = some (.int .i64))
    (hx : DataW.trod enc P W 0 (fun _ => true) true n t [v] = some y) : ∃ R : List (Int × Int), RRow W v R ∧ R.length ≤ maxLen := by
  rcases DataW.trod_slice ht hx with ⟨h0, _⟩ | ⟨a, len, cap, elems, rest, n, _, hcv, _, _, hl, hm, hlen, hel, _, _⟩
  · have : v = .slice none 0 0 := by simpa using h0
    rw [this]
    exact ⟨[], Or.inl ⟨rfl, none, 0, rfl⟩, by simp⟩
  · have : v = .slice (some a) len cap := by simpa using hcv
    rw [this]
    have each : ∀ i, i < len → ∃ p : Int × Int, W.cell? (a.add (i * 2)) = some (.int .i64 p.1) ∧ W.cell? ((a.add (i * 2)).add 1) = some (.int .i64 p.2) := by
      intro i hi'
      have h1 := hel i hi'
      rw [hC] at h1
      obtain ⟨y, hy⟩ : ∃ y, elems[i]? = some y := ⟨elems[i]'(by omega), by simp [hlen, hi']⟩
      rw [hy, Option.bind_eq_some_iff] at h1
      obtain ⟨cs', hcc, hy'⟩ := h1
      obtain ⟨_, hl2, hcell⟩ := World.cells?_some hcc
      match cs', hl2, hcell, hy' with
      | [c0, c1], _, hcell, hy' =>
        obtain ⟨y0, y1, m, _, _, g0, g1⟩ := trod_struct2 hs hy'
        obtain ⟨o0, k0⟩ := hone_of hone 0 f0 rfl
        obtain ⟨o1, k1⟩ := hone_of hone 1 f1 rfl
        have e0 : DataW.trod enc P W 0 (fun _ => true) true m f0.type [c0] = some y0 := by simpa [o0, k0] using g0
        have e1 : DataW.trod enc P W 0 (fun _ => true) true m f1.type [c1] = some y1 := by simpa [o1, k1] using g1
        rw [hf.1] at e0
        rw [hf.2] at e1
        obtain ⟨x0, rfl, _⟩ := open_num hi e0
        obtain ⟨x1, rfl, _⟩ := open_num hi e1
        have q0 := hcell 0 (by omega)
        have q1 := hcell 1 (by omega)
        have q0' : W.cell? (a.add (i * 2)) = some (.int .i64 x0) := by simpa [Addr.add] using q0
        exact ⟨(x0, x1), q0', by simpa using q1⟩
    obtain ⟨R, hR, hq⟩ := list_of_pairs (Q := fun i p => W.cell? (a.add (i * 2)) = some (.int .i64 p.1) ∧ W.cell? ((a.add (i * 2)).add 1) = some (.int .i64 p.2)) len each
    refine ⟨R, ?_, by omega⟩
    by_cases h0 : len = 0
    · subst h0
      exact Or.inl ⟨List.eq_nil_of_length_eq_zero hR, _, _, rfl⟩
    · obtain ⟨u0, _⟩ := hq 0 (by omega)
      obtain ⟨b, off, spot⟩ := a
      have hspot : spot = none := by simpa [Addr.add] using World.cell?_spot u0
      subst hspot
      rw [add_plain] at u0
      refine Or.inr ⟨b, off, cap, by rw [hR], cell_lt u0, fun j hj => ?_⟩
      obtain ⟨w0, w1⟩ := hq j (by omega)
      rw [add_plain] at w0 w1
      rw [add_plain] at w1
      exact ⟨w0, w1⟩
/-- AN ARGUMENT THAT IS A FRAME. -/
theorem open_frame {H : Type} {enc : TypeId × Value → H} {P : Program} {W : World} {r : Reach} {base : Nat} {t ti tb ts e tr te : TypeId} {f0 f1 f2 f3 f4 f5 f6 f7 g0 g1 : Field} {v : Value} {d : DataW H} {p : List MemPlace}
    (hs : P.underlying t = some (.struct #[f0, f1, f2, f3, f4, f5, f6, f7])) (hone : oneCellFields P #[f0, f1, f2, f3, f4, f5, f6, f7] = true) (hC : P.cellsOf t = 8) (hf : f0.type = ti ∧ f1.type = ti ∧ f2.type = ti ∧ f3.type = ti ∧ f4.type = tb ∧ f5.type = ts ∧ f6.type = ts ∧ f7.type = tr)
    (hi : P.underlying ti = some (.int .i64)) (hb : P.underlying tb = some .bool) (ht : P.underlying ts = some (.slice e)) (he : P.underlying e = some (.int .u8)) (hc : P.cellsOf e = 1)
    (htr : P.underlying tr = some (.slice te)) (hte : P.underlying te = some (.struct #[g0, g1])) (honer : oneCellFields P #[g0, g1] = true) (hCr : P.cellsOf te = 2) (hg : g0.type = ti ∧ g1.type = ti)
    (hval : Value.okWide P W r base t v) (h : DataW.Trod enc P W 0 (fun _ => true) true t v d p) :
    ∃ k : F8, FRow W v k ∧ k.small maxLen := by
  obtain ⟨cs, rfl, hsz⟩ := okWide_struct hs hval
  obtain ⟨c0, c1, c2, c3, c4, c5, c6, c7, rfl⟩ := array8 (hsz.trans hC)
  obtain ⟨fuel, hx⟩ := h
  obtain ⟨xs, n, _, _, _, hlen, hgg⟩ := DataW.trod_struct hs hx
  obtain ⟨t0, t1, t2, t3, t4, t5, t6, t7⟩ := hf
  match xs, hlen, hgg with
  | [y0, y1, y2, y3, y4, y5, y6, y7], _, hg' =>
    obtain ⟨o0, k0⟩ := hone_of hone 0 f0 rfl
    obtain ⟨o1, k1⟩ := hone_of hone 1 f1 rfl
    obtain ⟨o2, k2⟩ := hone_of hone 2 f2 rfl
    obtain ⟨o3, k3⟩ := hone_of hone 3 f3 rfl
    obtain ⟨o4, k4⟩ := hone_of hone 4 f4 rfl
    obtain ⟨o5, k5⟩ := hone_of hone 5 f5 rfl
    obtain ⟨o6, k6⟩ := hone_of hone 6 f6 rfl
    obtain ⟨o7, k7⟩ := hone_of hone 7 f7 rfl
    have h0 : DataW.trod enc P W 0 (fun _ => true) true n f0.type [c0] = some y0 := by simpa [Value.cells, o0, k0] using hg' 0 f0 rfl
    have h1 : DataW.trod enc P W 0 (fun _ => true) true n f1.type [c1] = some y1 := by simpa [Value.cells, o1, k1] using hg' 1 f1 rfl
    have h2 : DataW.trod enc P W 0 (fun _ => true) true n f2.type [c2] = some y2 := by simpa [Value.cells, o2, k2] using hg' 2 f2 rfl
    have h3 : DataW.trod enc P W 0 (fun _ => true) true n f3.type [c3] = some y3 := by simpa [Value.cells, o3, k3] using hg' 3 f3 rfl
    have h4 : DataW.trod enc P W 0 (fun _ => true) true n f4.type [c4] = some y4 := by simpa [Value.cells, o4, k4] using hg' 4 f4 rfl
    have h5 : DataW.trod enc P W 0 (fun _ => true) true n f5.type [c5] = some y5 := by simpa [Value.cells, o5, k5] using hg' 5 f5 rfl
    have h6 : DataW.trod enc P W 0 (fun _ => true) true n f6.type [c6] = some y6 := by simpa [Value.cells, o6, k6] using hg' 6 f6 rfl
    have h7 : DataW.trod enc P W 0 (fun _ => true) true n f7.type [c7] = some y7 := by simpa [Value.cells, o7, k7] using hg' 7 f7 rfl
    rw [t0] at h0
    rw [t1] at h1
    rw [t2] at h2
    rw [t3] at h3
    rw [t4] at h4
    rw [t5] at h5
    rw [t6] at h6
    rw [t7] at h7
    obtain ⟨a0, rfl, _⟩ := open_num hi h0
    obtain ⟨a1, rfl, _⟩ := open_num hi h1
    obtain ⟨a2, rfl, _⟩ := open_num hi h2
    obtain ⟨a3, rfl, _⟩ := open_num hi h3
    obtain ⟨a4, rfl⟩ := open_bool hb h4
    obtain ⟨x5, r5, l5, _⟩ := open_field ht he hc h5
    obtain ⟨x6, r6, l6, _⟩ := open_field ht he hc h6
    obtain ⟨x7, r7, l7⟩ := open_rngs htr hte honer hCr hg hi h7
    exact ⟨⟨a0, a1, a2, a3, a4, x5, x6, x7⟩, ⟨c5, c6, c7, rfl, r5, r6, r7⟩, ⟨l5, l6, l7⟩⟩
end Go.Proofs.Ytaodcahkkeobdaa
