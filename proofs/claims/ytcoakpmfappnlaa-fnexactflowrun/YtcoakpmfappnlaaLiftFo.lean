import Derived.Test.YtcoakpmfappnlaaLiftB
import Derived.Test.YtcoakpmfappnlaaFvA
namespace Go.Proofs.Ytcoakpmfappnlaa
open Go.ChangeShapes Go.WideShapes Go.ChangeAt Go.RowKit Go.Joins Go.Deep
set_option linter.unusedVariables false

theorem list_of_flat {α : Type} {d : α} {Q : Nat → α → Prop} (n : Nat) (h : ∀ i, i < n → ∃ p, Q i p) : ∃ L : List α, L.length = n ∧ ∀ i, i < n → Q i (L.getD i d) := by
  induction n with
  | zero => exact ⟨[], rfl, fun i hi => by omega⟩
  | succ n ih =>
    obtain ⟨L, hl, hL⟩ := ih (fun i hi => h i (by omega))
    obtain ⟨xs, hx⟩ := h n (by omega)
    refine ⟨L ++ [xs], by simp [hl], fun i hi => ?_⟩
    by_cases hin : i < n
    · have e : (L ++ [xs]).getD i d = L.getD i d := by simp [List.getD, List.getElem?_append_left (show i < L.length by omega)]
      rw [e]; exact hL i hin
    · obtain rfl : i = n := by omega
      have e : (L ++ [xs]).getD i d = xs := by simp [List.getD, hl]
      rw [e]; exact hx
theorem open_flagF {H : Type} {enc : TypeId × Value → H} {P : Program} {W : World} {t : TypeId} {n : Nat} {v : Value} {y : DataW H × List MemPlace} (hb : P.underlying t = some .bool) (h : DataW.trod enc P W 0 (fun _ => true) true n t [v] = some y) : ∃ b, v = .bool b := by
  obtain ⟨a, ha, _⟩ := DataW.trod_bool hb h
  exact ⟨a, by simpa using ha⟩
theorem array9F {a : Array Value} (h : a.size = 9) : ∃ c0 c1 c2 c3 c4 c5 c6 c7 c8, a = #[c0, c1, c2, c3, c4, c5, c6, c7, c8] := by
  match a, h with
  | ⟨[c0, c1, c2, c3, c4, c5, c6, c7, c8]⟩, _ => exact ⟨c0, c1, c2, c3, c4, c5, c6, c7, c8, rfl⟩
set_option maxHeartbeats 1000000 in
/-- AN ARGUMENT THAT IS A SETUP OF CREDIT. -/
theorem open_fset {H : Type} {enc : TypeId × Value → H} {P : Program} {W : World} {r : Reach} {base : Nat} {t ti tb : TypeId} {f0 f1 f2 f3 f4 f5 f6 f7 f8 : Field} {v : Value} {d : DataW H} {p : List MemPlace}
    (hs : P.underlying t = some (.struct #[f0, f1, f2, f3, f4, f5, f6, f7, f8])) (hone : oneCellFields P #[f0, f1, f2, f3, f4, f5, f6, f7, f8] = true) (hC : P.cellsOf t = 9) (hf : f0.type = tb ∧ f1.type = ti ∧ f2.type = ti ∧ f3.type = ti ∧ f4.type = ti ∧ f5.type = ti ∧ f6.type = ti ∧ f7.type = ti ∧ f8.type = ti)
    (hb : P.underlying tb = some .bool) (hi : P.underlying ti = some (.int .i64)) (hval : Value.okWide P W r base t v) (h : DataW.Trod enc P W 0 (fun _ => true) true t v d p) : ∃ F : FS, v = fsV F := by
  obtain ⟨cs, rfl, hsz⟩ := okWide_struct hs hval
  obtain ⟨c0, c1, c2, c3, c4, c5, c6, c7, c8, rfl⟩ := array9F (hsz.trans hC)
  obtain ⟨fuel, hx⟩ := h
  obtain ⟨xs, n, _, _, _, hlen, hg⟩ := DataW.trod_struct hs hx
  obtain ⟨t0, t1, t2, t3, t4, t5, t6, t7, t8⟩ := hf
  match xs, hlen, hg with
  | [y0, y1, y2, y3, y4, y5, y6, y7, y8], _, hg =>
    obtain ⟨o0, k0⟩ := hone_of hone 0 f0 rfl
    obtain ⟨o1, k1⟩ := hone_of hone 1 f1 rfl
    obtain ⟨o2, k2⟩ := hone_of hone 2 f2 rfl
    obtain ⟨o3, k3⟩ := hone_of hone 3 f3 rfl
    obtain ⟨o4, k4⟩ := hone_of hone 4 f4 rfl
    obtain ⟨o5, k5⟩ := hone_of hone 5 f5 rfl
    obtain ⟨o6, k6⟩ := hone_of hone 6 f6 rfl
    obtain ⟨o7, k7⟩ := hone_of hone 7 f7 rfl
    obtain ⟨o8, k8⟩ := hone_of hone 8 f8 rfl
    have h0 : DataW.trod enc P W 0 (fun _ => true) true n f0.type [c0] = some y0 := by simpa [Value.cells, o0, k0] using hg 0 f0 rfl
    rw [t0] at h0
    have h1 : DataW.trod enc P W 0 (fun _ => true) true n f1.type [c1] = some y1 := by simpa [Value.cells, o1, k1] using hg 1 f1 rfl
    rw [t1] at h1
    have h2 : DataW.trod enc P W 0 (fun _ => true) true n f2.type [c2] = some y2 := by simpa [Value.cells, o2, k2] using hg 2 f2 rfl
    rw [t2] at h2
    have h3 : DataW.trod enc P W 0 (fun _ => true) true n f3.type [c3] = some y3 := by simpa [Value.cells, o3, k3] using hg 3 f3 rfl
    rw [t3] at h3
    have h4 : DataW.trod enc P W 0 (fun _ => true) true n f4.type [c4] = some y4 := by simpa [Value.cells, o4, k4] using hg 4 f4 rfl
    rw [t4] at h4
    have h5 : DataW.trod enc P W 0 (fun _ => true) true n f5.type [c5] = some y5 := by simpa [Value.cells, o5, k5] using hg 5 f5 rfl
    rw [t5] at h5
    have h6 : DataW.trod enc P W 0 (fun _ => true) true n f6.type [c6] = some y6 := by simpa [Value.cells, o6, k6] using hg 6 f6 rfl
    rw [t6] at h6
    have h7 : DataW.trod enc P W 0 (fun _ => true) true n f7.type [c7] = some y7 := by simpa [Value.cells, o7, k7] using hg 7 f7 rfl
    rw [t7] at h7
    have h8 : DataW.trod enc P W 0 (fun _ => true) true n f8.type [c8] = some y8 := by simpa [Value.cells, o8, k8] using hg 8 f8 rfl
    rw [t8] at h8
    obtain ⟨b0, rfl⟩ := open_flagF hb h0
    obtain ⟨b1, rfl, _⟩ := open_num hi h1
    obtain ⟨b2, rfl, _⟩ := open_num hi h2
    obtain ⟨b3, rfl, _⟩ := open_num hi h3
    obtain ⟨b4, rfl, _⟩ := open_num hi h4
    obtain ⟨b5, rfl, _⟩ := open_num hi h5
    obtain ⟨b6, rfl, _⟩ := open_num hi h6
    obtain ⟨b7, rfl, _⟩ := open_num hi h7
    obtain ⟨b8, rfl, _⟩ := open_num hi h8
    exact ⟨⟨b0, b1, b2, b3, b4, b5, b6, b7, b8⟩, rfl⟩
/-- AN ARGUMENT THAT IS A LIST OF OPERATIONS ON CREDIT. -/
theorem open_fops {H : Type} {enc : TypeId × Value → H} {P : Program} {W : World} {r : Reach} {base : Nat} {t te ti tb : TypeId} {f0 f1 f2 f3 : Field} {v : Value} {d : DataW H} {p : List MemPlace}
    (ht : P.underlying t = some (.slice te)) (hs : P.underlying te = some (.struct #[f0, f1, f2, f3])) (hone : oneCellFields P #[f0, f1, f2, f3] = true) (hC : P.cellsOf te = 4) (hf : f0.type = ti ∧ f1.type = ti ∧ f2.type = ti ∧ f3.type = tb) (hb : P.underlying tb = some .bool) (hi : P.underlying ti = some (.int .i64))
    (hval : Value.okWide P W r base t v) (h : DataW.Trod enc P W 0 (fun _ => true) true t v d p) : ∃ L : List SFlowOp, GRow 4 W v (SFlowOp.L L) ∧ L.length ≤ maxLen ∧ ∀ j, (Lit.int .i64 (L.getD j default).f1).wf = true := by
  obtain ⟨a0, len0, cap0, rfl⟩ := okWide_slice ht hval
  obtain ⟨fuel, hx0⟩ := h
  have hx : DataW.trod enc P W 0 (fun _ => true) true fuel t [.slice a0 len0 cap0] = some (d, p) := by simpa [Value.cells] using hx0
  rcases DataW.trod_slice ht hx with ⟨h0, _⟩ | ⟨a, len, cap, elems, rest, n, _, hcv, _, _, hl, hm, hlen, hel, _, _⟩
  · have e : (.slice a0 len0 cap0 : Value) = .slice none 0 0 := by simpa using h0
    rw [e]
    exact ⟨[], Or.inl ⟨rfl, none, 0, rfl⟩, by simp, fun j => by simp [List.getD]; decide⟩
  · have e : (.slice a0 len0 cap0 : Value) = .slice (some a) len cap := by simpa using hcv
    rw [e]
    have each : ∀ i, i < len → ∃ q : SFlowOp, (∀ f, f < 4 → W.cell? ((a.add (i * 4)).add f) = (q.c)[f]?) ∧ (Lit.int .i64 q.f1).wf = true := by
      intro i hi'
      have h1 := hel i hi'
      rw [hC] at h1
      obtain ⟨y, hy⟩ : ∃ y, elems[i]? = some y := ⟨elems[i]'(by omega), by simp [hlen, hi']⟩
      rw [hy, Option.bind_eq_some_iff] at h1
      obtain ⟨cs', hcc, hy'⟩ := h1
      obtain ⟨_, hl2, hcell⟩ := World.cells?_some hcc
      obtain ⟨xs, m, _, _, _, hlx, hg⟩ := DataW.trod_struct hs hy'
      match cs', hl2, hcell, xs, hlx, hg with
      | [c0, c1, c2, c3], _, hcell, [y0, y1, y2, y3], _, hg =>
        obtain ⟨o0, k0⟩ := hone_of hone 0 f0 rfl
        obtain ⟨o1, k1⟩ := hone_of hone 1 f1 rfl
        obtain ⟨o2, k2⟩ := hone_of hone 2 f2 rfl
        obtain ⟨o3, k3⟩ := hone_of hone 3 f3 rfl
        have e0 : DataW.trod enc P W 0 (fun _ => true) true m f0.type [c0] = some y0 := by simpa [o0, k0] using hg 0 f0 rfl
        have e1 : DataW.trod enc P W 0 (fun _ => true) true m f1.type [c1] = some y1 := by simpa [o1, k1] using hg 1 f1 rfl
        have e2 : DataW.trod enc P W 0 (fun _ => true) true m f2.type [c2] = some y2 := by simpa [o2, k2] using hg 2 f2 rfl
        have e3 : DataW.trod enc P W 0 (fun _ => true) true m f3.type [c3] = some y3 := by simpa [o3, k3] using hg 3 f3 rfl
        rw [hf.1] at e0
        rw [hf.2.1] at e1
        rw [hf.2.2.1] at e2
        rw [hf.2.2.2] at e3
        obtain ⟨x0, rfl, _⟩ := open_num hi e0
        obtain ⟨x1, rfl, wf1⟩ := open_num hi e1
        obtain ⟨x2, rfl, _⟩ := open_num hi e2
        obtain ⟨x3, rfl⟩ := open_flagF hb e3
        refine ⟨⟨x0, x1, x2, x3⟩, fun f hf4 => ?_, wf1⟩
        have q := hcell f (by simpa using hf4)
        exact q
    obtain ⟨L, hR, hq⟩ := list_of_flat (d := (default : SFlowOp)) len each
    refine ⟨L, ?_, by omega, fun j => ?_⟩
    rotate_left
    · by_cases hj : j < len
      · exact (hq j hj).2
      · have e : L.getD j default = default := by simp [List.getD, show ¬ j < L.length by omega]
        rw [e]; decide
    by_cases h0 : len = 0
    · subst h0
      have hL : L = [] := List.eq_nil_of_length_eq_zero hR
      subst hL
      exact Or.inl ⟨rfl, _, _, rfl⟩
    · have u0 := (hq 0 (by omega)).1 0 (by omega)
      obtain ⟨b, off, spot⟩ := a
      have u1 : W.cell? ((Addr.add ⟨b, off, spot⟩ (0 * 4)).add 0) = some (.int .i64 (L.getD 0 default).f0) := u0
      have hspot : spot = none := by simpa [Addr.add] using World.cell?_spot u1
      subst hspot
      rw [add_plain, add_plain] at u1
      refine Or.inr ⟨b, off, cap, by rw [List.length_map, hR], cell_ltL u1, fun j hj f hf4 => ?_⟩
      rw [List.length_map] at hj
      have w0 := (hq j (by omega)).1 f hf4
      rw [add_plain, add_plain, Nat.add_assoc] at w0
      rw [SFlowOp.at L j hj]
      exact w0
end Go.Proofs.Ytcoakpmfappnlaa
