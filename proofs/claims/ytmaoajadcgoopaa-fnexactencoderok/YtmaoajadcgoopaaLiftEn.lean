import Derived.Test.YtmaoajadcgoopaaLiftTb
import Derived.Test.YtmaoajadcgoopaaEnT
namespace Go.Proofs.Ytmaoajadcgoopaa
open Go.ChangeShapes Go.WideShapes Go.ChangeAt Go.RowKit Go.Joins Go.Deep
set_option linter.unusedVariables false

/-- A FIELD THAT IS A LIST OF STRUCTS OF THREE NUMBERS. -/
theorem open_refs {H : Type} {enc : TypeId × Value → H} {P : Program} {W : World} {fuel : Nat} {t te ti : TypeId} {f0 f1 f2 : Field} {v : Value} {y : DataW H × List MemPlace}
    (ht : P.underlying t = some (.slice te)) (hs : P.underlying te = some (.struct #[f0, f1, f2])) (hone : oneCellFields P #[f0, f1, f2] = true) (hC : P.cellsOf te = 3) (hf : f0.type = ti ∧ f1.type = ti ∧ f2.type = ti) (hi : P.underlying ti = some (.int .i64))
    (hx : DataW.trod enc P W 0 (fun _ => true) true fuel t [v] = some y) : ∃ L : List SRef, GRow 3 W v (SRef.L L) ∧ L.length ≤ maxLen := by
  obtain ⟨d, p⟩ := y
  rcases DataW.trod_slice ht hx with ⟨h0, _⟩ | ⟨a, len, cap, elems, rest, n, _, hcv, _, _, hl, hm, hlen, hel, _, _⟩
  · have e : v = .slice none 0 0 := by simpa using h0
    rw [e]
    exact ⟨[], Or.inl ⟨rfl, none, 0, rfl⟩, by simp⟩
  · have e : v = .slice (some a) len cap := by simpa using hcv
    rw [e]
    have each : ∀ i, i < len → ∃ q : SRef, ∀ f, f < 3 → W.cell? ((a.add (i * 3)).add f) = (q.c)[f]? := by
      intro i hi'
      have h1 := hel i hi'
      rw [hC] at h1
      obtain ⟨y, hy⟩ : ∃ y, elems[i]? = some y := ⟨elems[i]'(by omega), by simp [hlen, hi']⟩
      rw [hy, Option.bind_eq_some_iff] at h1
      obtain ⟨cs', hcc, hy'⟩ := h1
      obtain ⟨_, hl2, hcell⟩ := World.cells?_some hcc
      obtain ⟨xs, m, _, _, _, hlx, hg⟩ := DataW.trod_struct hs hy'
      match cs', hl2, hcell, xs, hlx, hg with
      | [c0, c1, c2], _, hcell, [y0, y1, y2], _, hg =>
        obtain ⟨o0, k0⟩ := hone_of hone 0 f0 rfl
        obtain ⟨o1, k1⟩ := hone_of hone 1 f1 rfl
        obtain ⟨o2, k2⟩ := hone_of hone 2 f2 rfl
        have e0 : DataW.trod enc P W 0 (fun _ => true) true m f0.type [c0] = some y0 := by simpa [o0, k0] using hg 0 f0 rfl
        have e1 : DataW.trod enc P W 0 (fun _ => true) true m f1.type [c1] = some y1 := by simpa [o1, k1] using hg 1 f1 rfl
        have e2 : DataW.trod enc P W 0 (fun _ => true) true m f2.type [c2] = some y2 := by simpa [o2, k2] using hg 2 f2 rfl
        rw [hf.1] at e0
        rw [hf.2.1] at e1
        rw [hf.2.2] at e2
        obtain ⟨x0, rfl, _⟩ := open_num hi e0
        obtain ⟨x1, rfl, _⟩ := open_num hi e1
        obtain ⟨x2, rfl, _⟩ := open_num hi e2
        refine ⟨⟨x0, x1, x2⟩, fun f hf5 => ?_⟩
        have q := hcell f (by simpa using hf5)
        exact q
    obtain ⟨L, hR, hq⟩ := list_of_flds (d := (default : SRef)) len each
    refine ⟨L, ?_, by omega⟩
    by_cases h0 : len = 0
    · subst h0
      have hL : L = [] := List.eq_nil_of_length_eq_zero hR
      subst hL
      exact Or.inl ⟨rfl, _, _, rfl⟩
    · have u0 := hq 0 (by omega) 0 (by omega)
      obtain ⟨b, off, spot⟩ := a
      have u1 : W.cell? ((Addr.add ⟨b, off, spot⟩ (0 * 3)).add 0) = some (.int .i64 (L.getD 0 default).f0) := u0
      have hspot : spot = none := by simpa [Addr.add] using World.cell?_spot u1
      subst hspot
      rw [add_plain, add_plain] at u1
      refine Or.inr ⟨b, off, cap, by rw [List.length_map, hR], cell_ltL u1, fun j hj f hf5 => ?_⟩
      rw [List.length_map] at hj
      have w0 := hq j (by omega) f hf5
      rw [add_plain, add_plain, Nat.add_assoc] at w0
      rw [SRef.at L j hj]
      exact w0
theorem array7 {a : Array Value} (h : a.size = 7) : ∃ c0 c1 c2 c3 c4 c5 c6, a = #[c0, c1, c2, c3, c4, c5, c6] := by
  match a, h with
  | ⟨[c0, c1, c2, c3, c4, c5, c6]⟩, _ => exact ⟨c0, c1, c2, c3, c4, c5, c6, rfl⟩
/-- AN ARGUMENT THAT IS AN ENCODER. -/
theorem open_enc {H : Type} {enc : TypeId × Value → H} {P : Program} {W : World} {r : Reach} {base : Nat} {t tt ti tl te ts tr tx : TypeId} {h0 h1 h2 h3 g0 g1 g2 g3 f0 f1 r0 r1 r2 : Field} {v : Value} {d : DataW H} {p : List MemPlace}
    (hs : P.underlying t = some (.struct #[h0, h1, h2, h3])) (hC7 : P.cellsOf t = 7) (hh : (h0.offset = 0 ∧ h1.offset = 4 ∧ h2.offset = 5 ∧ h3.offset = 6) ∧ (h0.type = tt ∧ h1.type = ti ∧ h2.type = ti ∧ h3.type = tr))
    (hst : P.underlying tt = some (.struct #[g0, g1, g2, g3])) (hone4 : oneCellFields P #[g0, g1, g2, g3] = true) (hg : g0.type = ti ∧ g1.type = ti ∧ g2.type = ti ∧ g3.type = tl) (c1 : P.cellsOf tt = 4 ∧ P.cellsOf ti = 1 ∧ P.cellsOf tr = 1) (hi : P.underlying ti = some (.int .i64))
    (ht : P.underlying tl = some (.slice te)) (hse : P.underlying te = some (.struct #[f0, f1])) (hone : oneCellFields P #[f0, f1] = true) (hC : P.cellsOf te = 2) (hf : f0.type = ts ∧ f1.type = ts) (hstr : P.underlying ts = some .string)
    (htr : P.underlying tr = some (.slice tx)) (hsx : P.underlying tx = some (.struct #[r0, r1, r2])) (hone3 : oneCellFields P #[r0, r1, r2] = true) (hC3 : P.cellsOf tx = 3) (hf3 : r0.type = ti ∧ r1.type = ti ∧ r2.type = ti)
    (hval : Value.okWide P W r base t v) (h : DataW.Trod enc P W 0 (fun _ => true) true t v d p) :
    ∃ (k : EN) (s q : Value), v = eV k s q ∧ GRow 2 W s (SField.L k.t.es) ∧ GRow 3 W q (SRef.L k.op) ∧ k.t.es.length ≤ maxLen ∧ k.op.length ≤ maxLen ∧ fin k.t.es := by
  obtain ⟨cs, rfl, hsz⟩ := okWide_struct hs hval
  obtain ⟨k0, k1, k2, k3, k4, k5, k6, rfl⟩ := array7 (hsz.trans hC7)
  obtain ⟨fuel, hx⟩ := h
  obtain ⟨xs, n, _, _, _, hlen, hq⟩ := DataW.trod_struct hs hx
  obtain ⟨⟨o0, o1, o2, o3⟩, ⟨y0, y1, y2, y3⟩⟩ := hh
  obtain ⟨ct, ci, cr⟩ := c1
  match xs, hlen, hq with
  | [z0, z1, z2, z3], _, hq =>
    have e0 : DataW.trod enc P W 0 (fun _ => true) true n tt [k0, k1, k2, k3] = some z0 := by have := hq 0 h0 rfl; rw [o0, y0, ct] at this; simpa [Value.cells] using this
    have e1 : DataW.trod enc P W 0 (fun _ => true) true n ti [k4] = some z1 := by have := hq 1 h1 rfl; rw [o1, y1, ci] at this; simpa [Value.cells] using this
    have e2 : DataW.trod enc P W 0 (fun _ => true) true n ti [k5] = some z2 := by have := hq 2 h2 rfl; rw [o2, y2, ci] at this; simpa [Value.cells] using this
    have e3 : DataW.trod enc P W 0 (fun _ => true) true n tr [k6] = some z3 := by have := hq 3 h3 rfl; rw [o3, y3, cr] at this; simpa [Value.cells] using this
    obtain ⟨kn, rfl, _⟩ := open_num hi e1
    obtain ⟨bl, rfl, _⟩ := open_num hi e2
    obtain ⟨R, rr, rl⟩ := open_refs htr hsx hone3 hC3 hf3 hi e3
    obtain ⟨us, m, _, _, _, ulen, ug⟩ := DataW.trod_struct hst e0
    match us, ulen, ug with
    | [b0, b1, b2, b3], _, ug =>
      obtain ⟨a0, d0⟩ := hone_of hone4 0 g0 rfl
      obtain ⟨a1, d1⟩ := hone_of hone4 1 g1 rfl
      obtain ⟨a2, d2⟩ := hone_of hone4 2 g2 rfl
      obtain ⟨a3, d3⟩ := hone_of hone4 3 g3 rfl
      have j0 : DataW.trod enc P W 0 (fun _ => true) true m g0.type [k0] = some b0 := by simpa [a0, d0] using ug 0 g0 rfl
      have j1 : DataW.trod enc P W 0 (fun _ => true) true m g1.type [k1] = some b1 := by simpa [a1, d1] using ug 1 g1 rfl
      have j2 : DataW.trod enc P W 0 (fun _ => true) true m g2.type [k2] = some b2 := by simpa [a2, d2] using ug 2 g2 rfl
      have j3 : DataW.trod enc P W 0 (fun _ => true) true m g3.type [k3] = some b3 := by simpa [a3, d3] using ug 3 g3 rfl
      rw [hg.1] at j0
      rw [hg.2.1] at j1
      rw [hg.2.2.1] at j2
      rw [hg.2.2.2] at j3
      obtain ⟨x0, rfl, _⟩ := open_num hi j0
      obtain ⟨x1, rfl, _⟩ := open_num hi j1
      obtain ⟨x2, rfl, _⟩ := open_num hi j2
      obtain ⟨L, hr, hl, hfn⟩ := open_flds ht hse hone hC hf hstr j3
      exact ⟨⟨⟨x0, x1, x2, L⟩, kn, bl, R⟩, k3, k6, rfl, hr, rr, hl, rl, hfn⟩
end Go.Proofs.Ytmaoajadcgoopaa
