import Derived.Test.YtiiefhpkkjocbakDoorLiftK
import Derived.Test.YtiiefhpkkjocbakDoorHead8
namespace Go.Proofs.YtiiefhpkkjocbakDoor
open Go.ChangeShapes Go.WideShapes Go.ChangeAt Go.RowKit Go.Joins Go.Deep

/-- A FIELD THAT IS AN INTEGER. -/
theorem open_num {H : Type} {enc : TypeId × Value → H} {P : Program} {W : World} {n : Nat} {t : TypeId} {v : Value} {y : DataW H × List MemPlace} (ht : P.underlying t = some (.int .i64)) (hf : DataW.trod enc P W 0 (fun _ => true) true n t [v] = some y) :
    ∃ a : Int, v = .int .i64 a ∧ (Lit.int .i64 a).wf = true := by
  obtain ⟨a, ha, _, hw⟩ := DataW.trod_int ht hf
  exact ⟨a, by simpa using ha, hw⟩
theorem array8 {α : Type} {cs : Array α} (h : cs.size = 8) : ∃ c0 c1 c2 c3 c4 c5 c6 c7, cs = #[c0, c1, c2, c3, c4, c5, c6, c7] := by
  obtain ⟨l⟩ := cs
  match l, h with
  | [a, b, c, d, e, f, g, i], _ => exact ⟨a, b, c, d, e, f, g, i, rfl⟩
/-- AN ARGUMENT THAT IS A HEADER. -/
theorem open_head {H : Type} {enc : TypeId × Value → H} {P : Program} {W : World} {r : Reach} {base : Nat} {t ti ts e : TypeId} {f0 f1 f2 f3 f4 f5 f6 f7 : Field} {v : Value} {d : DataW H} {p : List MemPlace}
    (hs : P.underlying t = some (.struct #[f0, f1, f2, f3, f4, f5, f6, f7])) (hone : oneCellFields P #[f0, f1, f2, f3, f4, f5, f6, f7] = true) (hC : P.cellsOf t = 8) (hf : f0.type = ti ∧ f1.type = ti ∧ f2.type = ts ∧ f3.type = ts ∧ f4.type = ts ∧ f5.type = ti ∧ f6.type = ti ∧ f7.type = ti)
    (hi : P.underlying ti = some (.int .i64)) (ht : P.underlying ts = some (.slice e)) (he : P.underlying e = some (.int .u8)) (hc : P.cellsOf e = 1) (hval : Value.okWide P W r base t v) (h : DataW.Trod enc P W 0 (fun _ => true) true t v d p) :
    ∃ k : H8, HRow W v k ∧ k.small maxLen ∧ k.bytes := by
  obtain ⟨cs, rfl, hsz⟩ := okWide_struct hs hval
  obtain ⟨c0, c1, c2, c3, c4, c5, c6, c7, rfl⟩ := array8 (hsz.trans hC)
  obtain ⟨fuel, hx⟩ := h
  obtain ⟨xs, n, _, _, _, hlen, hg⟩ := DataW.trod_struct hs hx
  obtain ⟨t0, t1, t2, t3, t4, t5, t6, t7⟩ := hf
  match xs, hlen, hg with
  | [y0, y1, y2, y3, y4, y5, y6, y7], _, hg =>
    obtain ⟨o0, k0⟩ := hone_of hone 0 f0 rfl
    obtain ⟨o1, k1⟩ := hone_of hone 1 f1 rfl
    obtain ⟨o2, k2⟩ := hone_of hone 2 f2 rfl
    obtain ⟨o3, k3⟩ := hone_of hone 3 f3 rfl
    obtain ⟨o4, k4⟩ := hone_of hone 4 f4 rfl
    obtain ⟨o5, k5⟩ := hone_of hone 5 f5 rfl
    obtain ⟨o6, k6⟩ := hone_of hone 6 f6 rfl
    obtain ⟨o7, k7⟩ := hone_of hone 7 f7 rfl
    have h0 : DataW.trod enc P W 0 (fun _ => true) true n f0.type [c0] = some y0 := by simpa [Value.cells, o0, k0] using hg 0 f0 rfl
    have h1 : DataW.trod enc P W 0 (fun _ => true) true n f1.type [c1] = some y1 := by simpa [Value.cells, o1, k1] using hg 1 f1 rfl
    have h2 : DataW.trod enc P W 0 (fun _ => true) true n f2.type [c2] = some y2 := by simpa [Value.cells, o2, k2] using hg 2 f2 rfl
    have h3 : DataW.trod enc P W 0 (fun _ => true) true n f3.type [c3] = some y3 := by simpa [Value.cells, o3, k3] using hg 3 f3 rfl
    have h4 : DataW.trod enc P W 0 (fun _ => true) true n f4.type [c4] = some y4 := by simpa [Value.cells, o4, k4] using hg 4 f4 rfl
    have h5 : DataW.trod enc P W 0 (fun _ => true) true n f5.type [c5] = some y5 := by simpa [Value.cells, o5, k5] using hg 5 f5 rfl
    have h6 : DataW.trod enc P W 0 (fun _ => true) true n f6.type [c6] = some y6 := by simpa [Value.cells, o6, k6] using hg 6 f6 rfl
    have h7 : DataW.trod enc P W 0 (fun _ => true) true n f7.type [c7] = some y7 := by simpa [Value.cells, o7, k7] using hg 7 f7 rfl
    rw [t0] at h0
    rw [t1] at h1
    rw [t2] at h2
    rw [t3] at h3
    rw [t4] at h4
    rw [t5] at h5
    rw [t6] at h6
    rw [t7] at h7
    obtain ⟨a0, rfl, _⟩ := open_num hi h0
    obtain ⟨a1, rfl, _⟩ := open_num hi h1
    obtain ⟨a5, rfl, _⟩ := open_num hi h5
    obtain ⟨a6, rfl, _⟩ := open_num hi h6
    obtain ⟨a7, rfl, _⟩ := open_num hi h7
    obtain ⟨x2, r2, l2, b2⟩ := open_field ht he hc h2
    obtain ⟨x3, r3, l3, b3⟩ := open_field ht he hc h3
    obtain ⟨x4, r4, l4, b4⟩ := open_field ht he hc h4
    exact ⟨⟨a0, a1, x2, x3, x4, a5, a6, a7⟩, ⟨c2, c3, c4, rfl, r2, r3, r4⟩, ⟨l2, l3, l4⟩, ⟨bytes_of_wf b2, bytes_of_wf b3, bytes_of_wf b4⟩⟩
end Go.Proofs.YtiiefhpkkjocbakDoor
