import Derived.Test.YteggfkekgdlecaaGreatDoorLiftK
import Derived.Test.YteggfkekgdlecaaGreatDoorParP
namespace Go.Proofs.YteggfkekgdlecaaGreatDoor
open Go.ChangeShapes Go.WideShapes Go.ChangeAt Go.RowKit Go.Joins Go.Deep
set_option linter.unusedVariables false

theorem array13 {a : Array Value} (h : a.size = 13) : ∃ c0 c1 c2 c3 c4 c5 c6 c7 c8 c9 c10 c11 c12, a = #[c0, c1, c2, c3, c4, c5, c6, c7, c8, c9, c10, c11, c12] := by
  match a, h with
  | ⟨[c0, c1, c2, c3, c4, c5, c6, c7, c8, c9, c10, c11, c12]⟩, _ => exact ⟨c0, c1, c2, c3, c4, c5, c6, c7, c8, c9, c10, c11, c12, rfl⟩
/-- A bool that was read. -/
theorem open_flag {H : Type} {enc : TypeId × Value → H} {P : Program} {W : World} {t : TypeId} {n : Nat} {v : Value} {y : DataW H × List MemPlace} (hb : P.underlying t = some .bool) (h : DataW.trod enc P W 0 (fun _ => true) true n t [v] = some y) : ∃ b, v = .bool b := by
  obtain ⟨a, ha, _⟩ := DataW.trod_bool hb h
  exact ⟨a, by simpa using ha⟩
set_option maxHeartbeats 1000000 in
/-- AN ARGUMENT THAT IS PARAMETERS. -/
theorem open_par {H : Type} {enc : TypeId × Value → H} {P : Program} {W : World} {r : Reach} {base : Nat} {t ti tb ts e : TypeId} {f0 f1 f2 f3 f4 f5 f6 f7 f8 f9 f10 f11 f12 : Field} {v : Value} {d : DataW H} {p : List MemPlace}
    (hs : P.underlying t = some (.struct #[f0, f1, f2, f3, f4, f5, f6, f7, f8, f9, f10, f11, f12])) (hone : oneCellFields P #[f0, f1, f2, f3, f4, f5, f6, f7, f8, f9, f10, f11, f12] = true) (hC : P.cellsOf t = 13) (hf : f0.type = ti ∧ f1.type = ti ∧ f2.type = ti ∧ f3.type = ti ∧ f4.type = ti ∧ f5.type = ti ∧ f6.type = ti ∧ f7.type = ti ∧ f8.type = ti ∧ f9.type = tb ∧ f10.type = ts ∧ f11.type = ts ∧ f12.type = ts)
    (hi : P.underlying ti = some (.int .i64)) (hb : P.underlying tb = some .bool) (ht : P.underlying ts = some (.slice e)) (he : P.underlying e = some (.int .u8)) (hc : P.cellsOf e = 1) (hval : Value.okWide P W r base t v) (h : DataW.Trod enc P W 0 (fun _ => true) true t v d p) :
    ∃ k : PP, PPRow W v k ∧ k.small maxLen ∧ k.bytes ∧ k.wf := by
  obtain ⟨cs, rfl, hsz⟩ := okWide_struct hs hval
  obtain ⟨c0, c1, c2, c3, c4, c5, c6, c7, c8, c9, c10, c11, c12, rfl⟩ := array13 (hsz.trans hC)
  obtain ⟨fuel, hx⟩ := h
  obtain ⟨xs, n, _, _, _, hlen, hg⟩ := DataW.trod_struct hs hx
  obtain ⟨t0, t1, t2, t3, t4, t5, t6, t7, t8, t9, t10, t11, t12⟩ := hf
  match xs, hlen, hg with
  | [y0, y1, y2, y3, y4, y5, y6, y7, y8, y9, y10, y11, y12], _, hg =>
    obtain ⟨o0, k0⟩ := hone_of hone 0 f0 rfl
    obtain ⟨o1, k1⟩ := hone_of hone 1 f1 rfl
    obtain ⟨o2, k2⟩ := hone_of hone 2 f2 rfl
    obtain ⟨o3, k3⟩ := hone_of hone 3 f3 rfl
    obtain ⟨o4, k4⟩ := hone_of hone 4 f4 rfl
    obtain ⟨o5, k5⟩ := hone_of hone 5 f5 rfl
    obtain ⟨o6, k6⟩ := hone_of hone 6 f6 rfl
    obtain ⟨o7, k7⟩ := hone_of hone 7 f7 rfl
    obtain ⟨o8, k8⟩ := hone_of hone 8 f8 rfl
    obtain ⟨o9, k9⟩ := hone_of hone 9 f9 rfl
    obtain ⟨o10, k10⟩ := hone_of hone 10 f10 rfl
    obtain ⟨o11, k11⟩ := hone_of hone 11 f11 rfl
    obtain ⟨o12, k12⟩ := hone_of hone 12 f12 rfl
    have h0 : DataW.trod enc P W 0 (fun _ => true) true n f0.type [c0] = some y0 := by simpa [Value.cells, o0, k0] using hg 0 f0 rfl
    rw [t0] at h0
    have h1 : DataW.trod enc P W 0 (fun _ => true) true n f1.type [c1] = some y1 := by simpa [Value.cells, o1, k1] using hg 1 f1 rfl
    rw [t1] at h1
    have h2 : DataW.trod enc P W 0 (fun _ => true) true n f2.type [c2] = some y2 := by simpa [Value.cells, o2, k2] using hg 2 f2 rfl
    rw [t2] at h2
    have h3 : DataW.trod enc P W 0 (fun _ => true) true n f3.type [c3] = some y3 := by simpa [Value.cells, o3, k3] using hg 3 f3 rfl
    rw [t3] at h3
    have h4 : DataW.trod enc P W 0 (fun _ => true) true n f4.type [c4] = some y4 := by simpa [Value.cells, o4, k4] using hg 4 f4 rfl
    rw [t4] at h4
    have h5 : DataW.trod enc P W 0 (fun _ => true) true n f5.type [c5] = some y5 := by simpa [Value.cells, o5, k5] using hg 5 f5 rfl
    rw [t5] at h5
    have h6 : DataW.trod enc P W 0 (fun _ => true) true n f6.type [c6] = some y6 := by simpa [Value.cells, o6, k6] using hg 6 f6 rfl
    rw [t6] at h6
    have h7 : DataW.trod enc P W 0 (fun _ => true) true n f7.type [c7] = some y7 := by simpa [Value.cells, o7, k7] using hg 7 f7 rfl
    rw [t7] at h7
    have h8 : DataW.trod enc P W 0 (fun _ => true) true n f8.type [c8] = some y8 := by simpa [Value.cells, o8, k8] using hg 8 f8 rfl
    rw [t8] at h8
    have h9 : DataW.trod enc P W 0 (fun _ => true) true n f9.type [c9] = some y9 := by simpa [Value.cells, o9, k9] using hg 9 f9 rfl
    rw [t9] at h9
    have h10 : DataW.trod enc P W 0 (fun _ => true) true n f10.type [c10] = some y10 := by simpa [Value.cells, o10, k10] using hg 10 f10 rfl
    rw [t10] at h10
    have h11 : DataW.trod enc P W 0 (fun _ => true) true n f11.type [c11] = some y11 := by simpa [Value.cells, o11, k11] using hg 11 f11 rfl
    rw [t11] at h11
    have h12 : DataW.trod enc P W 0 (fun _ => true) true n f12.type [c12] = some y12 := by simpa [Value.cells, o12, k12] using hg 12 f12 rfl
    rw [t12] at h12
    obtain ⟨b0, rfl, w0⟩ := open_num hi h0
    obtain ⟨b1, rfl, w1⟩ := open_num hi h1
    obtain ⟨b2, rfl, w2⟩ := open_num hi h2
    obtain ⟨b3, rfl, w3⟩ := open_num hi h3
    obtain ⟨b4, rfl, w4⟩ := open_num hi h4
    obtain ⟨b5, rfl, w5⟩ := open_num hi h5
    obtain ⟨b6, rfl, w6⟩ := open_num hi h6
    obtain ⟨b7, rfl, w7⟩ := open_num hi h7
    obtain ⟨b8, rfl, w8⟩ := open_num hi h8
    obtain ⟨bm, rfl⟩ := open_flag hb h9
    obtain ⟨x10, r10, l10, q10⟩ := open_field ht he hc h10
    obtain ⟨x11, r11, l11, q11⟩ := open_field ht he hc h11
    obtain ⟨x12, r12, l12, q12⟩ := open_field ht he hc h12
    exact ⟨⟨b0, b1, b2, b3, b4, b5, b6, b7, b8, bm, x10, x11, x12⟩, ⟨c10, c11, c12, rfl, r10, r11, r12⟩, ⟨l10, l11, l12⟩, ⟨bytes_of_wf q10, bytes_of_wf q11, bytes_of_wf q12⟩, ⟨w0, w1, w2, w3, w4, w5, w6, w7, w8⟩⟩
end Go.Proofs.YteggfkekgdlecaaGreatDoor
