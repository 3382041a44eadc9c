import Derived.Test.YteggfkekgdlecaaGreatDoorLiftPar
import Derived.Test.YteggfkekgdlecaaGreatDoorHelP
import Derived.Deep.Strs
namespace Go.Proofs.YteggfkekgdlecaaGreatDoor
open Go.ChangeShapes Go.WideShapes Go.ChangeAt Go.RowKit Go.Joins Go.Deep
set_option linter.unusedVariables false

/-- A FIELD THAT IS A LIST OF TEXTS. -/
theorem open_texts {H : Type} {enc : TypeId × Value → H} {P : Program} {W : World} {n : Nat} {t e : TypeId} {v : Value} {y : DataW H × List MemPlace}
    (ht : P.underlying t = some (.slice e)) (he : P.underlying e = some .string) (hc : P.cellsOf e = 1) (hf : DataW.trod enc P W 0 (fun _ => true) true n t [v] = some y) :
    ∃ L : List ByteArray, TRow W v L ∧ L.length ≤ maxLen ∧ ∀ j, (L.getD j ByteArray.empty).size ≤ maxLen := by
  rcases open_strs ht he hc hf with ⟨hcs, _⟩ | ⟨a, len, cap, m, Sx, hcs, _, hl, hm, hmm, _, hx⟩
  · have : v = .slice none 0 0 := by simpa using hcs
    rw [this]
    exact ⟨[], Or.inl ⟨rfl, none, 0, rfl⟩, by simp, fun j => by simp⟩
  · have : v = .slice (some a) len cap := by simpa using hcs
    rw [this]
    have hlm : len ≤ m := by rw [hmm]; split <;> omega
    have htl : ((List.range len).map Sx).length = len := by simp
    have hat : ∀ j, j < len → ((List.range len).map Sx).getD j ByteArray.empty = Sx j := fun j hj => by simp [List.getD, hj]
    refine ⟨(List.range len).map Sx, ?_, by rw [htl]; omega, fun j => ?_⟩
    · by_cases h0 : len = 0
      · subst h0
        exact Or.inl ⟨rfl, _, _, rfl⟩
      · obtain ⟨b, off, spot⟩ := a
        have hspot : spot = none := by simpa [Addr.add] using World.cell?_spot (hx 0 (by omega)).1
        subst hspot
        refine Or.inr ⟨b, off, cap, by rw [htl], ?_, by rw [htl]; exact ⟨hl, hm⟩, fun j hj => ?_⟩
        · have := (hx 0 (by omega)).1
          rw [add_plain] at this
          exact cell_ltL this
        · rw [htl] at hj
          have := (hx j (by omega)).1
          rw [add_plain] at this
          rw [this, hat j hj]
    · by_cases hj : j < len
      · rw [hat j hj]; exact (hx j (by omega)).2
      · rw [List.getD, List.getElem?_eq_none (by rw [htl]; omega)]; simp
theorem array18 {a : Array Value} (h : a.size = 18) : ∃ c0 c1 c2 c3 c4 c5 c6 c7 c8 c9 c10 c11 c12 c13 c14 c15 c16 c17, a = #[c0, c1, c2, c3, c4, c5, c6, c7, c8, c9, c10, c11, c12, c13, c14, c15, c16, c17] := by
  match a, h with
  | ⟨[c0, c1, c2, c3, c4, c5, c6, c7, c8, c9, c10, c11, c12, c13, c14, c15, c16, c17]⟩, _ => exact ⟨c0, c1, c2, c3, c4, c5, c6, c7, c8, c9, c10, c11, c12, c13, c14, c15, c16, c17, rfl⟩
set_option maxHeartbeats 2000000 in
/-- AN ARGUMENT THAT IS A HELLO. -/
theorem open_hel {H : Type} {enc : TypeId × Value → H} {P : Program} {W : World} {r : Reach} {base : Nat} {t tp ti tb ts tn tt e en et : TypeId} {g0 g1 g2 g3 g4 g5 f0 f1 f2 f3 f4 f5 f6 f7 f8 f9 f10 f11 f12 : Field} {v : Value} {d : DataW H} {p : List MemPlace}
    (hs : P.underlying t = some (.struct #[g0, g1, g2, g3, g4, g5])) (hC : P.cellsOf t = 18) (hg : (g0.offset = 0 ∧ g1.offset = 1 ∧ g2.offset = 2 ∧ g3.offset = 3 ∧ g4.offset = 4 ∧ g5.offset = 5) ∧ (g0.type = ti ∧ g1.type = ti ∧ g2.type = ts ∧ g3.type = tn ∧ g4.type = tt ∧ g5.type = tp))
    (hsp : P.underlying tp = some (.struct #[f0, f1, f2, f3, f4, f5, f6, f7, f8, f9, f10, f11, f12])) (hone : oneCellFields P #[f0, f1, f2, f3, f4, f5, f6, f7, f8, f9, f10, f11, f12] = true) (hf : f0.type = ti ∧ f1.type = ti ∧ f2.type = ti ∧ f3.type = ti ∧ f4.type = ti ∧ f5.type = ti ∧ f6.type = ti ∧ f7.type = ti ∧ f8.type = ti ∧ f9.type = tb ∧ f10.type = ts ∧ f11.type = ts ∧ f12.type = ts)
    (c1 : P.cellsOf ti = 1 ∧ P.cellsOf ts = 1 ∧ P.cellsOf tn = 1 ∧ P.cellsOf tt = 1 ∧ P.cellsOf tp = 13)
    (hi : P.underlying ti = some (.int .i64)) (hb : P.underlying tb = some .bool) (ht : P.underlying ts = some (.slice e)) (he : P.underlying e = some (.int .u8)) (hc : P.cellsOf e = 1) (hn : P.underlying tn = some (.slice en)) (hen : P.underlying en = some (.int .i64)) (hcn : P.cellsOf en = 1) (htt : P.underlying tt = some (.slice et)) (het : P.underlying et = some .string) (hct : P.cellsOf et = 1)
    (hval : Value.okWide P W r base t v) (h : DataW.Trod enc P W 0 (fun _ => true) true t v d p) :
    ∃ k : HE, HERow W v k ∧ k.small maxLen ∧ k.texts maxLen ∧ (Bytes k.rnd ∧ k.par.bytes) ∧ (∀ x ∈ k.vers, (Lit.int .i64 x).wf = true) := by
  obtain ⟨cs, rfl, hsz⟩ := okWide_struct hs hval
  obtain ⟨k0, k1, k2, k3, k4, k5, k6, k7, k8, k9, k10, k11, k12, k13, k14, k15, k16, k17, rfl⟩ := array18 (hsz.trans hC)
  obtain ⟨fuel, hx⟩ := h
  obtain ⟨xs, n, _, _, _, hlen, hq⟩ := DataW.trod_struct hs hx
  obtain ⟨⟨o0, o1, o2, o3, o4, o5⟩, ⟨y0, y1, y2, y3, y4, y5⟩⟩ := hg
  obtain ⟨ci, cs', cn, ct, cp⟩ := c1
  obtain ⟨t0, t1, t2, t3, t4, t5, t6, t7, t8, t9, t10, t11, t12⟩ := hf
  match xs, hlen, hq with
  | [z0, z1, z2, z3, z4, z5], _, hq =>
    have h0 : DataW.trod enc P W 0 (fun _ => true) true n ti [k0] = some z0 := by have := hq 0 g0 rfl; rw [o0, y0, ci] at this; simpa [Value.cells] using this
    have h1 : DataW.trod enc P W 0 (fun _ => true) true n ti [k1] = some z1 := by have := hq 1 g1 rfl; rw [o1, y1, ci] at this; simpa [Value.cells] using this
    have h2 : DataW.trod enc P W 0 (fun _ => true) true n ts [k2] = some z2 := by have := hq 2 g2 rfl; rw [o2, y2, cs'] at this; simpa [Value.cells] using this
    have h3 : DataW.trod enc P W 0 (fun _ => true) true n tn [k3] = some z3 := by have := hq 3 g3 rfl; rw [o3, y3, cn] at this; simpa [Value.cells] using this
    have h4 : DataW.trod enc P W 0 (fun _ => true) true n tt [k4] = some z4 := by have := hq 4 g4 rfl; rw [o4, y4, ct] at this; simpa [Value.cells] using this
    have h5 : DataW.trod enc P W 0 (fun _ => true) true n tp [k5, k6, k7, k8, k9, k10, k11, k12, k13, k14, k15, k16, k17] = some z5 := by have := hq 5 g5 rfl; rw [o5, y5, cp] at this; simpa [Value.cells] using this
    obtain ⟨b0, rfl, _⟩ := open_num hi h0
    obtain ⟨b1, rfl, _⟩ := open_num hi h1
    obtain ⟨x2, r2, l2, q2⟩ := open_field ht he hc h2
    obtain ⟨x3, r3, l3, q3⟩ := open_field hn hen hcn h3
    obtain ⟨x4, r4, l4, q4⟩ := open_texts htt het hct h4
    obtain ⟨us, m, _, _, _, ulen, ug⟩ := DataW.trod_struct hsp h5
    match us, ulen, ug with
    | [e0, e1, e2, e3, e4, e5, e6, e7, e8, e9, e10, e11, e12], _, ug =>
      obtain ⟨a0, d0⟩ := hone_of hone 0 f0 rfl
      obtain ⟨a1, d1⟩ := hone_of hone 1 f1 rfl
      obtain ⟨a2, d2⟩ := hone_of hone 2 f2 rfl
      obtain ⟨a3, d3⟩ := hone_of hone 3 f3 rfl
      obtain ⟨a4, d4⟩ := hone_of hone 4 f4 rfl
      obtain ⟨a5, d5⟩ := hone_of hone 5 f5 rfl
      obtain ⟨a6, d6⟩ := hone_of hone 6 f6 rfl
      obtain ⟨a7, d7⟩ := hone_of hone 7 f7 rfl
      obtain ⟨a8, d8⟩ := hone_of hone 8 f8 rfl
      obtain ⟨a9, d9⟩ := hone_of hone 9 f9 rfl
      obtain ⟨a10, d10⟩ := hone_of hone 10 f10 rfl
      obtain ⟨a11, d11⟩ := hone_of hone 11 f11 rfl
      obtain ⟨a12, d12⟩ := hone_of hone 12 f12 rfl
      have j0 : DataW.trod enc P W 0 (fun _ => true) true m f0.type [k5] = some e0 := by simpa [a0, d0] using ug 0 f0 rfl
      rw [t0] at j0
      have j1 : DataW.trod enc P W 0 (fun _ => true) true m f1.type [k6] = some e1 := by simpa [a1, d1] using ug 1 f1 rfl
      rw [t1] at j1
      have j2 : DataW.trod enc P W 0 (fun _ => true) true m f2.type [k7] = some e2 := by simpa [a2, d2] using ug 2 f2 rfl
      rw [t2] at j2
      have j3 : DataW.trod enc P W 0 (fun _ => true) true m f3.type [k8] = some e3 := by simpa [a3, d3] using ug 3 f3 rfl
      rw [t3] at j3
      have j4 : DataW.trod enc P W 0 (fun _ => true) true m f4.type [k9] = some e4 := by simpa [a4, d4] using ug 4 f4 rfl
      rw [t4] at j4
      have j5 : DataW.trod enc P W 0 (fun _ => true) true m f5.type [k10] = some e5 := by simpa [a5, d5] using ug 5 f5 rfl
      rw [t5] at j5
      have j6 : DataW.trod enc P W 0 (fun _ => true) true m f6.type [k11] = some e6 := by simpa [a6, d6] using ug 6 f6 rfl
      rw [t6] at j6
      have j7 : DataW.trod enc P W 0 (fun _ => true) true m f7.type [k12] = some e7 := by simpa [a7, d7] using ug 7 f7 rfl
      rw [t7] at j7
      have j8 : DataW.trod enc P W 0 (fun _ => true) true m f8.type [k13] = some e8 := by simpa [a8, d8] using ug 8 f8 rfl
      rw [t8] at j8
      have j9 : DataW.trod enc P W 0 (fun _ => true) true m f9.type [k14] = some e9 := by simpa [a9, d9] using ug 9 f9 rfl
      rw [t9] at j9
      have j10 : DataW.trod enc P W 0 (fun _ => true) true m f10.type [k15] = some e10 := by simpa [a10, d10] using ug 10 f10 rfl
      rw [t10] at j10
      have j11 : DataW.trod enc P W 0 (fun _ => true) true m f11.type [k16] = some e11 := by simpa [a11, d11] using ug 11 f11 rfl
      rw [t11] at j11
      have j12 : DataW.trod enc P W 0 (fun _ => true) true m f12.type [k17] = some e12 := by simpa [a12, d12] using ug 12 f12 rfl
      rw [t12] at j12
      obtain ⟨v0, rfl, _⟩ := open_num hi j0
      obtain ⟨v1, rfl, _⟩ := open_num hi j1
      obtain ⟨v2, rfl, _⟩ := open_num hi j2
      obtain ⟨v3, rfl, _⟩ := open_num hi j3
      obtain ⟨v4, rfl, _⟩ := open_num hi j4
      obtain ⟨v5, rfl, _⟩ := open_num hi j5
      obtain ⟨v6, rfl, _⟩ := open_num hi j6
      obtain ⟨v7, rfl, _⟩ := open_num hi j7
      obtain ⟨v8, rfl, _⟩ := open_num hi j8
      obtain ⟨bm, rfl⟩ := open_flag hb j9
      obtain ⟨x10, r10, l10, q10⟩ := open_field ht he hc j10
      obtain ⟨x11, r11, l11, q11⟩ := open_field ht he hc j11
      obtain ⟨x12, r12, l12, q12⟩ := open_field ht he hc j12
      exact ⟨⟨b0, b1, x2, x3, x4, ⟨v0, v1, v2, v3, v4, v5, v6, v7, v8, bm, x10, x11, x12⟩⟩, ⟨_, _, _, _, _, _, rfl, r2, r3, r4, r10, r11, r12⟩, ⟨l2, l3, l4, l10, l11, l12⟩, q4, ⟨bytes_of_wf q2, bytes_of_wf q10, bytes_of_wf q11, bytes_of_wf q12⟩, q3⟩
end Go.Proofs.YteggfkekgdlecaaGreatDoor
