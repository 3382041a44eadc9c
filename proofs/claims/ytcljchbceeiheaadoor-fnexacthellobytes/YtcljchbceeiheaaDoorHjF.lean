import Derived.Test.YtcljchbceeiheaaDoorRows
import Derived.WalkKit
import Derived.ProofKit
import Derived.OpenShut
import Derived.OpenVars
import Derived.Deep.DeepHandedRow
import Derived.Test.YtcljchbceeiheaaDoorMem
import Derived.Lib.SmallJoins
import Derived.ChangeMaps5
import Derived.Test.YtcljchbceeiheaaDoorKeys
import Derived.Test.YtcljchbceeiheaaDoorParP
import Derived.Test.YtcljchbceeiheaaDoorHelP
import Derived.Deep.Strs
namespace Go.Proofs.YtcljchbceeiheaaDoor
open Go.ChangeShapes Go.WideShapes Go.ChangeAt Go.RowKit

/-- Each parameter's type can be read, and is a row of the table: one closed fact. -/
def typesRowed (P : Program) (ts : List TypeId) : Bool := ts.all fun t => P.readableRec t && decide (t < P.types.size)

theorem below_trodAll {H : Type} {enc : TypeId × Value → H} {P : Program} (hl : laidOutB P = true) {W W' : World} (hb : Below W.heap.size W W') :
    ∀ {ts : List TypeId} {vs : List Value} {ds : List (DataW H)} {ps : List MemPlace}, typesRowed P ts = true → DataW.TrodAll enc P W 0 (fun _ => true) true ts vs ds ps → (∀ x ∈ ps, x.block < W.heap.size) →
      DataW.TrodAll enc P W' 0 (fun b => decide (b < W.heap.size)) true ts vs ds ps
  | [], [], [], _, _, h, _ => h
  | [], _ :: _, _, _, _, h, _ => h.elim
  | [], [], _ :: _, _, _, h, _ => h.elim
  | _ :: _, [], _, _, _, h, _ => h.elim
  | _ :: _, _ :: _, [], _, _, h, _ => h.elim
  | t :: ts, v :: vs, d :: ds, ps, hr, h, hlt => by
    obtain ⟨p, q, h1, h2, rfl⟩ := h
    simp only [typesRowed, List.all_cons, Bool.and_eq_true, decide_eq_true_eq] at hr
    exact ⟨p, q, Below.trod hl hr.1.1 hr.1.2 h1 hb (fun x hx => hlt x (by simp [hx])), below_trodAll hl hb (by simpa [typesRowed] using hr.2) h2 (fun x hx => hlt x (by simp [hx])), rfl⟩

/-- WHAT A LAW's ROW ASKS, out of 'it returned true, and of what was there before nothing has turned'. -/
theorem law_post {H : Type} {enc : TypeId × Value → H} {P : Program} {f : Func} {s : ChangeSpec} {W W' : World} {args : Array Value} {ds gs : List (DataW H)} {before : List MemPlace} {tb : TypeId}
    (hl : laidOutB P = true) (hp : typesRowed P f.params.toList = true) (hv : varsRowed P s.vars = true) (hr : f.resultTypes = #[tb]) (hu : P.underlying tb = some .bool)
    (hW : DataW.Whole enc P f.params.toList s.vars false W args.toList ds gs before)
    (hs : s.fn H (ds ++ gs) = { results := [.lit (.bool true)], args := ds, vars := gs }) (hb : Below W.heap.size W W') :
    s.post enc P f false true false false W args (.bool true) W' := by
  have hW' := hW
  obtain ⟨p, q, hA, hV, rfl, hfz, hnd⟩ := hW
  have hlt : ∀ x ∈ p ++ q, x.block < W.heap.size := fun x hx => hW'.lt x hx
  refine ⟨ds, gs, p ++ q, [], p, q, hW', ?_, ?_, ?_, hb.frame _, fun h => by cases h⟩
  · rw [hs, hr]
    exact trodAll_mk1 (shut_bool hu _)
  · rw [hs]
    exact below_trodAll hl hb hp hA (fun x hx => hlt x (by simp [hx]))
  · rw [hs]
    exact Below.trodVars hl hb hv hV

theorem cell_ltL {w : World} {b o : Nat} {u : Value} (h : w.cell? ⟨b, o, none⟩ = some u) : b < w.heap.size := by
  refine Nat.lt_of_not_le (fun hn => ?_)
  have e : w.heap[b]? = none := Array.getElem?_eq_none (by omega)
  simp [World.cell?, e] at h

/-- AN ARGUMENT THAT IS A SLICE OF NUMBERS: it reads as some numbers of its kind. -/
theorem open_row {H : Type} {enc : TypeId × Value → H} {P : Program} {W : World} {r : Reach} {base : Nat} {t e : TypeId} {k : IntKind} {v : Value} {d : DataW H} {p : List MemPlace}
    (ht : P.underlying t = some (.slice e)) (he : P.underlying e = some (.int k)) (hc : P.cellsOf e = 1) (hval : Value.okWide P W r base t v) (h : DataW.Trod enc P W 0 (fun _ => true) true t v d p) :
    ∃ xs : List Int, Row W k v xs ∧ xs.length ≤ maxLen ∧ ∀ x ∈ xs, (Lit.int k x).wf = true := by
  obtain ⟨a0, len, cap, rfl⟩ := okWide_slice ht hval
  obtain ⟨fuel, hf⟩ := h
  rcases open_ints ht he hc hf with ⟨hcs, hx⟩ | ⟨a, len', cap', zs, hcs, _, hl, hm, hz, hx, hcell, hwz⟩
  · have : Value.slice a0 len cap = .slice none 0 0 := by simpa [Value.cells] using hcs
    rw [this]
    exact ⟨[], Or.inl ⟨rfl, none, 0, rfl⟩, by simp, by simp⟩
  · have : Value.slice a0 len cap = .slice (some a) len' cap' := by simpa [Value.cells] using hcs
    rw [this]
    have hzl : zs.length = cap' := by simpa using hz
    have htl : (zs.take len').length = len' := by rw [List.length_take]; omega
    refine ⟨zs.take len', ?_, by rw [htl]; omega, fun x hx => hwz x (List.mem_of_mem_take hx)⟩
    by_cases h0 : len' = 0
    · subst h0
      exact Or.inl ⟨by simp, _, _, rfl⟩
    · obtain ⟨b, off, rfl, hcc⟩ := ints_at hcell (by omega)
      refine Or.inr ⟨b, off, cap', by rw [htl], cell_ltL (hcc 0 (by omega)), by rw [htl]; exact ⟨hl, hm⟩, fun j hj => ?_⟩
      rw [htl] at hj
      rw [hcc j (by omega)]
      simp [List.getD, hj]
end Go.Proofs.YtcljchbceeiheaaDoor

namespace Go.Proofs.YtcljchbceeiheaaDoor
open Go.ChangeShapes Go.WideShapes Go.ChangeAt Go.RowKit Go.Joins Go.Deep

/-- A FIELD THAT IS A SLICE OF NUMBERS. -/
theorem open_field {H : Type} {enc : TypeId × Value → H} {P : Program} {W : World} {n : Nat} {t e : TypeId} {k : IntKind} {v : Value} {y : DataW H × List MemPlace}
    (ht : P.underlying t = some (.slice e)) (he : P.underlying e = some (.int k)) (hc : P.cellsOf e = 1) (hf : DataW.trod enc P W 0 (fun _ => true) true n t [v] = some y) :
    ∃ xs : List Int, Row W k v xs ∧ xs.length ≤ maxLen ∧ ∀ x ∈ xs, (Lit.int k x).wf = true := by
  rcases open_ints ht he hc hf with ⟨hcs, hx⟩ | ⟨a, len', cap', zs, hcs, _, hl, hm, hz, hx, hcell, hwz⟩
  · have : v = .slice none 0 0 := by simpa using hcs
    rw [this]
    exact ⟨[], Or.inl ⟨rfl, none, 0, rfl⟩, by simp, by simp⟩
  · have : v = .slice (some a) len' cap' := by simpa using hcs
    rw [this]
    have hzl : zs.length = cap' := by simpa using hz
    have htl : (zs.take len').length = len' := by rw [List.length_take]; omega
    refine ⟨zs.take len', ?_, by rw [htl]; omega, fun x hx => hwz x (List.mem_of_mem_take hx)⟩
    by_cases h0 : len' = 0
    · subst h0
      exact Or.inl ⟨by simp, _, _, rfl⟩
    · obtain ⟨b, off, rfl, hcc⟩ := ints_at hcell (by omega)
      refine Or.inr ⟨b, off, cap', by rw [htl], cell_ltL (hcc 0 (by omega)), by rw [htl]; exact ⟨hl, hm⟩, fun j hj => ?_⟩
      rw [htl] at hj
      rw [hcc j (by omega)]
      simp [List.getD, hj]

/-- A FIELD THAT IS AN INTEGER. -/
theorem open_num {H : Type} {enc : TypeId × Value → H} {P : Program} {W : World} {n : Nat} {t : TypeId} {v : Value} {y : DataW H × List MemPlace} (ht : P.underlying t = some (.int .i64)) (hf : DataW.trod enc P W 0 (fun _ => true) true n t [v] = some y) :
    ∃ a : Int, v = .int .i64 a ∧ (Lit.int .i64 a).wf = true := by
  obtain ⟨a, ha, _, hw⟩ := DataW.trod_int ht hf
  exact ⟨a, by simpa using ha, hw⟩
theorem array8 {α : Type} {cs : Array α} (h : cs.size = 8) : ∃ c0 c1 c2 c3 c4 c5 c6 c7, cs = #[c0, c1, c2, c3, c4, c5, c6, c7] := by
  obtain ⟨l⟩ := cs
  match l, h with
  | [a, b, c, d, e, f, g, i], _ => exact ⟨a, b, c, d, e, f, g, i, rfl⟩
end Go.Proofs.YtcljchbceeiheaaDoor

namespace Go.Proofs.YtcljchbceeiheaaDoor
open Go.ChangeShapes Go.WideShapes Go.ChangeAt Go.RowKit Go.Joins Go.Deep

/-- AN ARGUMENT THAT IS KEYS. -/
theorem open_keys {H : Type} {enc : TypeId × Value → H} {P : Program} {W : World} {r : Reach} {base : Nat} {t ts e : TypeId} {f0 f1 f2 f3 : Field} {v : Value} {d : DataW H} {p : List MemPlace}
    (hs : P.underlying t = some (.struct #[f0, f1, f2, f3])) (hone : oneCellFields P #[f0, f1, f2, f3] = true) (hC : P.cellsOf t = 4) (hf : f0.type = ts ∧ f1.type = ts ∧ f2.type = ts ∧ f3.type = ts)
    (ht : P.underlying ts = some (.slice e)) (he : P.underlying e = some (.int .u8)) (hc : P.cellsOf e = 1) (hval : Value.okWide P W r base t v) (h : DataW.Trod enc P W 0 (fun _ => true) true t v d p) :
    ∃ k : K4, KRow W v k ∧ k.small maxLen ∧ k.bytes := by
  obtain ⟨v0, v1, v2, v3, y0, y1, y2, y3, n, rfl, _, _, h0, h1, h2, h3⟩ := open_agg4 hs hone hC hval h
  rw [hf.1] at h0
  rw [hf.2.1] at h1
  rw [hf.2.2.1] at h2
  rw [hf.2.2.2] at h3
  obtain ⟨x0, r0, l0, b0⟩ := open_field ht he hc h0
  obtain ⟨x1, r1, l1, b1⟩ := open_field ht he hc h1
  obtain ⟨x2, r2, l2, b2⟩ := open_field ht he hc h2
  obtain ⟨x3, r3, l3, b3⟩ := open_field ht he hc h3
  exact ⟨⟨x0, x1, x2, x3⟩, ⟨v0, v1, v2, v3, rfl, r0, r1, r2, r3⟩, ⟨l0, l1, l2, l3⟩, ⟨bytes_of_wf b0, bytes_of_wf b1, bytes_of_wf b2, bytes_of_wf b3⟩⟩
end Go.Proofs.YtcljchbceeiheaaDoor

namespace Go.Proofs.YtcljchbceeiheaaDoor
open Go.ChangeShapes Go.WideShapes Go.ChangeAt Go.RowKit Go.Joins Go.Deep
set_option linter.unusedVariables false

theorem array13 {a : Array Value} (h : a.size = 13) : ∃ c0 c1 c2 c3 c4 c5 c6 c7 c8 c9 c10 c11 c12, a = #[c0, c1, c2, c3, c4, c5, c6, c7, c8, c9, c10, c11, c12] := by
  match a, h with
  | ⟨[c0, c1, c2, c3, c4, c5, c6, c7, c8, c9, c10, c11, c12]⟩, _ => exact ⟨c0, c1, c2, c3, c4, c5, c6, c7, c8, c9, c10, c11, c12, rfl⟩
/-- A bool that was read. -/
theorem open_flag {H : Type} {enc : TypeId × Value → H} {P : Program} {W : World} {t : TypeId} {n : Nat} {v : Value} {y : DataW H × List MemPlace} (hb : P.underlying t = some .bool) (h : DataW.trod enc P W 0 (fun _ => true) true n t [v] = some y) : ∃ b, v = .bool b := by
  obtain ⟨a, ha, _⟩ := DataW.trod_bool hb h
  exact ⟨a, by simpa using ha⟩
set_option maxHeartbeats 1000000 in
/-- AN ARGUMENT THAT IS PARAMETERS. -/
theorem open_par {H : Type} {enc : TypeId × Value → H} {P : Program} {W : World} {r : Reach} {base : Nat} {t ti tb ts e : TypeId} {f0 f1 f2 f3 f4 f5 f6 f7 f8 f9 f10 f11 f12 : Field} {v : Value} {d : DataW H} {p : List MemPlace}
    (hs : P.underlying t = some (.struct #[f0, f1, f2, f3, f4, f5, f6, f7, f8, f9, f10, f11, f12])) (hone : oneCellFields P #[f0, f1, f2, f3, f4, f5, f6, f7, f8, f9, f10, f11, f12] = true) (hC : P.cellsOf t = 13) (hf : f0.type = ti ∧ f1.type = ti ∧ f2.type = ti ∧ f3.type = ti ∧ f4.type = ti ∧ f5.type = ti ∧ f6.type = ti ∧ f7.type = ti ∧ f8.type = ti ∧ f9.type = tb ∧ f10.type = ts ∧ f11.type = ts ∧ f12.type = ts)
    (hi : P.underlying ti = some (.int .i64)) (hb : P.underlying tb = some .bool) (ht : P.underlying ts = some (.slice e)) (he : P.underlying e = some (.int .u8)) (hc : P.cellsOf e = 1) (hval : Value.okWide P W r base t v) (h : DataW.Trod enc P W 0 (fun _ => true) true t v d p) :
    ∃ k : PP, PPRow W v k ∧ k.small maxLen ∧ k.bytes ∧ k.wf := by
  obtain ⟨cs, rfl, hsz⟩ := okWide_struct hs hval
  obtain ⟨c0, c1, c2, c3, c4, c5, c6, c7, c8, c9, c10, c11, c12, rfl⟩ := array13 (hsz.trans hC)
  obtain ⟨fuel, hx⟩ := h
  obtain ⟨xs, n, _, _, _, hlen, hg⟩ := DataW.trod_struct hs hx
  obtain ⟨t0, t1, t2, t3, t4, t5, t6, t7, t8, t9, t10, t11, t12⟩ := hf
  match xs, hlen, hg with
  | [y0, y1, y2, y3, y4, y5, y6, y7, y8, y9, y10, y11, y12], _, hg =>
    obtain ⟨o0, k0⟩ := hone_of hone 0 f0 rfl
    obtain ⟨o1, k1⟩ := hone_of hone 1 f1 rfl
    obtain ⟨o2, k2⟩ := hone_of hone 2 f2 rfl
    obtain ⟨o3, k3⟩ := hone_of hone 3 f3 rfl
    obtain ⟨o4, k4⟩ := hone_of hone 4 f4 rfl
    obtain ⟨o5, k5⟩ := hone_of hone 5 f5 rfl
    obtain ⟨o6, k6⟩ := hone_of hone 6 f6 rfl
    obtain ⟨o7, k7⟩ := hone_of hone 7 f7 rfl
    obtain ⟨o8, k8⟩ := hone_of hone 8 f8 rfl
    obtain ⟨o9, k9⟩ := hone_of hone 9 f9 rfl
    obtain ⟨o10, k10⟩ := hone_of hone 10 f10 rfl
    obtain ⟨o11, k11⟩ := hone_of hone 11 f11 rfl
    obtain ⟨o12, k12⟩ := hone_of hone 12 f12 rfl
    have h0 : DataW.trod enc P W 0 (fun _ => true) true n f0.type [c0] = some y0 := by simpa [Value.cells, o0, k0] using hg 0 f0 rfl
    rw [t0] at h0
    have h1 : DataW.trod enc P W 0 (fun _ => true) true n f1.type [c1] = some y1 := by simpa [Value.cells, o1, k1] using hg 1 f1 rfl
    rw [t1] at h1
    have h2 : DataW.trod enc P W 0 (fun _ => true) true n f2.type [c2] = some y2 := by simpa [Value.cells, o2, k2] using hg 2 f2 rfl
    rw [t2] at h2
    have h3 : DataW.trod enc P W 0 (fun _ => true) true n f3.type [c3] = some y3 := by simpa [Value.cells, o3, k3] using hg 3 f3 rfl
    rw [t3] at h3
    have h4 : DataW.trod enc P W 0 (fun _ => true) true n f4.type [c4] = some y4 := by simpa [Value.cells, o4, k4] using hg 4 f4 rfl
    rw [t4] at h4
    have h5 : DataW.trod enc P W 0 (fun _ => true) true n f5.type [c5] = some y5 := by simpa [Value.cells, o5, k5] using hg 5 f5 rfl
    rw [t5] at h5
    have h6 : DataW.trod enc P W 0 (fun _ => true) true n f6.type [c6] = some y6 := by simpa [Value.cells, o6, k6] using hg 6 f6 rfl
    rw [t6] at h6
    have h7 : DataW.trod enc P W 0 (fun _ => true) true n f7.type [c7] = some y7 := by simpa [Value.cells, o7, k7] using hg 7 f7 rfl
    rw [t7] at h7
    have h8 : DataW.trod enc P W 0 (fun _ => true) true n f8.type [c8] = some y8 := by simpa [Value.cells, o8, k8] using hg 8 f8 rfl
    rw [t8] at h8
    have h9 : DataW.trod enc P W 0 (fun _ => true) true n f9.type [c9] = some y9 := by simpa [Value.cells, o9, k9] using hg 9 f9 rfl
    rw [t9] at h9
    have h10 : DataW.trod enc P W 0 (fun _ => true) true n f10.type [c10] = some y10 := by simpa [Value.cells, o10, k10] using hg 10 f10 rfl
    rw [t10] at h10
    have h11 : DataW.trod enc P W 0 (fun _ => true) true n f11.type [c11] = some y11 := by simpa [Value.cells, o11, k11] using hg 11 f11 rfl
    rw [t11] at h11
    have h12 : DataW.trod enc P W 0 (fun _ => true) true n f12.type [c12] = some y12 := by simpa [Value.cells, o12, k12] using hg 12 f12 rfl
    rw [t12] at h12
    obtain ⟨b0, rfl, w0⟩ := open_num hi h0
    obtain ⟨b1, rfl, w1⟩ := open_num hi h1
    obtain ⟨b2, rfl, w2⟩ := open_num hi h2
    obtain ⟨b3, rfl, w3⟩ := open_num hi h3
    obtain ⟨b4, rfl, w4⟩ := open_num hi h4
    obtain ⟨b5, rfl, w5⟩ := open_num hi h5
    obtain ⟨b6, rfl, w6⟩ := open_num hi h6
    obtain ⟨b7, rfl, w7⟩ := open_num hi h7
    obtain ⟨b8, rfl, w8⟩ := open_num hi h8
    obtain ⟨bm, rfl⟩ := open_flag hb h9
    obtain ⟨x10, r10, l10, q10⟩ := open_field ht he hc h10
    obtain ⟨x11, r11, l11, q11⟩ := open_field ht he hc h11
    obtain ⟨x12, r12, l12, q12⟩ := open_field ht he hc h12
    exact ⟨⟨b0, b1, b2, b3, b4, b5, b6, b7, b8, bm, x10, x11, x12⟩, ⟨c10, c11, c12, rfl, r10, r11, r12⟩, ⟨l10, l11, l12⟩, ⟨bytes_of_wf q10, bytes_of_wf q11, bytes_of_wf q12⟩, ⟨w0, w1, w2, w3, w4, w5, w6, w7, w8⟩⟩
end Go.Proofs.YtcljchbceeiheaaDoor

namespace Go.Proofs.YtcljchbceeiheaaDoor
open Go.ChangeShapes Go.WideShapes Go.ChangeAt Go.RowKit Go.Joins Go.Deep
set_option linter.unusedVariables false

/-- A FIELD THAT IS A LIST OF TEXTS. -/
theorem open_texts {H : Type} {enc : TypeId × Value → H} {P : Program} {W : World} {n : Nat} {t e : TypeId} {v : Value} {y : DataW H × List MemPlace}
    (ht : P.underlying t = some (.slice e)) (he : P.underlying e = some .string) (hc : P.cellsOf e = 1) (hf : DataW.trod enc P W 0 (fun _ => true) true n t [v] = some y) :
    ∃ L : List ByteArray, TRow W v L ∧ L.length ≤ maxLen ∧ ∀ j, (L.getD j ByteArray.empty).size ≤ maxLen := by
  rcases open_strs ht he hc hf with ⟨hcs, _⟩ | ⟨a, len, cap, m, Sx, hcs, _, hl, hm, hmm, _, hx⟩
  · have : v = .slice none 0 0 := by simpa using hcs
    rw [this]
    exact ⟨[], Or.inl ⟨rfl, none, 0, rfl⟩, by simp, fun j => by simp⟩
  · have : v = .slice (some a) len cap := by simpa using hcs
    rw [this]
    have hlm : len ≤ m := by rw [hmm]; split <;> omega
    have htl : ((List.range len).map Sx).length = len := by simp
    have hat : ∀ j, j < len → ((List.range len).map Sx).getD j ByteArray.empty = Sx j := fun j hj => by simp [List.getD, hj]
    refine ⟨(List.range len).map Sx, ?_, by rw [htl]; omega, fun j => ?_⟩
    · by_cases h0 : len = 0
      · subst h0
        exact Or.inl ⟨rfl, _, _, rfl⟩
      · obtain ⟨b, off, spot⟩ := a
        have hspot : spot = none := by simpa [Addr.add] using World.cell?_spot (hx 0 (by omega)).1
        subst hspot
        refine Or.inr ⟨b, off, cap, by rw [htl], ?_, by rw [htl]; exact ⟨hl, hm⟩, fun j hj => ?_⟩
        · have := (hx 0 (by omega)).1
          rw [add_plain] at this
          exact cell_ltL this
        · rw [htl] at hj
          have := (hx j (by omega)).1
          rw [add_plain] at this
          rw [this, hat j hj]
    · by_cases hj : j < len
      · rw [hat j hj]; exact (hx j (by omega)).2
      · rw [List.getD, List.getElem?_eq_none (by rw [htl]; omega)]; simp
theorem array18 {a : Array Value} (h : a.size = 18) : ∃ c0 c1 c2 c3 c4 c5 c6 c7 c8 c9 c10 c11 c12 c13 c14 c15 c16 c17, a = #[c0, c1, c2, c3, c4, c5, c6, c7, c8, c9, c10, c11, c12, c13, c14, c15, c16, c17] := by
  match a, h with
  | ⟨[c0, c1, c2, c3, c4, c5, c6, c7, c8, c9, c10, c11, c12, c13, c14, c15, c16, c17]⟩, _ => exact ⟨c0, c1, c2, c3, c4, c5, c6, c7, c8, c9, c10, c11, c12, c13, c14, c15, c16, c17, rfl⟩
set_option maxHeartbeats 2000000 in
/-- AN ARGUMENT THAT IS A HELLO. -/
theorem open_hel {H : Type} {enc : TypeId × Value → H} {P : Program} {W : World} {r : Reach} {base : Nat} {t tp ti tb ts tn tt e en et : TypeId} {g0 g1 g2 g3 g4 g5 f0 f1 f2 f3 f4 f5 f6 f7 f8 f9 f10 f11 f12 : Field} {v : Value} {d : DataW H} {p : List MemPlace}
    (hs : P.underlying t = some (.struct #[g0, g1, g2, g3, g4, g5])) (hC : P.cellsOf t = 18) (hg : (g0.offset = 0 ∧ g1.offset = 1 ∧ g2.offset = 2 ∧ g3.offset = 3 ∧ g4.offset = 4 ∧ g5.offset = 5) ∧ (g0.type = ti ∧ g1.type = ti ∧ g2.type = ts ∧ g3.type = tn ∧ g4.type = tt ∧ g5.type = tp))
    (hsp : P.underlying tp = some (.struct #[f0, f1, f2, f3, f4, f5, f6, f7, f8, f9, f10, f11, f12])) (hone : oneCellFields P #[f0, f1, f2, f3, f4, f5, f6, f7, f8, f9, f10, f11, f12] = true) (hf : f0.type = ti ∧ f1.type = ti ∧ f2.type = ti ∧ f3.type = ti ∧ f4.type = ti ∧ f5.type = ti ∧ f6.type = ti ∧ f7.type = ti ∧ f8.type = ti ∧ f9.type = tb ∧ f10.type = ts ∧ f11.type = ts ∧ f12.type = ts)
    (c1 : P.cellsOf ti = 1 ∧ P.cellsOf ts = 1 ∧ P.cellsOf tn = 1 ∧ P.cellsOf tt = 1 ∧ P.cellsOf tp = 13)
    (hi : P.underlying ti = some (.int .i64)) (hb : P.underlying tb = some .bool) (ht : P.underlying ts = some (.slice e)) (he : P.underlying e = some (.int .u8)) (hc : P.cellsOf e = 1) (hn : P.underlying tn = some (.slice en)) (hen : P.underlying en = some (.int .i64)) (hcn : P.cellsOf en = 1) (htt : P.underlying tt = some (.slice et)) (het : P.underlying et = some .string) (hct : P.cellsOf et = 1)
    (hval : Value.okWide P W r base t v) (h : DataW.Trod enc P W 0 (fun _ => true) true t v d p) :
    ∃ k : HE, HERow W v k ∧ k.small maxLen ∧ k.texts maxLen ∧ (Bytes k.rnd ∧ k.par.bytes) ∧ (∀ x ∈ k.vers, (Lit.int .i64 x).wf = true) := by
  obtain ⟨cs, rfl, hsz⟩ := okWide_struct hs hval
  obtain ⟨k0, k1, k2, k3, k4, k5, k6, k7, k8, k9, k10, k11, k12, k13, k14, k15, k16, k17, rfl⟩ := array18 (hsz.trans hC)
  obtain ⟨fuel, hx⟩ := h
  obtain ⟨xs, n, _, _, _, hlen, hq⟩ := DataW.trod_struct hs hx
  obtain ⟨⟨o0, o1, o2, o3, o4, o5⟩, ⟨y0, y1, y2, y3, y4, y5⟩⟩ := hg
  obtain ⟨ci, cs', cn, ct, cp⟩ := c1
  obtain ⟨t0, t1, t2, t3, t4, t5, t6, t7, t8, t9, t10, t11, t12⟩ := hf
  match xs, hlen, hq with
  | [z0, z1, z2, z3, z4, z5], _, hq =>
    have h0 : DataW.trod enc P W 0 (fun _ => true) true n ti [k0] = some z0 := by have := hq 0 g0 rfl; rw [o0, y0, ci] at this; simpa [Value.cells] using this
    have h1 : DataW.trod enc P W 0 (fun _ => true) true n ti [k1] = some z1 := by have := hq 1 g1 rfl; rw [o1, y1, ci] at this; simpa [Value.cells] using this
    have h2 : DataW.trod enc P W 0 (fun _ => true) true n ts [k2] = some z2 := by have := hq 2 g2 rfl; rw [o2, y2, cs'] at this; simpa [Value.cells] using this
    have h3 : DataW.trod enc P W 0 (fun _ => true) true n tn [k3] = some z3 := by have := hq 3 g3 rfl; rw [o3, y3, cn] at this; simpa [Value.cells] using this
    have h4 : DataW.trod enc P W 0 (fun _ => true) true n tt [k4] = some z4 := by have := hq 4 g4 rfl; rw [o4, y4, ct] at this; simpa [Value.cells] using this
    have h5 : DataW.trod enc P W 0 (fun _ => true) true n tp [k5, k6, k7, k8, k9, k10, k11, k12, k13, k14, k15, k16, k17] = some z5 := by have := hq 5 g5 rfl; rw [o5, y5, cp] at this; simpa [Value.cells] using this
    obtain ⟨b0, rfl, _⟩ := open_num hi h0
    obtain ⟨b1, rfl, _⟩ := open_num hi h1
    obtain ⟨x2, r2, l2, q2⟩ := open_field ht he hc h2
    obtain ⟨x3, r3, l3, q3⟩ := open_field hn hen hcn h3
    obtain ⟨x4, r4, l4, q4⟩ := open_texts htt het hct h4
    obtain ⟨us, m, _, _, _, ulen, ug⟩ := DataW.trod_struct hsp h5
    match us, ulen, ug with
    | [e0, e1, e2, e3, e4, e5, e6, e7, e8, e9, e10, e11, e12], _, ug =>
      obtain ⟨a0, d0⟩ := hone_of hone 0 f0 rfl
      obtain ⟨a1, d1⟩ := hone_of hone 1 f1 rfl
      obtain ⟨a2, d2⟩ := hone_of hone 2 f2 rfl
      obtain ⟨a3, d3⟩ := hone_of hone 3 f3 rfl
      obtain ⟨a4, d4⟩ := hone_of hone 4 f4 rfl
      obtain ⟨a5, d5⟩ := hone_of hone 5 f5 rfl
      obtain ⟨a6, d6⟩ := hone_of hone 6 f6 rfl
      obtain ⟨a7, d7⟩ := hone_of hone 7 f7 rfl
      obtain ⟨a8, d8⟩ := hone_of hone 8 f8 rfl
      obtain ⟨a9, d9⟩ := hone_of hone 9 f9 rfl
      obtain ⟨a10, d10⟩ := hone_of hone 10 f10 rfl
      obtain ⟨a11, d11⟩ := hone_of hone 11 f11 rfl
      obtain ⟨a12, d12⟩ := hone_of hone 12 f12 rfl
      have j0 : DataW.trod enc P W 0 (fun _ => true) true m f0.type [k5] = some e0 := by simpa [a0, d0] using ug 0 f0 rfl
      rw [t0] at j0
      have j1 : DataW.trod enc P W 0 (fun _ => true) true m f1.type [k6] = some e1 := by simpa [a1, d1] using ug 1 f1 rfl
      rw [t1] at j1
      have j2 : DataW.trod enc P W 0 (fun _ => true) true m f2.type [k7] = some e2 := by simpa [a2, d2] using ug 2 f2 rfl
      rw [t2] at j2
      have j3 : DataW.trod enc P W 0 (fun _ => true) true m f3.type [k8] = some e3 := by simpa [a3, d3] using ug 3 f3 rfl
      rw [t3] at j3
      have j4 : DataW.trod enc P W 0 (fun _ => true) true m f4.type [k9] = some e4 := by simpa [a4, d4] using ug 4 f4 rfl
      rw [t4] at j4
      have j5 : DataW.trod enc P W 0 (fun _ => true) true m f5.type [k10] = some e5 := by simpa [a5, d5] using ug 5 f5 rfl
      rw [t5] at j5
      have j6 : DataW.trod enc P W 0 (fun _ => true) true m f6.type [k11] = some e6 := by simpa [a6, d6] using ug 6 f6 rfl
      rw [t6] at j6
      have j7 : DataW.trod enc P W 0 (fun _ => true) true m f7.type [k12] = some e7 := by simpa [a7, d7] using ug 7 f7 rfl
      rw [t7] at j7
      have j8 : DataW.trod enc P W 0 (fun _ => true) true m f8.type [k13] = some e8 := by simpa [a8, d8] using ug 8 f8 rfl
      rw [t8] at j8
      have j9 : DataW.trod enc P W 0 (fun _ => true) true m f9.type [k14] = some e9 := by simpa [a9, d9] using ug 9 f9 rfl
      rw [t9] at j9
      have j10 : DataW.trod enc P W 0 (fun _ => true) true m f10.type [k15] = some e10 := by simpa [a10, d10] using ug 10 f10 rfl
      rw [t10] at j10
      have j11 : DataW.trod enc P W 0 (fun _ => true) true m f11.type [k16] = some e11 := by simpa [a11, d11] using ug 11 f11 rfl
      rw [t11] at j11
      have j12 : DataW.trod enc P W 0 (fun _ => true) true m f12.type [k17] = some e12 := by simpa [a12, d12] using ug 12 f12 rfl
      rw [t12] at j12
      obtain ⟨v0, rfl, _⟩ := open_num hi j0
      obtain ⟨v1, rfl, _⟩ := open_num hi j1
      obtain ⟨v2, rfl, _⟩ := open_num hi j2
      obtain ⟨v3, rfl, _⟩ := open_num hi j3
      obtain ⟨v4, rfl, _⟩ := open_num hi j4
      obtain ⟨v5, rfl, _⟩ := open_num hi j5
      obtain ⟨v6, rfl, _⟩ := open_num hi j6
      obtain ⟨v7, rfl, _⟩ := open_num hi j7
      obtain ⟨v8, rfl, _⟩ := open_num hi j8
      obtain ⟨bm, rfl⟩ := open_flag hb j9
      obtain ⟨x10, r10, l10, q10⟩ := open_field ht he hc j10
      obtain ⟨x11, r11, l11, q11⟩ := open_field ht he hc j11
      obtain ⟨x12, r12, l12, q12⟩ := open_field ht he hc j12
      exact ⟨⟨b0, b1, x2, x3, x4, ⟨v0, v1, v2, v3, v4, v5, v6, v7, v8, bm, x10, x11, x12⟩⟩, ⟨_, _, _, _, _, _, rfl, r2, r3, r4, r10, r11, r12⟩, ⟨l2, l3, l4, l10, l11, l12⟩, q4, ⟨bytes_of_wf q2, bytes_of_wf q10, bytes_of_wf q11, bytes_of_wf q12⟩, q3⟩
end Go.Proofs.YtcljchbceeiheaaDoor
