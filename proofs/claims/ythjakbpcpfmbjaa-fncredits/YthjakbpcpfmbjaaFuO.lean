import Derived.Test.YthjakbpcpfmbjaaFuN
import Derived.Deep.RegionLaw
namespace Go.Proofs.Ythjakbpcpfmbjaa
open Go.RowKit
set_option linter.unusedVariables false
set_option linter.unusedSimpArgs false

theorem ixf_app (L : List SX) (x : SX) (id : Int) : ixf (L ++ [x]) id = if ixf L id < L.length then ixf L id else if x.id = id then L.length else L.length + 1 := by
  unfold ixf
  rw [List.findIdx_append]
  by_cases h : List.findIdx (fun s => decide (s.id = id)) L < L.length
  · rw [if_pos h, if_pos h]
  · rw [if_neg h, if_neg h]
    by_cases e : x.id = id
    · rw [if_pos e]; simp [e]
    · rw [if_neg e]; simp [e]; omega
theorem sxAt_old {L : List SX} (x : SX) {id : Int} (h : ixf L id < L.length) : sxAt (L ++ [x]) id = sxAt L id := by
  unfold sxAt
  rw [ixf_app, if_pos h]
  simp [List.getD, List.getElem?_append_left h]
theorem sxAt_new {L : List SX} (x : SX) {id : Int} (h : ¬ ixf L id < L.length) (e : x.id = id) : sxAt (L ++ [x]) id = x := by
  unfold sxAt
  rw [ixf_app, if_neg h, if_pos e]
  simp [List.getD]
def updN (pb : Nat → Nat) (k x : Nat) : Nat → Nat := fun j => if j = k then x else pb j
theorem mS_pos {L : List SX} {pb : Nat → Nat} {id : Int} (h : ixf L id < L.length) : mS L pb id = some (pb (ixf L id)) := if_pos h
theorem mS_neg {L : List SX} {pb : Nat → Nat} {id : Int} (h : ¬ ixf L id < L.length) : mS L pb id = none := if_neg h
theorem mL_pos {F : FS} {L : List SX} {pb : Nat → Nat} {id : Int} (h : lasts F L id) : mL F L pb id = some (pb (ixf L id)) := if_pos h
theorem mL_neg {F : FS} {L : List SX} {pb : Nat → Nat} {id : Int} (h : ¬ lasts F L id) : mL F L pb id = none := if_neg h
theorem mS_app (L : List SX) (x : SX) (pb : Nat → Nat) (nb : Nat) (hn : ¬ ixf L x.id < L.length) (id : Int) : mS (L ++ [x]) (updN pb L.length nb) id = updI (mS L pb) x.id (some nb) id := by
  have hl : (L ++ [x]).length = L.length + 1 := by simp
  have hx := ixf_app L x id
  unfold updI
  by_cases e : id = x.id
  · subst e
    rw [if_neg hn, if_pos rfl] at hx
    rw [if_pos rfl, mS_pos (by omega), hx]
    simp [updN]
  · rw [if_neg e]
    by_cases h : ixf L id < L.length
    · rw [if_pos h] at hx
      rw [mS_pos (by omega), mS_pos h, hx]
      simp only [updN]
      rw [if_neg (by omega)]
    · rw [if_neg h, if_neg (fun q => e q.symm)] at hx
      rw [mS_neg (by omega), mS_neg h]
theorem lasts_app (F : FS) (L : List SX) (x : SX) (hn : ¬ ixf L x.id < L.length) (ho : x.ov = false) (id : Int) : lasts F (L ++ [x]) id ↔ ((id = x.id ∧ ptS x.id ≠ F.sv) ∨ (id ≠ x.id ∧ lasts F L id)) := by
  have hl : (L ++ [x]).length = L.length + 1 := by simp
  have hx := ixf_app L x id
  unfold lasts
  by_cases e : id = x.id
  · subst e
    rw [if_neg hn, if_pos rfl] at hx
    rw [sxAt_new x hn rfl, ho]
    constructor
    · rintro ⟨_, b, _⟩; exact Or.inl ⟨rfl, b⟩
    · rintro (⟨_, b⟩ | ⟨a, _⟩)
      · exact ⟨by omega, b, rfl⟩
      · exact absurd rfl a
  · by_cases h : ixf L id < L.length
    · rw [if_pos h] at hx
      rw [sxAt_old x h]
      constructor
      · rintro ⟨_, b, c⟩; exact Or.inr ⟨e, h, b, c⟩
      · rintro (⟨a, _⟩ | ⟨_, _, b, c⟩)
        · exact absurd a e
        · exact ⟨by omega, b, c⟩
    · rw [if_neg h, if_neg (fun q => e q.symm)] at hx
      constructor
      · rintro ⟨a, _⟩; omega
      · rintro (⟨a, _⟩ | ⟨_, b, _⟩)
        · exact absurd a e
        · exact absurd b h
theorem mL_app (F : FS) (L : List SX) (x : SX) (pb : Nat → Nat) (nb : Nat) (hn : ¬ ixf L x.id < L.length) (ho : x.ov = false) (id : Int) : mL F (L ++ [x]) (updN pb L.length nb) id = if id = x.id then (if ptS x.id = F.sv then none else some nb) else mL F L pb id := by
  have hx := ixf_app L x id
  have hq := lasts_app F L x hn ho id
  by_cases e : id = x.id
  · rw [if_pos e]
    by_cases c : ptS x.id = F.sv
    · rw [if_pos c, mL_neg (fun q => by rcases hq.1 q with a | a; exact a.2 c; exact a.1 e)]
    · rw [if_neg c, mL_pos (hq.2 (Or.inl ⟨e, c⟩)), hx, e, if_neg hn, if_pos rfl]
      simp [updN]
  · rw [if_neg e]
    by_cases c : lasts F L id
    · rw [mL_pos (hq.2 (Or.inr ⟨e, c⟩)), mL_pos c, hx, if_pos c.1]
      have := c.1
      simp only [updN]
      rw [if_neg (by omega)]
    · rw [mL_neg c, mL_neg (fun q => by rcases hq.1 q with a | a; exact e a.1; exact c a.2)]
theorem getD_app_new {L : List SX} (x : SX) : (L ++ [x]).getD L.length default = x := by simp [List.getD]
theorem getD_app_old {L : List SX} (x : SX) {j : Nat} (h : j < L.length) : (L ++ [x]).getD j default = L.getD j default := by simp [List.getD, List.getElem?_append_left h]
/-- One stream more. -/
theorem FR.push {W w3 w4 w5 : World} {g base : Nat} {F : FS} {m : FX} {ss sc : Int} {wb ms ml : Nat} {pb : Nat → Nat} (h : FR W g base F m ss sc wb ms ml pb) (hbase : base ≤ W.heap.size) (id : Int) (hn : ¬ ixf m.L id < m.L.length)
    (h3 : Below W.heap.size W w3) (hb3 : w3.heap[W.heap.size]? = some (.cells (acells F (SX.new F id)) 96 (0, 0)))
    (p4 : PM w4 ms (m.L.length + 1) (updI (mS m.L pb) id (some W.heap.size))) (t4 : ∀ k, k ≠ ms → w4.heap[k]? = w3.heap[k]?)
    (p5 : PM w5 ml (m.L.length + 1) (fun id' => if id' = id then (if ptS id = F.sv then none else some W.heap.size) else mL F m.L pb id')) (t5 : ∀ k, k ≠ ml → w5.heap[k]? = w4.heap[k]?) :
    FR w5 g base F { m with L := m.L ++ [SX.new F id] } ss sc wb ms ml (updN pb m.L.length W.heap.size) := by
  obtain ⟨n1, n2, n3, n4, n5, n6⟩ := h.ng
  have z : ∀ {k : Nat} {o : Obj}, W.heap[k]? = some o → k ≠ ms → k ≠ ml → w5.heap[k]? = some o := fun {k o} e e1 e2 => (t5 k e2).trans ((t4 k e1).trans ((h3.block k (Array.getElem?_eq_some_iff.1 e).1).trans e))
  have lt : ∀ {k : Nat} {o : Obj}, W.heap[k]? = some o → k ≠ W.heap.size := fun {k o} e => by have := (Array.getElem?_eq_some_iff.1 e).1; omega
  have hms := h.sm.lt
  have hml := h.lm.lt
  refine ⟨z h.bk n2 n3, z h.wk n4 n5, fun j hj => ?_, fun i j hi hj => ?_, fun j hj => ?_, h.lo, fun j hj => ?_, ?_, ?_, h.ne⟩
  · replace hj : j < (m.L ++ [SX.new F id]).length := hj
    rw [List.length_append, List.length_singleton] at hj
    show w5.heap[updN pb m.L.length W.heap.size j]? = some (Obj.cells (acells F ((m.L ++ [SX.new F id]).getD j default)) _ _)
    unfold updN
    by_cases e : j = m.L.length
    · subst e
      rw [if_pos rfl, getD_app_new, t5 _ (by omega), t4 _ (by omega), hb3]
    · rw [if_neg e, getD_app_old _ (by omega)]
      have hj' : j < m.L.length := by omega
      exact z (h.ak j hj') (n6 j hj').2.1 (n6 j hj').2.2
  · replace hi : i < (m.L ++ [SX.new F id]).length := hi
    replace hj : j < (m.L ++ [SX.new F id]).length := hj
    rw [List.length_append, List.length_singleton] at hi hj
    unfold updN
    by_cases e : i = m.L.length <;> by_cases e' : j = m.L.length
    · intro _; omega
    · rw [if_pos e, if_neg e']; intro q; exact absurd q.symm (lt (h.ak j (by omega)))
    · rw [if_neg e, if_pos e']; intro q; exact absurd q (lt (h.ak i (by omega)))
    · rw [if_neg e, if_neg e']; exact h.inj i j (by omega) (by omega)
  · replace hj : j < (m.L ++ [SX.new F id]).length := hj
    rw [List.length_append, List.length_singleton] at hj
    unfold updN
    by_cases e : j = m.L.length
    · rw [if_pos e]; exact (lt h.wk).symm
    · rw [if_neg e]; exact h.nw j (by omega)
  · replace hj : j < (m.L ++ [SX.new F id]).length := hj
    rw [List.length_append, List.length_singleton] at hj
    unfold updN
    by_cases e : j = m.L.length
    · rw [if_pos e]; exact hbase
    · rw [if_neg e]; exact h.lp j (by omega)
  · show PM w5 ms (m.L ++ [SX.new F id]).length (mS (m.L ++ [SX.new F id]) _)
    rw [List.length_append, List.length_singleton]
    exact (p4.same (t5 ms h.ne)).congr fun id' _ => mS_app m.L (SX.new F id) pb _ hn id'
  · show PM w5 ml (m.L ++ [SX.new F id]).length (mL F (m.L ++ [SX.new F id]) _)
    rw [List.length_append, List.length_singleton]
    exact p5.congr fun id' _ => mL_app F m.L (SX.new F id) pb _ hn rfl id'
/-- One more of the kind b. -/
def incK (F : FS) (m : FX) (b : Nat) : FX := if bS b = F.sv then { m with op := updB m.op (bO b) (m.op (bO b) + 1) } else { m with th := updB m.th (bO b) (m.th (bO b) + 1) }
theorem incK_L (F : FS) (m : FX) (b : Nat) : (incK F m b).L = m.L ∧ (incK F m b).cc = m.cc ∧ (incK F m b).tc = m.tc ∧ (incK F m b).rc = m.rc := by unfold incK; split <;> exact ⟨rfl, rfl, rfl, rfl⟩
theorem bO_ne {b c : Nat} (hb : b < 4) (hc : c < 4) (h : b ≠ c) (hs : bS b = bS c) : bO c ≠ bO b := by
  obtain rfl | rfl | rfl | rfl : b = 0 ∨ b = 1 ∨ b = 2 ∨ b = 3 := by omega
  all_goals (obtain rfl | rfl | rfl | rfl : c = 0 ∨ c = 1 ∨ c = 2 ∨ c = 3 := by omega)
  all_goals first | (exact absurd rfl h) | (exact absurd hs (by decide)) | decide
theorem kO_pos {F : FS} {m : FX} {b : Nat} (h : bS b = F.sv) : kO F m b = m.op (bO b) := if_pos h
theorem kO_neg {F : FS} {m : FX} {b : Nat} (h : ¬ bS b = F.sv) : kO F m b = m.th (bO b) := if_neg h
theorem incK_pos {F : FS} {m : FX} {b : Nat} (h : bS b = F.sv) : incK F m b = { m with op := updB m.op (bO b) (m.op (bO b) + 1) } := if_pos h
theorem incK_neg {F : FS} {m : FX} {b : Nat} (h : ¬ bS b = F.sv) : incK F m b = { m with th := updB m.th (bO b) (m.th (bO b) + 1) } := if_neg h
theorem kO_inc (F : FS) (m : FX) (b c : Nat) (hb : b < 4) (hc : c < 4) : kO F (incK F m b) c = if c = b then kO F m b + 1 else kO F m c := by
  by_cases e : c = b
  · subst e
    rw [if_pos rfl]
    by_cases q : bS c = F.sv
    · rw [kO_pos q, kO_pos q, incK_pos q]; exact updB_at _ _ _
    · rw [kO_neg q, kO_neg q, incK_neg q]; exact updB_at _ _ _
  · rw [if_neg e]
    by_cases q : bS b = F.sv <;> by_cases q' : bS c = F.sv
    · rw [kO_pos q', kO_pos q', incK_pos q]; exact updB_ne _ _ _ _ (bO_ne hb hc (Ne.symm e) (q.trans q'.symm))
    · rw [kO_neg q', kO_neg q', incK_pos q]
    · rw [kO_pos q', kO_pos q', incK_neg q]
    · rw [kO_neg q', kO_neg q', incK_neg q]; exact updB_ne _ _ _ _ (bO_ne hb hc (Ne.symm e) (by cases h1 : bS b <;> cases h2 : bS c <;> cases h3 : F.sv <;> simp_all))
theorem kT_inc (F : FS) (m : FX) (b c : Nat) : kT F (incK F m b) c = kT F m c := by
  by_cases q : bS b = F.sv
  · rw [incK_pos q]; rfl
  · rw [incK_neg q]; rfl
theorem fcells_inc (F : FS) (m : FX) (wb ms ml b : Nat) (hb : b < 4) : (fcells F m wb ms ml).setIfInBounds (10 + b * 2) (.int .i64 (kO F m b + 1)) = fcells F (incK F m b) wb ms ml := by
  unfold fcells
  rw [kT_inc, kT_inc, kT_inc, kT_inc, kO_inc F m b 0 hb (by omega), kO_inc F m b 1 hb (by omega), kO_inc F m b 2 hb (by omega), kO_inc F m b 3 hb (by omega)]
  obtain rfl | rfl | rfl | rfl : b = 0 ∨ b = 1 ∨ b = 2 ∨ b = 3 := by omega
  all_goals rfl
end Go.Proofs.Ythjakbpcpfmbjaa
