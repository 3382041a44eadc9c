import Derived.Test.YtpdclbfjngmppaaDoorBkR
import Derived.Test.YtpdclbfjngmppaaDoorBkW
import Derived.Test.YtpdclbfjngmppaaDoorFtD
import Derived.Test.YtpdclbfjngmppaaDoorFbSendOpB
import Derived.Deep.LoopGhost
import Derived.Deep.CutRange
import Derived.Deep.CutBlock
import Derived.Test.YtpdclbfjngmppaaDoorBkT
import Derived.Test.YtpdclbfjngmppaaDoorDrawNum
namespace Go.Proofs.YtpdclbfjngmppaaDoor
open Go.RowKit
set_option linter.unusedVariables false

/-- What FnSendBooks books, against the sending part's state. -/
structure KB (m : SS) (T : List Int) (lost : Nat → Bool) (next : Nat) (credit : Int) (ended : Bool) : Prop where
  tx : T = m.B
  nx : next = m.next
  cr : credit = m.credit
  en : ended = m.finish
  lo : m.live = true → ∀ k, m.W.getD k 0 = 3 → lost k = true
theorem KB.zero : KB ⟨0, 0, 0, 0, false, [], []⟩ [] (fun _ => false) 0 0 false := ⟨rfl, rfl, rfl, rfl, fun _ k h => by simp at h⟩
/-- Those from a to b become x. -/
def setL (lost : Nat → Bool) (a b : Nat) (x : Bool) : Nat → Bool := fun k => if a ≤ k ∧ k < b then x else lost k
theorem setL_self (lost : Nat → Bool) (a : Nat) (x : Bool) : setL lost a a x = lost := by
  funext k; unfold setL; rw [if_neg (by omega)]
theorem setL_next (lost : Nat → Bool) (a b : Nat) (x : Bool) (h : a ≤ b) : setL lost a (b + 1) x = fun k => if k = b then x else setL lost a b x k := by
  funext k
  unfold setL
  by_cases e : k = b
  · rw [if_pos e, if_pos (by omega)]
  · rw [if_neg e]
    by_cases q : a ≤ k ∧ k < b
    · rw [if_pos q, if_pos (by omega)]
    · rw [if_neg q, if_neg (by omega)]
/-- Refused: nothing has changed. -/
theorem sstep_bad {m : SS} (o : SSendOp) (h : (sstep m o).2.f0 ≠ 0) : (sstep m o).1 = m := by
  unfold sstep at h ⊢
  by_cases k1 : o.f0 = 1
  · simp only [if_pos k1] at h ⊢
    unfold swrite at h ⊢
    by_cases a : m.live = false ∨ m.finish = true
    · rw [if_pos a]
    · rw [if_neg a] at h ⊢
      by_cases b : 65536 < m.B.length + o.f3.length
      · rw [if_pos b]
      · rw [if_neg b] at h; exact absurd rfl h
  simp only [if_neg k1] at h ⊢
  by_cases k2 : o.f0 = 2
  · simp only [if_pos k2] at h ⊢
    unfold sfinish at h ⊢
    by_cases a : m.live = false ∨ m.finish = true
    · rw [if_pos a]
    · rw [if_neg a] at h; exact absurd rfl h
  simp only [if_neg k2] at h ⊢
  by_cases k3 : o.f0 = 3
  · simp only [if_pos k3] at h ⊢
    unfold scredit at h ⊢
    by_cases a : o.f2 < 0
    · rw [if_pos a]
    · rw [if_neg a] at h; exact absurd rfl h
  simp only [if_neg k3] at h ⊢
  by_cases k4 : o.f0 = 4
  · simp only [if_pos k4] at h ⊢
    by_cases a : o.f2 < 1 ∨ 1500 < o.f2
    · rw [if_pos a]
    · rw [if_neg a] at h; exact absurd rfl h
  simp only [if_neg k4] at h ⊢
  have hs : ∀ (how : Nat), (shear m o.f1 o.f2 o.f4 how).2 ≠ 0 → (shear m o.f1 o.f2 o.f4 how).1 = m := fun how h => by
    unfold shear at h ⊢
    by_cases a : o.f1 < 0 ∨ o.f2 < 0 ∨ (m.next : Int) - o.f2 < o.f1 ∨ (o.f4 = true ∧ (m.fin = 0 ∨ o.f1 + o.f2 ≠ m.B.length))
    · rw [if_pos a]
    · rw [if_neg a] at h ⊢
      by_cases b : m.live = false
      · rw [if_pos b]
      · rw [if_neg b] at h; exact absurd rfl h
  by_cases k5 : o.f0 = 5
  · simp only [if_pos k5] at h ⊢
    exact hs 2 h
  simp only [if_neg k5] at h ⊢
  by_cases k6 : o.f0 = 6
  · simp only [if_pos k6] at h ⊢
    exact hs 3 h
  simp only [if_neg k6] at h ⊢
  by_cases k7 : o.f0 = 7
  · simp only [if_pos k7] at h ⊢
    by_cases a : m.live = true
    · rw [if_pos a] at h; exact absurd rfl h
    · rw [if_neg a]
  simp only [if_neg k7] at h ⊢
  by_cases k8 : o.f0 = 8
  · simp only [if_pos k8] at h ⊢
    by_cases a : m.st = 4
    · rw [if_pos a] at h; exact absurd rfl h
    · rw [if_neg a]
  simp only [if_neg k8] at h ⊢
/-- A write that was let in. -/
theorem kb_write {m : SS} {T lost next credit ended} (K : KB m T lost next credit ended) (I : SI m) (o : SSendOp) (k : o.f0 = 1) (h : (sstep m o).2.f0 = 0) : KB (sstep m o).1 (T ++ o.f3) lost next credit ended ∧ T.length + o.f3.length ≤ 65536 := by
  unfold sstep at h ⊢
  simp only [if_pos k] at h ⊢
  unfold swrite at h ⊢
  by_cases a : m.live = false ∨ m.finish = true
  · rw [if_pos a] at h; exact absurd h (by simp)
  · rw [if_neg a] at h ⊢
    by_cases b : 65536 < m.B.length + o.f3.length
    · rw [if_pos b] at h; exact absurd h (by simp)
    · rw [if_neg b]
      refine ⟨⟨by rw [K.tx], K.nx, K.cr, K.en, fun hl p hp => ?_⟩, by rw [K.tx]; omega⟩
      by_cases q : p < m.W.length
      · refine K.lo hl p ?_
        rw [← hp]
        simp [List.getD, List.getElem?_append_left q]
      · exfalso
        have : (m.W ++ List.replicate o.f3.length 0).getD p 0 = 0 := by
          simp only [List.getD, List.getElem?_append_right (show m.W.length ≤ p by omega), List.getElem?_replicate]
          split <;> rfl
        have hp' : (m.W ++ List.replicate o.f3.length 0).getD p 0 = 3 := hp
        omega
theorem kb_finish {m : SS} {T lost next credit ended} (K : KB m T lost next credit ended) (o : SSendOp) (k : o.f0 = 2) (h : (sstep m o).2.f0 = 0) : KB (sstep m o).1 T lost next credit true := by
  unfold sstep at h ⊢
  simp only [if_neg (show ¬ o.f0 = 1 by omega), if_pos k] at h ⊢
  unfold sfinish at h ⊢
  by_cases a : m.live = false ∨ m.finish = true
  · rw [if_pos a] at h; exact absurd h (by simp)
  · rw [if_neg a]
    exact ⟨K.tx, K.nx, K.cr, rfl, K.lo⟩
theorem kb_credit {m : SS} {T lost next credit ended} (K : KB m T lost next credit ended) (o : SSendOp) (k : o.f0 = 3) (h : (sstep m o).2.f0 = 0) : KB (sstep m o).1 T lost next (max credit o.f2) ended := by
  unfold sstep at h ⊢
  simp only [if_neg (show ¬ o.f0 = 1 by omega), if_neg (show ¬ o.f0 = 2 by omega), if_pos k] at h ⊢
  unfold scredit at h ⊢
  by_cases a : o.f2 < 0
  · rw [if_pos a] at h; exact absurd h (by simp)
  · rw [if_neg a]
    exact ⟨K.tx, K.nx, by rw [K.cr], K.en, K.lo⟩
theorem kb_shear {m : SS} {T lost next credit ended} (K : KB m T lost next credit ended) (I : SI m) (o : SSendOp) (how : Nat) (hh : how = 2 ∨ how = 3) (h : (shear m o.f1 o.f2 o.f4 how).2 = 0) :
    0 ≤ o.f1 ∧ 0 ≤ o.f2 ∧ o.f1 + o.f2 ≤ (next : Int) ∧ next ≤ 65536 ∧ KB (shear m o.f1 o.f2 o.f4 how).1 T (setL lost o.f1.toNat (o.f1 + o.f2).toNat (how == 3)) next credit ended := by
  unfold shear at h ⊢
  by_cases a : o.f1 < 0 ∨ o.f2 < 0 ∨ (m.next : Int) - o.f2 < o.f1 ∨ (o.f4 = true ∧ (m.fin = 0 ∨ o.f1 + o.f2 ≠ m.B.length))
  · rw [if_pos a] at h; exact absurd h (by simp)
  · rw [if_neg a] at h ⊢
    have hn := I.nx
    have hb := I.big
    have e := K.nx
    have a1 : 0 ≤ o.f1 := Int.not_lt.1 fun q => a (Or.inl q)
    have a2 : 0 ≤ o.f2 := Int.not_lt.1 fun q => a (Or.inr (Or.inl q))
    have a3 : ¬ (m.next : Int) - o.f2 < o.f1 := fun q => a (Or.inr (Or.inr (Or.inl q)))
    refine ⟨a1, a2, by omega, by omega, ?_⟩
    by_cases b : m.live = false
    · rw [if_pos b]
      exact ⟨K.tx, K.nx, K.cr, K.en, fun q => by rw [b] at q; exact absurd q (by decide)⟩
    · rw [if_neg b]
      have hl : m.live = true := by cases q : m.live <;> simp_all
      refine ⟨K.tx, K.nx, K.cr, K.en, fun q p hp => ?_⟩
      have hp' : (setN m.W o.f1.toNat (o.f1 + o.f2).toNat how).getD p 0 = 3 := hp
      by_cases hpl : p < m.W.length
      · rw [setN_at m.W _ _ _ p hpl] at hp'
        unfold setL
        by_cases z : o.f1.toNat ≤ p ∧ p < (o.f1 + o.f2).toNat
        · rw [if_pos z]
          by_cases z2 : m.W.getD p 0 ≠ 2
          · rw [if_pos ⟨z.1, z.2, z2⟩] at hp'
            rw [hp']; rfl
          · rw [if_neg (fun t => z2 t.2.2)] at hp'
            omega
        · rw [if_neg z]
          rw [if_neg (fun t => z ⟨t.1, t.2.1⟩)] at hp'
          exact K.lo hl p hp'
      · rw [setN_out m.W _ _ _ p hpl] at hp'
        omega
theorem kb_acked {m : SS} {T lost next credit ended} (K : KB m T lost next credit ended) (I : SI m) (o : SSendOp) (k : o.f0 = 5) (h : (sstep m o).2.f0 = 0) :
    0 ≤ o.f1 ∧ 0 ≤ o.f2 ∧ o.f1 + o.f2 ≤ (next : Int) ∧ next ≤ 65536 ∧ KB (sstep m o).1 T (setL lost o.f1.toNat (o.f1 + o.f2).toNat false) next credit ended := by
  unfold sstep at h ⊢
  simp only [if_neg (show ¬ o.f0 = 1 by omega), if_neg (show ¬ o.f0 = 2 by omega), if_neg (show ¬ o.f0 = 3 by omega), if_neg (show ¬ o.f0 = 4 by omega), if_pos k] at h ⊢
  exact kb_shear K I o 2 (Or.inl rfl) h
theorem kb_lost {m : SS} {T lost next credit ended} (K : KB m T lost next credit ended) (I : SI m) (o : SSendOp) (k : o.f0 = 6) (h : (sstep m o).2.f0 = 0) :
    0 ≤ o.f1 ∧ 0 ≤ o.f2 ∧ o.f1 + o.f2 ≤ (next : Int) ∧ next ≤ 65536 ∧ KB (sstep m o).1 T (setL lost o.f1.toNat (o.f1 + o.f2).toNat true) next credit ended := by
  unfold sstep at h ⊢
  simp only [if_neg (show ¬ o.f0 = 1 by omega), if_neg (show ¬ o.f0 = 2 by omega), if_neg (show ¬ o.f0 = 3 by omega), if_neg (show ¬ o.f0 = 4 by omega), if_neg (show ¬ o.f0 = 5 by omega), if_pos k] at h ⊢
  exact kb_shear K I o 3 (Or.inr rfl) h
/-- Any other kind changes nothing that is booked. -/
theorem kb_other {m : SS} {T lost next credit ended} (K : KB m T lost next credit ended) (o : SSendOp) (k : o.f0 < 1 ∨ 6 < o.f0) : KB (sstep m o).1 T lost next credit ended := by
  unfold sstep
  simp only [if_neg (show ¬ o.f0 = 1 by omega), if_neg (show ¬ o.f0 = 2 by omega), if_neg (show ¬ o.f0 = 3 by omega), if_neg (show ¬ o.f0 = 4 by omega), if_neg (show ¬ o.f0 = 5 by omega), if_neg (show ¬ o.f0 = 6 by omega)]
  by_cases k7 : o.f0 = 7
  · simp only [if_pos k7]
    by_cases a : m.live = true
    · rw [if_pos a]
      exact ⟨K.tx, K.nx, K.cr, K.en, fun q => by simp [SS.live] at q⟩
    · rw [if_neg a]; exact K
  simp only [if_neg k7]
  by_cases k8 : o.f0 = 8
  · simp only [if_pos k8]
    by_cases a : m.st = 4
    · rw [if_pos a]
      exact ⟨K.tx, K.nx, K.cr, K.en, fun q => by simp [SS.live] at q⟩
    · rw [if_neg a]; exact K
  simp only [if_neg k8]
  exact K
/-- The piece, as the books ask: lost bytes alone are handed out again, new ones within the credit. -/
theorem spiece_bk {m : SS} (h : SI m) {n a b : Nat} (e : spiece m n = some (a, b)) : (b : Int) ≤ max m.credit m.next ∧ (∀ p, a ≤ p → p < min b m.next → m.W.getD p 0 = 3) := by
  unfold spiece at e
  by_cases c : fst3 m.W < m.W.length
  · rw [if_pos c] at e
    obtain ⟨rfl, rfl⟩ : fst3 m.W = a ∧ fst3 m.W + rdk (L3 m.W) (fst3 m.W) n = b := by simpa using e
    have h3 : ∀ i, i < rdk (L3 m.W) (fst3 m.W) n → m.W.getD (fst3 m.W + i) 0 = 3 := fun i hi => by
      have := rdk_all _ _ _ i hi; rw [L3_g] at this; simpa using this
    have ha := h.lost_lt (fst3_lost _ c)
    have hb : fst3 m.W + rdk (L3 m.W) (fst3 m.W) n ≤ m.next := by
      by_cases z : rdk (L3 m.W) (fst3 m.W) n = 0
      · omega
      · have := h.lost_lt (h3 (rdk (L3 m.W) (fst3 m.W) n - 1) (by omega)); omega
    refine ⟨by omega, fun p h1 h2 => ?_⟩
    have := h3 (p - fst3 m.W) (by omega)
    rw [Nat.add_sub_cancel' h1] at this
    exact this
  rw [if_neg c] at e
  by_cases d : (m.next : Int) < min m.credit m.B.length
  · rw [if_pos d] at e
    obtain ⟨rfl, rfl⟩ : m.next = a ∧ (min (min m.credit m.B.length) ((m.next + n : Nat) : Int)).toNat = b := by simpa using e
    exact ⟨by omega, fun p h1 h2 => by omega⟩
  rw [if_neg d] at e
  by_cases g : m.finish = true ∧ m.next = m.B.length ∧ (m.fin = 0 ∨ m.fin = 3)
  · rw [if_pos g] at e
    obtain ⟨rfl, rfl⟩ : m.next = a ∧ m.next = b := by simpa using e
    exact ⟨by omega, fun p h1 h2 => by omega⟩
  · rw [if_neg g] at e; exact absurd e (by simp)
/-- A pull that was let in: nothing, or a piece that the books take. -/
theorem kb_pull {m : SS} {T lost next credit ended} (K : KB m T lost next credit ended) (I : SI m) (o : SSendOp) (k : o.f0 = 4) (h : (sstep m o).2.f0 = 0) :
    ((sstep m o).2.f4 = false ∧ (sstep m o).2.f3 = [] ∧ KB (sstep m o).1 T lost next credit ended) ∨
    (∃ a b : Nat, (sstep m o).2.f4 = true ∧ (sstep m o).2.f2 = (a : Int) ∧ (sstep m o).2.f3 = (T.drop a).take (b - a) ∧ a ≤ b ∧ b ≤ T.length ∧ (b : Int) ≤ max credit next ∧ ((b - a : Nat) : Int) ≤ o.f2 ∧ a ≤ next ∧ ((sstep m o).2.f5 = true → ended = true ∧ b = T.length) ∧ (∀ p, a ≤ p → p < min b next → lost p = true) ∧ KB (sstep m o).1 T (setL lost a (min b next) false) (max next b) credit ended) := by
  unfold sstep at h ⊢
  simp only [if_neg (show ¬ o.f0 = 1 by omega), if_neg (show ¬ o.f0 = 2 by omega), if_neg (show ¬ o.f0 = 3 by omega), if_pos k] at h ⊢
  by_cases hn : o.f2 < 1 ∨ 1500 < o.f2
  · rw [if_pos hn] at h; exact absurd h (by simp)
  rw [if_neg hn]
  by_cases b : m.live = false
  · left
    have e : spull m o.f2.toNat = (m, 0, [], false, false, false) := by unfold spull; rw [if_pos b]
    rw [e]
    exact ⟨rfl, rfl, K⟩
  have hl : m.live = true := by cases q : m.live <;> simp_all
  cases e : spiece m o.f2.toNat with
  | none =>
    left
    have e2 : spull m o.f2.toNat = (m, 0, [], false, false, decide (m.next < m.B.length)) := by unfold spull; rw [if_neg b, e]
    rw [e2]
    exact ⟨rfl, rfl, K⟩
  | some ab =>
    obtain ⟨x, y⟩ := ab
    right
    have e2 : spull m o.f2.toNat = ({ m with W := setN m.W x y 1, next := max m.next y, fin := if (m.finish && decide (y = m.B.length) && decide (m.fin ≠ 2)) then 1 else m.fin, st := if (m.finish && decide (y = m.B.length) && decide (m.fin ≠ 2)) then 2 else if m.st = 0 then 1 else m.st }, x, (m.B.drop x).take (y - x), true, m.finish && decide (y = m.B.length) && decide (m.fin ≠ 2), false) := by unfold spull; rw [if_neg b, e]
    rw [e2]
    obtain ⟨p1, p2, p3, p4, p5, p6⟩ := spiece_ok I e
    obtain ⟨p7, p8⟩ := spiece_bk I e
    refine ⟨x, y, rfl, rfl, by rw [K.tx], p1, by rw [K.tx]; exact p3, by rw [K.cr, K.nx]; exact p7, by omega, by rw [K.nx]; exact p2, fun f => ?_, fun p h1 h2 => K.lo hl p (p8 p h1 (by rw [← K.nx]; exact h2)), ⟨K.tx, by rw [K.nx], K.cr, K.en, fun q p hp => ?_⟩⟩
    · have f' : (m.finish && decide (y = m.B.length) && decide (m.fin ≠ 2)) = true := f
      simp only [Bool.and_eq_true, decide_eq_true_eq] at f'
      exact ⟨by rw [K.en]; exact f'.1.1, by rw [K.tx]; exact f'.1.2⟩
    · have hp' : (setN m.W x y 1).getD p 0 = 3 := hp
      by_cases hpl : p < m.W.length
      · rw [setN_at m.W _ _ _ p hpl] at hp'
        unfold setL
        by_cases z : x ≤ p ∧ p < y
        · rw [if_pos ⟨z.1, z.2, p6 p z.1 z.2⟩] at hp'
          omega
        · rw [if_neg (fun t => z ⟨t.1, t.2.1⟩)] at hp'
          rw [if_neg (by omega)]
          exact K.lo hl p hp'
      · rw [setN_out m.W _ _ _ p hpl] at hp'
        omega
end Go.Proofs.YtpdclbfjngmppaaDoor

namespace Go.Proofs.YtpdclbfjngmppaaDoor
open Go.RowKit
set_option linter.unusedVariables false

/-- The source stands, at the state st. -/
def Dz (W : World) (g : Nat) (c : Value) (xs : List Int) (st : St) (p : Int) : Prop := Low g c ∧ Drw W g c xs st ∧ st.pos ≤ p
theorem Dz.dt {W : World} {g : Nat} {c : Value} {xs : List Int} {st : St} {p : Int} (h : Dz W g c xs st p) : Dt W g c xs p := ⟨h.1, st, h.2.1, h.2.2⟩
theorem Dz.lt {W : World} {g : Nat} {c : Value} {xs : List Int} {st : St} {p : Int} (h : Dz W g c xs st p) : g < W.heap.size := h.dt.lt
theorem Dz.mono {W : World} {g : Nat} {c : Value} {xs : List Int} {st : St} {p q : Int} (h : Dz W g c xs st p) (hq : p ≤ q) : Dz W g c xs st q := ⟨h.1, h.2.1, Int.le_trans h.2.2 hq⟩
theorem Dz.alloc {W : World} {g : Nat} {c : Value} {xs : List Int} {st : St} {p : Int} (h : Dz W g c xs st p) (o : Obj) : Dz (W.alloc o) g c xs st p := ⟨h.1, drw_alloc h.2.1 o, h.2.2⟩
theorem Dz.grown {W W' : World} {g : Nat} {c : Value} {xs : List Int} {st : St} {p : Int} {r : Option Nat} (h : Dz W g c xs st p) (hg : W.grownBy W' r) (hr : ∀ k, r = some k → g < k) : Dz W' g c xs st p :=
  ⟨h.1, h.2.1.kept hg (fun e => by have := hr _ e.symm; omega) (fun b off n cap h0 e e' => by have := h.1 b off n cap h0 e; have := hr _ e'.symm; omega), h.2.2⟩
theorem nextZ (g : Nat) (c : Value) (xs : List Int) (st : St) (p n : Int) (W : World) (h : Dz W g c xs st p) (hp : p ≤ 1000000) (h1 : 1 ≤ n) (h2 : n ≤ 2147483648) :
    Calls Tryd.prog 9 #[.pointer (some ⟨g, 0, none⟩), .int .i64 n] W fun e w' => ∃ (k : Int) (s' : St), k = nextV xs n st ∧ s' = nextS xs n st ∧ e = .returned (.int .i64 k) ∧ 0 ≤ k ∧ k < n ∧ Dz w' g c xs s' (p + 3) ∧ W.grownBy w' (some g) := by
  obtain ⟨l, hd, hs⟩ := h
  refine (nextC g c xs n st W hd (by omega) h1 h2).mono ?_
  rintro e w' ⟨rfl, d, gr⟩
  have b := nextV_bd xs n st h1
  have q := nextS_pos xs n st
  exact ⟨_, _, rfl, rfl, rfl, b.1, b.2, ⟨l, d, by omega⟩, gr⟩
theorem bytesZ (g : Nat) (c : Value) (xs : List Int) (st : St) (p : Int) (n : Nat) (W : World) (h : Dz W g c xs st p) (hp : p ≤ 1000000) (h1 : n ≤ 1000) :
    Calls Tryd.prog 11 #[.pointer (some ⟨g, 0, none⟩), .int .i64 (n : Int)] W fun e w' => ∃ (r : Value) (ys : List Int) (s' : St), ys = bysV xs st n ∧ s' = bysS xs st n ∧ e = .returned r ∧ ys.length = n ∧ Bytes ys ∧ w'.ownsRow W.heap.size 5 1 r n (ys.map (Value.int .u8)) ∧ Dz w' g c xs s' (p + 1000) ∧ W.grownBy w' (some g) := by
  have hgl := h.lt
  obtain ⟨l, hd, hs⟩ := h
  refine (bytesC g c xs st n W hd (fun b off m cap a e => by have := l b off m cap a e; omega) (by omega) (by omega)).mono ?_
  rintro e w' ⟨r, rfl, o, d, gr⟩
  have q := bysS_pos xs st n
  exact ⟨r, _, _, rfl, rfl, rfl, bysV_length xs st n, bysV_bytes xs st n hd.bytes, o, ⟨l, d, by omega⟩, gr⟩
theorem chanceZ (g : Nat) (c : Value) (xs : List Int) (st : St) (p n : Int) (W : World) (h : Dz W g c xs st p) (hp : p ≤ 1000000) (h1 : 1 ≤ n) (h2 : n ≤ 2147483648) :
    Calls Tryd.prog 12 #[.pointer (some ⟨g, 0, none⟩), .int .i64 n] W fun e w' => ∃ (k : Bool) (s' : St), k = (nextV xs n st == n - 1) ∧ s' = nextS xs n st ∧ e = .returned (.bool k) ∧ Dz w' g c xs s' (p + 3) ∧ W.grownBy w' (some g) := by
  obtain ⟨l, hd, hs⟩ := h
  refine (chanceC g c xs n st W hd (by omega) h1 h2).mono ?_
  rintro e w' ⟨rfl, d, gr⟩
  have q := nextS_pos xs n st
  exact ⟨_, _, rfl, rfl, rfl, ⟨l, d, by omega⟩, gr⟩
theorem numberZ (g : Nat) (c : Value) (xs : List Int) (st : St) (p : Int) (W : World) (h : Dz W g c xs st p) (hp : p ≤ 1000000) :
    Calls Tryd.prog 13 #[.pointer (some ⟨g, 0, none⟩)] W fun e w' => ∃ (k : Int) (s' : St), k = numV xs st ∧ s' = numS xs st ∧ e = .returned (.int .i64 k) ∧ Dz w' g c xs s' (p + 9) ∧ W.grownBy w' (some g) := by
  obtain ⟨l, hd, hs⟩ := h
  refine (numberC g c xs st W hd (by omega)).mono ?_
  rintro e w' ⟨rfl, d, gr⟩
  have q := numS_pos xs st
  exact ⟨_, _, rfl, rfl, rfl, ⟨l, d, by omega⟩, gr⟩
theorem sizeZ (g : Nat) (c : Value) (xs : List Int) (st : St) (p m : Int) (W : World) (h : Dz W g c xs st p) (hm0 : 0 ≤ m) (hm1 : m ≤ 2147483648) :
    Calls Tryd.prog 10 #[.pointer (some ⟨g, 0, none⟩), .int .i64 m] W fun e w' => ∃ k : Int, k = szV xs m ∧ e = .returned (.int .i64 k) ∧ 0 ≤ k ∧ k ≤ m ∧ w' = W := by
  obtain ⟨l, hd, hs⟩ := h
  refine (sizeC g c xs m st W hd hm0 hm1).mono ?_
  rintro e w' ⟨rfl, rfl⟩
  refine ⟨_, rfl, rfl, ?_, ?_, rfl⟩ <;> unfold szV <;> split <;> omega
theorem dz_new {w : World} {v : Value} {xs : List Int} (hrow : Row w .u8 v xs) (hB : Bytes xs) (hl : xs.length ≤ 1048576) :
    Dz (w.alloc (.cells #[v, .int .i64 0, .int .i64 ((xs.length : Int) % 1000)] 50)) w.heap.size v xs (stZ xs) 0 := by
  refine ⟨?_, drw_new hrow hB hl, Int.le_refl 0⟩
  intro b off n cap h0 e
  rcases hrow with ⟨rfl, ao, cap', e'⟩ | ⟨b', off', cap', e', hb, _⟩
  · rw [e] at e'; cases e'; omega
  · rw [e] at e'; cases e'; omega
/-- DrawSendRun: an operation, ahead of its two bends. -/
def k15 : List Int := [1, 1, 3, 3, 4, 4, 4, 4, 5, 5, 6, 6, 2, 7, 8]
def dA (xs : List Int) (k : Int) (a : Nat) (s : St) : SSendOp × Nat × St :=
  if k = 1 then (⟨1, 0, 0, bysV xs (nextS xs 15 s) (nextV xs 15 s).toNat, false⟩, a + (nextV xs 15 s).toNat, bysS xs (nextS xs 15 s) (nextV xs 15 s).toNat)
  else if k = 3 then (⟨3, 0, nextV xs ((a : Int) + 10) s, [], false⟩, a, nextS xs ((a : Int) + 10) s)
  else if k = 4 then (⟨4, 0, 1 + nextV xs 12 s, [], false⟩, a, nextS xs 12 s)
  else if k = 5 ∨ k = 6 then
    if nextV xs 3 (nextS xs ((a : Int) - nextV xs ((a : Int) + 1) s + 2) (nextS xs ((a : Int) + 1) s)) = 2 then (⟨k, nextV xs ((a : Int) + 1) s, max 0 ((a : Int) - nextV xs ((a : Int) + 1) s), [], true⟩, a, nextS xs 3 (nextS xs ((a : Int) - nextV xs ((a : Int) + 1) s + 2) (nextS xs ((a : Int) + 1) s)))
    else (⟨k, nextV xs ((a : Int) + 1) s, nextV xs ((a : Int) - nextV xs ((a : Int) + 1) s + 2) (nextS xs ((a : Int) + 1) s), [], false⟩, a, nextS xs 3 (nextS xs ((a : Int) - nextV xs ((a : Int) + 1) s + 2) (nextS xs ((a : Int) + 1) s)))
  else if nextV xs 3 s = 2 then (⟨k, 0, 0, [], false⟩, a, nextS xs 3 s) else (⟨4, 0, 1500, [], false⟩, a, nextS xs 3 s)
def dB (xs : List Int) (o : SSendOp) (s : St) : SSendOp × St := if nextV xs 40 s = 39 then (⟨o.f0, o.f1, numV xs (nextS xs 40 s), o.f3, o.f4⟩, numS xs (nextS xs 40 s)) else (o, nextS xs 40 s)
def dC (xs : List Int) (o : SSendOp) (s : St) : SSendOp × St := if nextV xs 60 s = 59 then (⟨nextV xs 11 (nextS xs 60 s) - 1, o.f1, o.f2, o.f3, o.f4⟩, nextS xs 11 (nextS xs 60 s)) else (o, nextS xs 60 s)
def dOp (xs : List Int) (a : Nat) (s : St) : SSendOp × Nat × St :=
  let r := dA xs (k15.getD (nextV xs 15 s).toNat 0) a (nextS xs 15 s)
  let t := dB xs r.1 r.2.2
  let u := dC xs t.1 t.2
  (u.1, r.2.1, u.2)
def dLp (xs : List Int) (s0 : St) : Nat → List SSendOp × Nat × St
  | 0 => ([], 0, s0)
  | i + 1 => ((dLp xs s0 i).1 ++ [(dOp xs (dLp xs s0 i).2.1 (dLp xs s0 i).2.2).1], (dOp xs (dLp xs s0 i).2.1 (dLp xs s0 i).2.2).2.1, (dOp xs (dLp xs s0 i).2.1 (dLp xs s0 i).2.2).2.2)
theorem dLp_succ (xs : List Int) (s0 : St) (i : Nat) : dLp xs s0 (i + 1) = ((dLp xs s0 i).1 ++ [(dOp xs (dLp xs s0 i).2.1 (dLp xs s0 i).2.2).1], (dOp xs (dLp xs s0 i).2.1 (dLp xs s0 i).2.2).2.1, (dOp xs (dLp xs s0 i).2.1 (dLp xs s0 i).2.2).2.2) := rfl
theorem dLp_len (xs : List Int) (s0 : St) : ∀ i, (dLp xs s0 i).1.length = i
  | 0 => rfl
  | i + 1 => by rw [dLp_succ, List.length_append, dLp_len xs s0 i]; rfl
/-- How many times the loop goes round. -/
def dN (xs : List Int) : Nat := (nextV xs (szV xs 80 + 1) (stZ xs)).toNat + 1
def dS0 (xs : List Int) : St := nextS xs (szV xs 80 + 1) (stZ xs)
/-- What DrawSendRun draws. -/
def dsr (xs : List Int) : List SSendOp :=
  let r := dLp xs (dS0 xs) (dN xs)
  if nextV xs 30 r.2.2 = 29 then r.1 ++ [⟨1, 0, 0, List.replicate (max 0 (65536 - (r.2.1 : Int) + nextV xs 2 (nextS xs 30 r.2.2))).toNat 0, false⟩, ⟨3, 0, 4611686018427387903, [], false⟩, ⟨4, 0, 1500, [], false⟩] else r.1
theorem k15_ok (i : Int) (h0 : 0 ≤ i) (h1 : i < 15) : ∃ k : Int, k15.getD i.toNat 0 = k ∧ (k = 1 ∨ k = 2 ∨ k = 3 ∨ k = 4 ∨ k = 5 ∨ k = 6 ∨ k = 7 ∨ k = 8) := by
  refine ⟨_, rfl, ?_⟩
  obtain ⟨n, rfl⟩ := Int.eq_ofNat_of_zero_le h0
  have hn : n < 15 := by omega
  match n, hn with
  | 0, _ => decide
  | 1, _ => decide
  | 2, _ => decide
  | 3, _ => decide
  | 4, _ => decide
  | 5, _ => decide
  | 6, _ => decide
  | 7, _ => decide
  | 8, _ => decide
  | 9, _ => decide
  | 10, _ => decide
  | 11, _ => decide
  | 12, _ => decide
  | 13, _ => decide
  | 14, _ => decide
theorem dA_at (xs : List Int) (k : Int) (a : Nat) (s : St) : a ≤ (dA xs k a s).2.1 ∧ (dA xs k a s).2.1 ≤ a + 14 := by
  have := nextV_bd xs 15 s (by decide)
  unfold dA
  split
  · exact ⟨by show a ≤ a + _; omega, by show a + _ ≤ a + 14; omega⟩
  split
  · exact ⟨Nat.le_refl _, by show a ≤ _; omega⟩
  split
  · exact ⟨Nat.le_refl _, by show a ≤ _; omega⟩
  split
  · split <;> exact ⟨Nat.le_refl _, by show a ≤ _; omega⟩
  · split <;> exact ⟨Nat.le_refl _, by show a ≤ _; omega⟩
theorem dLp_at (xs : List Int) (s0 : St) : ∀ i, (dLp xs s0 i).2.1 ≤ 14 * i
  | 0 => Nat.le_refl _
  | i + 1 => by
    rw [dLp_succ]
    have h1 := dLp_at xs s0 i
    have h2 := (dA_at xs (k15.getD (nextV xs 15 (dLp xs s0 i).2.2).toNat 0) (dLp xs s0 i).2.1 (nextS xs 15 (dLp xs s0 i).2.2)).2
    show (dA xs (k15.getD (nextV xs 15 (dLp xs s0 i).2.2).toNat 0) (dLp xs s0 i).2.1 (nextS xs 15 (dLp xs s0 i).2.2)).2.1 ≤ _
    omega
theorem dN_le (xs : List Int) : 1 ≤ dN xs ∧ dN xs ≤ 81 := by
  have h0 : 0 ≤ szV xs 80 ∧ szV xs 80 ≤ 80 := by unfold szV; split <;> omega
  have := nextV_bd xs (szV xs 80 + 1) (stZ xs) (by omega)
  unfold dN
  omega
end Go.Proofs.YtpdclbfjngmppaaDoor

namespace Go.Proofs.YtpdclbfjngmppaaDoor
open Go.RowKit
set_option linter.unusedVariables false

theorem own_blkZ {w w' : World} {e s n base b : Nat} {v : Value} {L : List Value} (h : w.ownsRow base e s v n L) (hg : w.grownBy w' (some b)) (hne : v.ownBlock ≠ some b) : w'.ownsRow base e s v n L :=
  ownsBlkP h (fun k hk ek => hg.block k hk (fun e2 => hne (by rw [ek]; exact e2)))
theorem own_blkT {w w' : World} {e T s n base b : Nat} {v : Value} {L : List Value} {cs : Array Value} (h : w.ownsRow base e s v n L) (hg : w.grownBy w' (some b)) (hb : w.heap[b]? = some (.cells cs T (0, 0))) (hT : e ≠ T) : w'.ownsRow base e s v n L :=
  own_blkZ h hg (fun ek => by
    obtain ⟨c2, t2⟩ := owns_typeB h _ ek
    rw [hb] at t2
    have t3 := Option.some.inj t2
    injection t3 with _ t4
    exact hT t4.symm)
theorem OpS.drawn {w w' : World} {base g : Nat} {v : Value} {R : List SSendOp} {U : Nat → Value} {zs : List Value} (h : OpS w base v R U zs) (hg : w.grownBy w' (some g)) (hgl : g < base) : OpS w' base v R U zs :=
  ⟨own_blkZ h.ow hg (fun e => by have := (h.ow.lt _ e).1; omega), h.cs, fun j hj => own_blkZ (h.inn j hj) hg (fun e => by have := ((h.inn j hj).lt _ e).1; omega)⟩
/-- Amid a round of the draw: the source, the list, the box with the operation. -/
structure RD (w W : World) (c : Value) (xs : List Int) (st : St) (p : Int) (ov : Value) (R : List SSendOp) (bx : Nat) (o : SSendOp) (u : Value) : Prop where
  dz : Dz W w.heap.size c xs st p
  so : ∃ U zs, OpS W (w.heap.size + 1) ov R U zs
  nb : ov.ownBlock ≠ some bx
  bk : W.heap[bx]? = some (.cells #[.int .i64 o.f0, .int .i64 o.f1, .int .i64 o.f2, u, .bool o.f4] 32 (0, 0))
  du : W.ownsRow (w.heap.size + 1) 5 1 u o.f3.length (o.f3.map (Value.int .u8))
  bl : Below w.heap.size w W
  bb : w.heap.size < bx
theorem RD.size {w W : World} {c : Value} {xs : List Int} {st : St} {p : Int} {ov : Value} {R : List SSendOp} {bx : Nat} {o : SSendOp} {u : Value} (h : RD w W c xs st p ov R bx o u) : w.heap.size + 1 ≤ W.heap.size ∧ bx < W.heap.size :=
  ⟨h.dz.lt, (Array.getElem?_eq_some_iff.1 h.bk).1⟩
/-- A draw. -/
theorem RD.draw {w W W' : World} {c : Value} {xs : List Int} {st st' : St} {p p' : Int} {ov : Value} {R : List SSendOp} {bx : Nat} {o : SSendOp} {u : Value} (h : RD w W c xs st p ov R bx o u) (hd : Dz W' w.heap.size c xs st' p') (hg : W.grownBy W' (some w.heap.size)) : RD w W' c xs st' p' ov R bx o u := by
  have hb := h.bb
  obtain ⟨U, zs, hS⟩ := h.so
  exact ⟨hd, ⟨U, zs, hS.drawn hg (by omega)⟩, h.nb, blk_drawnT h.bk hg (by omega), own_blkZ h.du hg (fun e => by have := (h.du.lt _ e).1; omega), h.bl.grown hg h.bl.size (fun q hq => by have := Option.some.inj hq; omega), hb⟩
/-- A field of the box is written. -/
theorem RD.set {w W : World} {c : Value} {xs : List Int} {st : St} {p : Int} {ov : Value} {R : List SSendOp} {bx : Nat} {o : SSendOp} {u : Value} (h : RD w W c xs st p ov R bx o u) (i : Nat) (x : Value) (o' : SSendOp) (u' : Value) (e : (#[.int .i64 o.f0, .int .i64 o.f1, .int .i64 o.f2, u, .bool o.f4] : Array Value).setIfInBounds i x = #[.int .i64 o'.f0, .int .i64 o'.f1, .int .i64 o'.f2, u', .bool o'.f4])
    (hu : W.ownsRow (w.heap.size + 1) 5 1 u' o'.f3.length (o'.f3.map (Value.int .u8))) : RD w (W.setCell ⟨bx, i, none⟩ x) c xs st p ov R bx o' u' := by
  have hb := h.bb
  have hg := grown_setCell W bx i x
  obtain ⟨U, zs, hS⟩ := h.so
  refine ⟨h.dz.grown hg (fun k hk => by have := Option.some.inj hk; omega), ⟨U, zs, own_blkZ hS.ow hg h.nb, hS.cs, fun j hj => own_blkT (hS.inn j hj) hg h.bk (by decide)⟩, h.nb, ?_, own_blkT hu hg h.bk (by decide), h.bl.grown hg h.bl.size (fun q hq => by have := Option.some.inj hq; omega), hb⟩
  rw [← e]
  exact bk_set h.bk i x
theorem RD.f0 {w W : World} {c : Value} {xs : List Int} {st : St} {p : Int} {ov : Value} {R : List SSendOp} {bx : Nat} {o : SSendOp} {u : Value} (h : RD w W c xs st p ov R bx o u) : W.cell? ⟨bx, 0, none⟩ = some (.int .i64 o.f0) := (bk_cell h.bk 0).trans rfl
theorem RD.f1 {w W : World} {c : Value} {xs : List Int} {st : St} {p : Int} {ov : Value} {R : List SSendOp} {bx : Nat} {o : SSendOp} {u : Value} (h : RD w W c xs st p ov R bx o u) : W.cell? ⟨bx, 1, none⟩ = some (.int .i64 o.f1) := (bk_cell h.bk 1).trans rfl
theorem RD.f2 {w W : World} {c : Value} {xs : List Int} {st : St} {p : Int} {ov : Value} {R : List SSendOp} {bx : Nat} {o : SSendOp} {u : Value} (h : RD w W c xs st p ov R bx o u) : W.cell? ⟨bx, 2, none⟩ = some (.int .i64 o.f2) := (bk_cell h.bk 2).trans rfl
theorem RD.f3 {w W : World} {c : Value} {xs : List Int} {st : St} {p : Int} {ov : Value} {R : List SSendOp} {bx : Nat} {o : SSendOp} {u : Value} (h : RD w W c xs st p ov R bx o u) : W.cell? ⟨bx, 3, none⟩ = some u := (bk_cell h.bk 3).trans rfl
theorem RD.f4 {w W : World} {c : Value} {xs : List Int} {st : St} {p : Int} {ov : Value} {R : List SSendOp} {bx : Nat} {o : SSendOp} {u : Value} (h : RD w W c xs st p ov R bx o u) : W.cell? ⟨bx, 4, none⟩ = some (.bool o.f4) := (bk_cell h.bk 4).trans rfl
theorem RD.free {w W : World} {c : Value} {xs : List Int} {st : St} {p : Int} {ov : Value} {R : List SSendOp} {bx : Nat} {o : SSendOp} {u : Value} (h : RD w W c xs st p ov R bx o u) (i : Nat) : W.frozen? ⟨bx, i, none⟩ = false := bk_free h.bk i
/-- The box is new. -/
theorem RD.new {w W : World} {c : Value} {xs : List Int} {st : St} {p : Int} {ov : Value} {R : List SSendOp} {U : Nat → Value} {zs : List Value} (hd : Dz W w.heap.size c xs st p) (hS : OpS W (w.heap.size + 1) ov R U zs) (hb : Below w.heap.size w W) (k : Int) :
    RD w (W.alloc (.cells #[.int .i64 k, .int .i64 0, .int .i64 0, .slice none 0 0, .bool false] 32)) c xs st p ov R W.heap.size ⟨k, 0, 0, [], false⟩ (.slice none 0 0) :=
  ⟨hd.alloc _, ⟨U, zs, hS.below ((Below.refl _ _).alloc (Nat.le_refl _) _)⟩, fun e => by have := (hS.ow.lt _ e).2; omega, heap_alloc_new W _, World.ownsRow_nil _ _ _ _, hb.alloc hb.size _, hd.lt⟩
/-- The operation is put onto the list. -/
theorem RD.push {w W W6 : World} {c : Value} {xs : List Int} {st : St} {p : Int} {ov v6 : Value} {R : List SSendOp} {bx : Nat} {o : SSendOp} {u : Value} {U : Nat → Value} {zs : List Value} (h : RD w W c xs st p ov R bx o u) (hS : OpS W (w.heap.size + 1) ov R U zs)
    (o6 : W6.ownsRow (w.heap.size + 1) 32 5 v6 (R.length + 1) (zs ++ [.int .i64 o.f0, .int .i64 o.f1, .int .i64 o.f2, u, .bool o.f4])) (g6 : (W.alloc (.cells #[.int .i64 o.f0, .int .i64 o.f1, .int .i64 o.f2, u, .bool o.f4] 32)).grownBy W6 ov.ownBlock) :
    (∃ U zs, OpS W6 (w.heap.size + 1) v6 (R ++ [o]) U zs) ∧ Dz W6 w.heap.size c xs st p ∧ Below w.heap.size w W6 := by
  have ba : Below W.heap.size W (W.alloc (.cells #[.int .i64 o.f0, .int .i64 o.f1, .int .i64 o.f2, u, .bool o.f4] 32)) := (Below.refl _ _).alloc (Nat.le_refl _) _
  have hl : ∀ k, ov.ownBlock = some k → w.heap.size < k := fun k hk => by have := (hS.ow.lt k hk).1; omega
  have b3 := h.bl.alloc h.bl.size (.cells #[.int .i64 o.f0, .int .i64 o.f1, .int .i64 o.f2, u, .bool o.f4] 32)
  exact ⟨⟨_, _, (hS.below ba).push o u (owns_below h.du ba) o6 g6⟩, (h.dz.alloc _).grown g6 hl, b3.grown g6 b3.size (fun t ht => by have := hl t ht; omega)⟩
end Go.Proofs.YtpdclbfjngmppaaDoor

namespace Go.Proofs.YtpdclbfjngmppaaDoor
open Go.RowKit
set_option linter.unusedVariables false
set_option linter.unusedSimpArgs false

theorem tab15 {W W' : World} {g : Nat} (h : W.heap.size ≠ g) (hg : (W.alloc (.cells #[.int .i64 1, .int .i64 1, .int .i64 3, .int .i64 3, .int .i64 4, .int .i64 4, .int .i64 4, .int .i64 4, .int .i64 5, .int .i64 5, .int .i64 6, .int .i64 6, .int .i64 2, .int .i64 7, .int .i64 8] 3)).grownBy W' (some g)) (k : Nat) (hk : k < 15) :
    W'.cell? ⟨W.heap.size, k, none⟩ = some (.int .i64 (k15.getD k 0)) := by
  have b := blk_drawnT (heap_alloc_new W (.cells #[.int .i64 1, .int .i64 1, .int .i64 3, .int .i64 3, .int .i64 4, .int .i64 4, .int .i64 4, .int .i64 4, .int .i64 5, .int .i64 5, .int .i64 6, .int .i64 6, .int .i64 2, .int .i64 7, .int .i64 8] 3)) hg h
  rw [bk_cell b]
  match k, hk with
  | 0, _ => rfl
  | 1, _ => rfl
  | 2, _ => rfl
  | 3, _ => rfl
  | 4, _ => rfl
  | 5, _ => rfl
  | 6, _ => rfl
  | 7, _ => rfl
  | 8, _ => rfl
  | 9, _ => rfl
  | 10, _ => rfl
  | 11, _ => rfl
  | 12, _ => rfl
  | 13, _ => rfl
  | 14, _ => rfl
theorem dA_1 (xs : List Int) (a : Nat) (s : St) : dA xs 1 a s = (⟨1, 0, 0, bysV xs (nextS xs 15 s) (nextV xs 15 s).toNat, false⟩, a + (nextV xs 15 s).toNat, bysS xs (nextS xs 15 s) (nextV xs 15 s).toNat) := by unfold dA; rw [if_pos rfl]
theorem dA_3 (xs : List Int) (a : Nat) (s : St) : dA xs 3 a s = (⟨3, 0, nextV xs ((a : Int) + 10) s, [], false⟩, a, nextS xs ((a : Int) + 10) s) := by unfold dA; rw [if_neg (by decide), if_pos rfl]
theorem dA_4 (xs : List Int) (a : Nat) (s : St) : dA xs 4 a s = (⟨4, 0, 1 + nextV xs 12 s, [], false⟩, a, nextS xs 12 s) := by unfold dA; rw [if_neg (by decide), if_neg (by decide), if_pos rfl]
theorem dA_5 (xs : List Int) (k : Int) (hk : k = 5 ∨ k = 6) (a : Nat) (s s2 s3 s4 : St) (f n : Int) (b : Bool) (ef : f = nextV xs ((a : Int) + 1) s) (e2 : s2 = nextS xs ((a : Int) + 1) s) (en : n = nextV xs ((a : Int) - f + 2) s2) (e3 : s3 = nextS xs ((a : Int) - f + 2) s2) (eb : b = (nextV xs 3 s3 == 3 - 1)) (e4 : s4 = nextS xs 3 s3) : dA xs k a s = if b = true then (⟨k, f, max 0 ((a : Int) - f), [], true⟩, a, s4) else (⟨k, f, n, [], false⟩, a, s4) := by
  unfold dA
  rw [if_neg (by omega), if_neg (by omega), if_neg (by omega), if_pos hk, ← ef, ← e2, ← en, ← e3, ← e4]
  have : (nextV xs 3 s3 = 2) = (b = true) := by rw [eb]; simp
  simp only [this]
theorem dA_2 (xs : List Int) (k : Int) (hk : k = 2 ∨ k = 7 ∨ k = 8) (a : Nat) (s s2 : St) (b : Bool) (eb : b = (nextV xs 3 s == 3 - 1)) (e2 : s2 = nextS xs 3 s) : dA xs k a s = if b = true then (⟨k, 0, 0, [], false⟩, a, s2) else (⟨4, 0, 1500, [], false⟩, a, s2) := by
  unfold dA
  rw [if_neg (by omega), if_neg (by omega), if_neg (by omega), if_neg (by omega), ← e2]
  have : (nextV xs 3 s = 2) = (b = true) := by rw [eb]; simp
  simp only [this]
theorem RD.mono {w W : World} {c : Value} {xs : List Int} {st : St} {p q : Int} {ov : Value} {R : List SSendOp} {bx : Nat} {o : SSendOp} {u : Value} (h : RD w W c xs st p ov R bx o u) (hq : p ≤ q) : RD w W c xs st q ov R bx o u := ⟨h.dz.mono hq, h.so, h.nb, h.bk, h.du, h.bl, h.bb⟩
theorem dB_if (xs : List Int) (o : SSendOp) (s s6 : St) (b : Bool) (eb : b = (nextV xs 40 s == 40 - 1)) (e6 : s6 = nextS xs 40 s) : dB xs o s = if b = true then (⟨o.f0, o.f1, numV xs s6, o.f3, o.f4⟩, numS xs s6) else (o, s6) := by
  unfold dB
  rw [← e6]
  have : (nextV xs 40 s = 39) = (b = true) := by rw [eb]; simp
  simp only [this]
theorem dC_if (xs : List Int) (o : SSendOp) (s s6 : St) (b : Bool) (eb : b = (nextV xs 60 s == 60 - 1)) (e6 : s6 = nextS xs 60 s) : dC xs o s = if b = true then (⟨nextV xs 11 s6 - 1, o.f1, o.f2, o.f3, o.f4⟩, nextS xs 11 s6) else (o, s6) := by
  unfold dC
  rw [← e6]
  have : (nextV xs 60 s = 59) = (b = true) := by rw [eb]; simp
  simp only [this]
theorem dOp_eq (xs : List Int) (a : Nat) (s s1 sA sB sC : St) (kn aA : Nat) (kk : Int) (oA oB oC : SSendOp) (ek : (kn : Int) = nextV xs 15 s) (es1 : s1 = nextS xs 15 s) (ekk : k15.getD kn 0 = kk) (eA : (oA, aA, sA) = dA xs kk a s1) (eB : (oB, sB) = dB xs oA sA) (eC : (oC, sC) = dC xs oB sB) : dOp xs a s = (oC, aA, sC) := by
  have e : dOp xs a s = ((dC xs (dB xs (dA xs (k15.getD (nextV xs 15 s).toNat 0) a (nextS xs 15 s)).1 (dA xs (k15.getD (nextV xs 15 s).toNat 0) a (nextS xs 15 s)).2.2).1 (dB xs (dA xs (k15.getD (nextV xs 15 s).toNat 0) a (nextS xs 15 s)).1 (dA xs (k15.getD (nextV xs 15 s).toNat 0) a (nextS xs 15 s)).2.2).2).1, (dA xs (k15.getD (nextV xs 15 s).toNat 0) a (nextS xs 15 s)).2.1, (dC xs (dB xs (dA xs (k15.getD (nextV xs 15 s).toNat 0) a (nextS xs 15 s)).1 (dA xs (k15.getD (nextV xs 15 s).toNat 0) a (nextS xs 15 s)).2.2).1 (dB xs (dA xs (k15.getD (nextV xs 15 s).toNat 0) a (nextS xs 15 s)).1 (dA xs (k15.getD (nextV xs 15 s).toNat 0) a (nextS xs 15 s)).2.2).2).2) := rfl
  rw [e, ← ek, Int.toNat_natCast, ekk, ← es1, ← eA]
  dsimp only
  rw [← eB]
  dsimp only
  rw [← eC]
theorem dLp_next (xs : List Int) (s0 : St) (i a : Nat) (s s1 sA sB sC : St) (kn aA : Nat) (kk : Int) (oA oB oC : SSendOp) (ea : a = (dLp xs s0 i).2.1) (es : s = (dLp xs s0 i).2.2) (ek : (kn : Int) = nextV xs 15 s) (es1 : s1 = nextS xs 15 s) (ekk : k15.getD kn 0 = kk) (eA : (oA, aA, sA) = dA xs kk a s1) (eB : (oB, sB) = dB xs oA sA) (eC : (oC, sC) = dC xs oB sB) : dLp xs s0 (i + 1) = ((dLp xs s0 i).1 ++ [oC], aA, sC) := by
  rw [dLp_succ, ← ea, ← es, dOp_eq xs a s s1 sA sB sC kn aA kk oA oB oC ek es1 ekk eA eB eC]
/-- Three operations behind. -/
theorem run_append_opS3 {w : World} (ty : TypeId) (base : Nat) (v : Value) (n : Nat) (ys : List Value) (hown : w.ownsRow base 32 5 v n ys) (g : Nat) (cs : List Value) (hl : cs.length = 15) (hx : ∀ x ∈ cs, x.oneCell' = true)
    (hc : w.heap[g]? = some (.cells cs.toArray 32 (0, 0))) (h63 : n + 3 ≤ 1099511627776) (hbase : base ≤ w.heap.size) :
    ∃ v' w', (Builtin.append_ #[23, 23] ty #[v, .slice (some ⟨g, 0, none⟩) 3 3]).run Tryd.prog w = .ok v' w' ∧ w'.ownsRow base 32 5 v' (n + 3) (ys ++ cs) ∧ w.grownBy w' v.ownBlock := by
  obtain ⟨i0, hi, hz0, hz1, hz2⟩ := info_parts infoSO5P
  obtain ⟨v', w', hr, h2, h3, _⟩ := run_append_own (P := Tryd.prog) w base 23 ty 32 i0 _ 5 56 Tryd.underlying23 hi hz0 hz1 hz2 rfl (by decide) v n ys hown ⟨g, 0, none⟩ 3 3 cs hl (by
    intro j u hj
    rw [Go.WideShapes.add_plain]
    have e := bk_cell hc (0 + j)
    rw [e, Nat.zero_add, ← hj]
    simp) hx (by unfold maxLen; omega) (by omega) hbase
  exact ⟨v', w', hr, h2, h3⟩
theorem wpList_append_opS3 {w : World} {ops : Array Oper} {rest : List Oper} {o : Oper} {a : Act} {Q : Exit → Act → World → Prop} (hgd : o.guard = none) (p q : Operand)
    (ho : o.op = .call { callee := .builtin .append, args := #[p, q], argTypes := #[23, 23] })
    (base : Nat) (v : Value) (n : Nat) (ys : List Value) (hp : a.eval p = v) (hown : w.ownsRow base 32 5 v n ys) (g : Nat) (cs : List Value) (hl : cs.length = 15) (hx : ∀ x ∈ cs, x.oneCell' = true)
    (hq : a.eval q = .slice (some ⟨g, 0, none⟩) 3 3) (hc : w.heap[g]? = some (.cells cs.toArray 32 (0, 0))) (h63 : n + 3 ≤ 1099511627776) (hbase : base ≤ w.heap.size)
    (h : ∀ v' w', w'.ownsRow base 32 5 v' (n + 3) (ys ++ cs) → w.grownBy w' v.ownBlock → wpList Tryd.prog ops Q rest (a.put o.dst v') w') :
    wpList Tryd.prog ops Q (o :: rest) a w := by
  obtain ⟨v', w', hr, h2, h3⟩ := run_append_opS3 o.type base v n ys hown g cs hl hx hc h63 hbase
  refine wpList_plain hgd fun K hK => ?_
  unfold Oper.wp
  simp [execOp, ho, resolve, invoke, builtin, hp, hq, hr, Result.andThen]
  exact hK _ _ (h v' w' h2 h3)
theorem OpS.push3 {w w' : World} {base : Nat} {v v' : Value} {R : List SSendOp} {U : Nat → Value} {zs : List Value} (h : OpS w base v R U zs) (o1 o2 o3 : SSendOp) (u1 u2 u3 : Value) (hu1 : w.ownsRow base 5 1 u1 o1.d.length (o1.d.map (Value.int .u8))) (hu2 : w.ownsRow base 5 1 u2 o2.d.length (o2.d.map (Value.int .u8))) (hu3 : w.ownsRow base 5 1 u3 o3.d.length (o3.d.map (Value.int .u8)))
    (o6 : w'.ownsRow base 32 5 v' (R.length + 3) (zs ++ (o1.c u1 ++ (o2.c u2 ++ o3.c u3)))) (g6 : w.grownBy w' v.ownBlock) : ∃ U' zs', OpS w' base v' (R ++ [o1, o2, o3]) U' zs' := by
  have hzl : zs.length = R.length * 5 := h.ow.1
  have keep : ∀ {z : Value} {n : Nat} {L : List Value}, w.ownsRow base 5 1 z n L → w'.ownsRow base 5 1 z n L := fun hz =>
    ownsBlkP hz (fun k hk e => g6.block k hk (fun e2 => types_apartB (by decide) h.ow hz k e2.symm e.symm))
  have gd : ∀ j, (R ++ [o1, o2, o3]).getD j default = if j < R.length then R.getD j default else if j = R.length then o1 else if j = R.length + 1 then o2 else if j = R.length + 2 then o3 else default := fun j => by
    by_cases e : j < R.length
    · rw [if_pos e, List.getD_eq_getElem?_getD, List.getElem?_append_left e, ← List.getD_eq_getElem?_getD]
    · rw [if_neg e, List.getD_eq_getElem?_getD, List.getElem?_append_right (by omega)]
      obtain ⟨d, rfl⟩ : ∃ d, j = R.length + d := ⟨j - R.length, by omega⟩
      rw [Nat.add_sub_cancel_left]
      match d with
      | 0 => simp
      | 1 => simp
      | 2 => simp
      | d + 3 => simp
  have l1 : (o1.c u1).length = 5 := rfl
  have l2 : (o2.c u2).length = 5 := rfl
  have l3 : (o3.c u3).length = 5 := rfl
  refine ⟨fun j => if j < R.length then U j else if j = R.length then u1 else if j = R.length + 1 then u2 else u3, _, by simpa using o6, fun j hj f hf => ?_, fun j hj => ?_⟩
  · have hj' : j < R.length + 3 := by simpa using hj
    rw [gd]
    by_cases e : j < R.length
    · rw [if_pos e, if_pos e, List.getElem?_append_left (by rw [hzl]; exact jK_lt e hf)]
      exact h.cs j e f hf
    · rw [if_neg e, if_neg e, List.getElem?_append_right (by rw [hzl]; have : R.length * 5 ≤ j * 5 := Nat.mul_le_mul_right 5 (by omega); omega), hzl]
      obtain rfl | rfl | rfl : j = R.length ∨ j = R.length + 1 ∨ j = R.length + 2 := by omega
      · rw [if_pos rfl, if_pos rfl, Nat.add_sub_cancel_left, List.getElem?_append_left (by omega)]
      · rw [if_neg (show ¬ R.length + 1 = R.length by omega), if_neg (show ¬ R.length + 1 = R.length by omega), if_pos rfl, if_pos rfl, show (R.length + 1) * 5 + f - R.length * 5 = 5 + f by omega, List.getElem?_append_right (by omega), l1, Nat.add_sub_cancel_left, List.getElem?_append_left (by omega)]
      · rw [if_neg (show ¬ R.length + 2 = R.length by omega), if_neg (show ¬ R.length + 2 = R.length by omega), if_neg (show ¬ R.length + 2 = R.length + 1 by omega), if_neg (show ¬ R.length + 2 = R.length + 1 by omega), if_pos rfl, show (R.length + 2) * 5 + f - R.length * 5 = 10 + f by omega, List.getElem?_append_right (by omega), l1, List.getElem?_append_right (by omega), l2, show 10 + f - 5 - 5 = f by omega]
  · have hj' : j < R.length + 3 := by simpa using hj
    rw [gd]
    by_cases e : j < R.length
    · rw [if_pos e, if_pos e]; exact keep (h.inn j e)
    · rw [if_neg e, if_neg e]
      obtain rfl | rfl | rfl : j = R.length ∨ j = R.length + 1 ∨ j = R.length + 2 := by omega
      · rw [if_pos rfl, if_pos rfl]; exact keep hu1
      · simp only [if_neg (show ¬ R.length + 1 = R.length by omega), if_true]; exact keep hu2
      · simp only [if_neg (show ¬ R.length + 2 = R.length by omega), if_neg (show ¬ R.length + 2 = R.length + 1 by omega), if_true]; exact keep hu3
theorem dsr_no (xs : List Int) (m a : Nat) (s0 s : St) (eN : dN xs = m) (eS : dS0 xs = s0) (es : s = (dLp xs s0 m).2.2) (h : false = (nextV xs 30 s == 30 - 1)) : dsr xs = (dLp xs s0 m).1 := by
  have e : dsr xs = if nextV xs 30 (dLp xs (dS0 xs) (dN xs)).2.2 = 29 then (dLp xs (dS0 xs) (dN xs)).1 ++ [⟨1, 0, 0, List.replicate (max 0 (65536 - ((dLp xs (dS0 xs) (dN xs)).2.1 : Int) + nextV xs 2 (nextS xs 30 (dLp xs (dS0 xs) (dN xs)).2.2))).toNat 0, false⟩, ⟨3, 0, 4611686018427387903, [], false⟩, ⟨4, 0, 1500, [], false⟩] else (dLp xs (dS0 xs) (dN xs)).1 := rfl
  rw [e, eN, eS, ← es, if_neg]
  intro q
  rw [q] at h
  exact absurd h (by decide)
theorem dsr_yes (xs : List Int) (m a n : Nat) (s0 s s4 : St) (eN : dN xs = m) (eS : dS0 xs = s0) (es : s = (dLp xs s0 m).2.2) (ea : a = (dLp xs s0 m).2.1) (h : true = (nextV xs 30 s == 30 - 1)) (e4 : s4 = nextS xs 30 s) (x : Int) (ex : x = nextV xs 2 s4) (en : max 0 (65536 - (a : Int) + x) = (n : Int)) : dsr xs = (dLp xs s0 m).1 ++ [⟨1, 0, 0, List.replicate n 0, false⟩, ⟨3, 0, 4611686018427387903, [], false⟩, ⟨4, 0, 1500, [], false⟩] := by
  have e : dsr xs = if nextV xs 30 (dLp xs (dS0 xs) (dN xs)).2.2 = 29 then (dLp xs (dS0 xs) (dN xs)).1 ++ [⟨1, 0, 0, List.replicate (max 0 (65536 - ((dLp xs (dS0 xs) (dN xs)).2.1 : Int) + nextV xs 2 (nextS xs 30 (dLp xs (dS0 xs) (dN xs)).2.2))).toNat 0, false⟩, ⟨3, 0, 4611686018427387903, [], false⟩, ⟨4, 0, 1500, [], false⟩] else (dLp xs (dS0 xs) (dN xs)).1 := rfl
  rw [e, eN, eS, ← es, ← ea, ← e4, ← ex, en, Int.toNat_natCast, if_pos]
  have := beq_iff_eq.1 h.symm
  omega
end Go.Proofs.YtpdclbfjngmppaaDoor

namespace Go.Proofs.YtpdclbfjngmppaaDoor
open Go.RowKit
set_option linter.unusedVariables false
set_option linter.unusedSimpArgs false

set_option maxRecDepth 20000 in
set_option maxHeartbeats 8000000 in
theorem drawSR (v : Value) (xs : List Int) (w : World) (hrow : Row w .u8 v xs) (hB : Bytes xs) (hl : xs.length ≤ 1048576) :
    Calls Tryd.prog 4 #[v] w fun e w' => ∃ r U zs, e = .returned r ∧ OpS w' (w.heap.size + 1) r (dsr xs) U zs ∧ Below w.heap.size w w' := by
  have S0 := sourceC v xs w hrow hB hl
  have D0 := dz_new hrow hB hl
  have H0 : Hid _ := And.intro S0 (And.intro D0 ((Below.refl w.heap.size w).alloc (Nat.le_refl _) (.cells #[v, .int .i64 0, .int .i64 ((xs.length : Int) % 1000)] 50)))
  clear S0 D0 hrow hB hl
  go_enter Tryd.func4, Tryd.ntmps4
  go_wp2_with fail
  go_at_call 8
  refine H0.out.1.mono ?_
  rintro e w1 ⟨rfl, hw1⟩
  have H1 : Hid _ := And.intro (show Dz w1 w.heap.size v xs (stZ xs) 0 by rw [hw1]; exact H0.out.2.1) (And.intro (show Below w.heap.size w w1 by rw [hw1]; exact H0.out.2.2) (show w.heap.size + 1 ≤ w1.heap.size by rw [hw1]; simp))
  clear hw1 H0
  go_wp2_with fail
  go_at_call 10
  refine (sizeZ w.heap.size v xs (stZ xs) 0 80 _ (H1.out.1.alloc _) (by decide) (by decide)).mono ?_
  rintro e w2 ⟨k, ek, rfl, k0, k12, hw2⟩
  subst w2
  have HK : Hid _ := And.intro ek True.intro
  clear ek
  go_wp2_with fail
  go_at_call 9
  refine (nextZ w.heap.size v xs (stZ xs) 0 (k + 1) _ (H1.out.1.alloc _) (by decide) (by omega) (by omega)).mono ?_
  rintro e w3 ⟨n, s0, en, es0, rfl, n0, n1, d3, g3⟩
  obtain ⟨m, rfl⟩ := Int.eq_ofNat_of_zero_le n0
  have ek := HK.out.1
  have eN : dN xs = m + 1 := by unfold dN; rw [← ek, ← en, Int.toNat_natCast]
  have eS : dS0 xs = s0 := by unfold dS0; rw [← ek, ← es0]
  have H3 : Hid _ := And.intro d3 (And.intro (show OpS w3 (w.heap.size + 1) (.slice (some ⟨w1.heap.size, 0, none⟩) 0 0) [] (fun _ => .slice none 0 0) [] from (ops0S w1 (w.heap.size + 1) H1.out.2.2).drawn g3 (by omega)) (And.intro (show Below w.heap.size w w3 from (H1.out.2.1.alloc (by have := H1.out.2.2; omega) _).grown g3 (by have h2 := H1.out.2.2; simp; omega) (fun q hq => by have := Option.some.inj hq; omega)) (And.intro eN eS)))
  have hm : m ≤ 80 := by omega
  clear d3 g3 H1 n0 n1 k0 k12 eN eS en es0 ek HK
  go_wp2_with fail
  go_loopg [4, 5, 6, 7] (m + 1) (fun q ov av iv bv wr => ∃ (i a : Nat), i ≤ m + 1 ∧ q = m + 1 - i ∧ iv = .int .i64 ((m : Int) - i) ∧ av = .int .i64 (a : Int) ∧ a = (dLp xs s0 i).2.1 ∧ (∃ U zs, OpS wr (w.heap.size + 1) ov (dLp xs s0 i).1 U zs) ∧ Dz wr w.heap.size v xs (dLp xs s0 i).2.2 (3 + 1100 * i) ∧ Below w.heap.size w wr)
  case atStart => exact ⟨0, 0, by omega, by omega, by simp, rfl, rfl, ⟨_, _, H3.out.2.1⟩, H3.out.1, H3.out.2.2.1⟩
  case round =>
    obtain ⟨i, a, hi, hq, rfl, rfl, ea, ⟨U, zs, hS⟩, hd, hb⟩ := hrel
    obtain ⟨s, es⟩ : ∃ s, s = (dLp xs s0 i).2.2 := ⟨_, rfl⟩
    rw [← es] at hd
    have ha : a ≤ 14 * i := by rw [ea]; exact dLp_at xs s0 i
    obtain ⟨ao, co, ev⟩ := hS.brow.form
    rw [dLp_len] at ev
    subst ev
    have hsz : w.heap.size < wr.heap.size := hd.lt
    have HR : Hid _ := And.intro hS (And.intro hd (And.intro hb (And.intro hq (And.intro ea es))))
    clear hS hd hb hq ea es
    by_cases hlt : i ≤ m
    · have hge : (0 : Int) ≤ (m : Int) - i := by omega
      go_wp2_with fail
      go_at_call 9
      refine (nextZ w.heap.size v xs s _ 15 _ (HR.out.2.1.alloc _) (by omega) (by decide) (by decide)).mono ?_
      rintro e w4 ⟨k, s1, ek, es1, rfl, k0, k1, d4, g4⟩
      obtain ⟨kn, rfl⟩ := Int.eq_ofNat_of_zero_le k0
      have ct := tab15 (by omega) g4 kn (by omega)
      obtain ⟨kk, ekk, hkk⟩ := k15_ok kn k0 k1
      rw [Int.toNat_natCast] at ekk
      rw [ekk] at ct
      have R4 : Hid _ := RD.new d4 ((HR.out.1.below ((Below.refl _ _).alloc (Nat.le_refl _) _)).drawn g4 (by omega)) ((HR.out.2.2.1.alloc (by omega) _).grown g4 (by simp; omega) (fun q hq => by have := Option.some.inj hq; omega)) kk
      have HE : Hid _ := And.intro ek (And.intro es1 ekk)
      have HK8 : Hid _ := hkk
      clear d4 g4 ek es1 ekk hkk
      go_upto_block 2 with fail
      go_cut [5] from 16 to 101 (fun v5 wx => v5 = .int .i64 ((dA xs kk a s1).2.1 : Int) ∧ ∃ ua un uc, RD w wx v xs (dA xs kk a s1).2.2 (3 + 1100 * i + 1020) (.slice ao i co) (dLp xs s0 i).1 w4.heap.size (dA xs kk a s1).1 (.slice ua un uc))
      case first =>
        obtain rfl | rfl | rfl | rfl | rfl | rfl | rfl | rfl := HK8.out
        · go_wp2_with fail
          go_at_call 9
          refine (nextZ w.heap.size v xs s1 _ 15 _ R4.out.dz (by omega) (by decide) (by decide)).mono ?_
          rintro e w5 ⟨n, s2, en, es2, rfl, n0, n1, d5, g5⟩
          obtain ⟨nn, rfl⟩ := Int.eq_ofNat_of_zero_le n0
          have R5 : Hid _ := And.intro (R4.out.draw d5 g5) (And.intro en es2)
          clear d5 g5 en es2
          go_wp2_with fail
          go_at_call 11
          refine (bytesZ w.heap.size v xs s2 _ nn _ R5.out.1.dz (by omega) (by omega)).mono ?_
          rintro e w6 ⟨r, ys, s3, eys, es3, rfl, hyl, hyb, o6, d6, g6⟩
          obtain ⟨ra, rc, er⟩ := own_form (show w6.ownsRow w5.heap.size 5 1 r ys.length (ys.map (Value.int .u8)) by rw [hyl]; exact o6)
          rw [hyl] at er
          subst er
          have R6 := R5.out.1.draw d6 g6
          have f3 := R6.f3
          have fr := R6.free 3
          have R7 := R6.set 3 (.slice ra nn rc) ⟨1, 0, 0, ys, false⟩ (.slice ra nn rc) rfl (by rw [hyl]; exact owns_mono o6 (by have := R5.out.1.size; omega))
          have g3 := R7.f3
          have H7 : Hid _ := And.intro R7 (And.intro eys (And.intro es3 hyl))
          clear R6 R7 o6 d6 g6 eys es3 hyl hyb
          go_wp2_with fail
          go_meet
          have e1 : dA xs 1 a s1 = (⟨1, 0, 0, ys, false⟩, a + nn, s3) := by rw [dA_1, ← R5.out.2.1, Int.toNat_natCast, ← R5.out.2.2, ← H7.out.2.1, ← H7.out.2.2.1]
          rw [e1]
          exact ⟨by first | rfl | (congr 1; omega), ra, nn, rc, H7.out.1.mono (by omega)⟩
        · go_wp2_with fail
          go_at_call 12
          refine (chanceZ w.heap.size v xs s1 _ 3 _ R4.out.dz (by omega) (by decide) (by decide)).mono ?_
          rintro e w5 ⟨b5, s2, eb, es2, rfl, d5, g5⟩
          have R5 := R4.out.draw d5 g5
          have e1 : dA xs 2 a s1 = if b5 = true then (⟨2, 0, 0, [], false⟩, a, s2) else (⟨4, 0, 1500, [], false⟩, a, s2) := dA_2 xs 2 (by decide) a s1 s2 b5 eb es2
          have fr0 := R5.free 0
          have f0 := R5.f0
          have R6 := R5.set 0 (.int .i64 4) ⟨4, 0, 0, [], false⟩ (.slice none 0 0) rfl (World.ownsRow_nil _ _ _ _)
          have fr2 := R6.free 2
          have f2 := R6.f2
          have R7 := R6.set 2 (.int .i64 1500) ⟨4, 0, 1500, [], false⟩ (.slice none 0 0) rfl (World.ownsRow_nil _ _ _ _)
          have H7 : Hid _ := And.intro R5 (And.intro R7 e1)
          clear R5 R6 R7 e1 d5 g5 eb es2
          cases b5
          · go_wp2_with fail
            go_meet
            rw [H7.out.2.2, if_neg (by decide)]
            exact ⟨rfl, _, _, _, H7.out.2.1.mono (by omega)⟩
          · go_wp2_with fail
            go_meet
            rw [H7.out.2.2, if_pos True.intro]
            exact ⟨rfl, _, _, _, H7.out.1.mono (by omega)⟩
        · go_wp2_with fail
          go_at_call 9
          refine (nextZ w.heap.size v xs s1 _ ((a : Int) + 10) _ R4.out.dz (by omega) (by omega) (by omega)).mono ?_
          rintro e w5 ⟨n, s2, en, es2, rfl, n0, n1, d5, g5⟩
          have R5 := R4.out.draw d5 g5
          have fr2 := R5.free 2
          have f2 := R5.f2
          have R7 := R5.set 2 (.int .i64 (n)) ⟨3, 0, n, [], false⟩ (.slice none 0 0) rfl (World.ownsRow_nil _ _ _ _)
          have H7 : Hid _ := And.intro R7 (And.intro en es2)
          clear R5 R7 d5 g5 en es2
          go_wp2_with fail
          go_meet
          have e1 : dA xs 3 a s1 = (⟨3, 0, n, [], false⟩, a, s2) := by rw [dA_3, ← H7.out.2.1, ← H7.out.2.2]
          rw [e1]
          exact ⟨rfl, _, _, _, H7.out.1.mono (by omega)⟩
        · go_wp2_with fail
          go_at_call 9
          refine (nextZ w.heap.size v xs s1 _ (12) _ R4.out.dz (by omega) (by omega) (by omega)).mono ?_
          rintro e w5 ⟨n, s2, en, es2, rfl, n0, n1, d5, g5⟩
          have R5 := R4.out.draw d5 g5
          have fr2 := R5.free 2
          have f2 := R5.f2
          have R7 := R5.set 2 (.int .i64 (1 + n)) ⟨4, 0, 1 + n, [], false⟩ (.slice none 0 0) rfl (World.ownsRow_nil _ _ _ _)
          have H7 : Hid _ := And.intro R7 (And.intro en es2)
          clear R5 R7 d5 g5 en es2
          go_wp2_with fail
          go_meet
          have e1 : dA xs 4 a s1 = (⟨4, 0, 1 + n, [], false⟩, a, s2) := by rw [dA_4, ← H7.out.2.1, ← H7.out.2.2]
          rw [e1]
          exact ⟨rfl, _, _, _, H7.out.1.mono (by omega)⟩
        · go_wp2_with fail
          go_at_call 9
          refine (nextZ w.heap.size v xs s1 _ ((a : Int) + 1) _ R4.out.dz (by omega) (by omega) (by omega)).mono ?_
          rintro e w5 ⟨f, s2, ef, es2, rfl, f0, f1, d5, g5⟩
          have R5 := R4.out.draw d5 g5
          have fr1 := R5.free 1
          have z1 := R5.f1
          have R6 := R5.set 1 (.int .i64 f) ⟨5, f, 0, [], false⟩ (.slice none 0 0) rfl (World.ownsRow_nil _ _ _ _)
          have y1 := R6.f1
          have H6 : Hid _ := And.intro R6 (And.intro ef es2)
          clear R5 R6 d5 g5 ef es2
          go_wp2_with fail
          go_at_call 9
          refine (nextZ w.heap.size v xs s2 _ ((a : Int) - f + 2) _ H6.out.1.dz (by omega) (by omega) (by omega)).mono ?_
          rintro e w6 ⟨n, s3, en, es3, rfl, n0, n1, d6, g6⟩
          have R7 := H6.out.1.draw d6 g6
          have fr2 := R7.free 2
          have z2 := R7.f2
          have R8 := R7.set 2 (.int .i64 n) ⟨5, f, n, [], false⟩ (.slice none 0 0) rfl (World.ownsRow_nil _ _ _ _)
          have H8 : Hid _ := And.intro R8 (And.intro en es3)
          clear R7 R8 d6 g6 en es3
          go_wp2_with fail
          go_at_call 12
          refine (chanceZ w.heap.size v xs s3 _ 3 _ H8.out.1.dz (by omega) (by decide) (by decide)).mono ?_
          rintro e w7 ⟨b7, s4, eb, es4, rfl, d7, g7⟩
          have e1 := dA_5 xs 5 (by decide) a s1 s2 s3 s4 f n b7 H6.out.2.1 H6.out.2.2 H8.out.2.1 H8.out.2.2 eb es4
          have R9 := H8.out.1.draw d7 g7
          have x1 := R9.f1
          have x2 := R9.f2
          have fr3 := R9.free 2
          have RA := R9.set 2 (.int .i64 (max 0 ((a : Int) - f))) ⟨5, f, max 0 ((a : Int) - f), [], false⟩ (.slice none 0 0) rfl (World.ownsRow_nil _ _ _ _)
          have fr4 := RA.free 4
          have x4 := RA.f4
          have RB := RA.set 4 (.bool true) ⟨5, f, max 0 ((a : Int) - f), [], true⟩ (.slice none 0 0) rfl (World.ownsRow_nil _ _ _ _)
          have HZ : Hid _ := And.intro R9 (And.intro RB e1)
          clear R9 RA RB e1 d7 g7 eb es4
          cases b7
          · go_wp2_with fail
            go_meet
            rw [HZ.out.2.2, if_neg (by decide)]
            exact ⟨rfl, _, _, _, HZ.out.1.mono (by omega)⟩
          · go_wp2_with fail
            go_meet
            rw [HZ.out.2.2, if_pos True.intro]
            exact ⟨rfl, _, _, _, HZ.out.2.1.mono (by omega)⟩
        · go_wp2_with fail
          go_at_call 9
          refine (nextZ w.heap.size v xs s1 _ ((a : Int) + 1) _ R4.out.dz (by omega) (by omega) (by omega)).mono ?_
          rintro e w5 ⟨f, s2, ef, es2, rfl, f0, f1, d5, g5⟩
          have R5 := R4.out.draw d5 g5
          have fr1 := R5.free 1
          have z1 := R5.f1
          have R6 := R5.set 1 (.int .i64 f) ⟨6, f, 0, [], false⟩ (.slice none 0 0) rfl (World.ownsRow_nil _ _ _ _)
          have y1 := R6.f1
          have H6 : Hid _ := And.intro R6 (And.intro ef es2)
          clear R5 R6 d5 g5 ef es2
          go_wp2_with fail
          go_at_call 9
          refine (nextZ w.heap.size v xs s2 _ ((a : Int) - f + 2) _ H6.out.1.dz (by omega) (by omega) (by omega)).mono ?_
          rintro e w6 ⟨n, s3, en, es3, rfl, n0, n1, d6, g6⟩
          have R7 := H6.out.1.draw d6 g6
          have fr2 := R7.free 2
          have z2 := R7.f2
          have R8 := R7.set 2 (.int .i64 n) ⟨6, f, n, [], false⟩ (.slice none 0 0) rfl (World.ownsRow_nil _ _ _ _)
          have H8 : Hid _ := And.intro R8 (And.intro en es3)
          clear R7 R8 d6 g6 en es3
          go_wp2_with fail
          go_at_call 12
          refine (chanceZ w.heap.size v xs s3 _ 3 _ H8.out.1.dz (by omega) (by decide) (by decide)).mono ?_
          rintro e w7 ⟨b7, s4, eb, es4, rfl, d7, g7⟩
          have e1 := dA_5 xs 6 (by decide) a s1 s2 s3 s4 f n b7 H6.out.2.1 H6.out.2.2 H8.out.2.1 H8.out.2.2 eb es4
          have R9 := H8.out.1.draw d7 g7
          have x1 := R9.f1
          have x2 := R9.f2
          have fr3 := R9.free 2
          have RA := R9.set 2 (.int .i64 (max 0 ((a : Int) - f))) ⟨6, f, max 0 ((a : Int) - f), [], false⟩ (.slice none 0 0) rfl (World.ownsRow_nil _ _ _ _)
          have fr4 := RA.free 4
          have x4 := RA.f4
          have RB := RA.set 4 (.bool true) ⟨6, f, max 0 ((a : Int) - f), [], true⟩ (.slice none 0 0) rfl (World.ownsRow_nil _ _ _ _)
          have HZ : Hid _ := And.intro R9 (And.intro RB e1)
          clear R9 RA RB e1 d7 g7 eb es4
          cases b7
          · go_wp2_with fail
            go_meet
            rw [HZ.out.2.2, if_neg (by decide)]
            exact ⟨rfl, _, _, _, HZ.out.1.mono (by omega)⟩
          · go_wp2_with fail
            go_meet
            rw [HZ.out.2.2, if_pos True.intro]
            exact ⟨rfl, _, _, _, HZ.out.2.1.mono (by omega)⟩
        · go_wp2_with fail
          go_at_call 12
          refine (chanceZ w.heap.size v xs s1 _ 3 _ R4.out.dz (by omega) (by decide) (by decide)).mono ?_
          rintro e w5 ⟨b5, s2, eb, es2, rfl, d5, g5⟩
          have R5 := R4.out.draw d5 g5
          have e1 : dA xs 7 a s1 = if b5 = true then (⟨7, 0, 0, [], false⟩, a, s2) else (⟨4, 0, 1500, [], false⟩, a, s2) := dA_2 xs 7 (by decide) a s1 s2 b5 eb es2
          have fr0 := R5.free 0
          have f0 := R5.f0
          have R6 := R5.set 0 (.int .i64 4) ⟨4, 0, 0, [], false⟩ (.slice none 0 0) rfl (World.ownsRow_nil _ _ _ _)
          have fr2 := R6.free 2
          have f2 := R6.f2
          have R7 := R6.set 2 (.int .i64 1500) ⟨4, 0, 1500, [], false⟩ (.slice none 0 0) rfl (World.ownsRow_nil _ _ _ _)
          have H7 : Hid _ := And.intro R5 (And.intro R7 e1)
          clear R5 R6 R7 e1 d5 g5 eb es2
          cases b5
          · go_wp2_with fail
            go_meet
            rw [H7.out.2.2, if_neg (by decide)]
            exact ⟨rfl, _, _, _, H7.out.2.1.mono (by omega)⟩
          · go_wp2_with fail
            go_meet
            rw [H7.out.2.2, if_pos True.intro]
            exact ⟨rfl, _, _, _, H7.out.1.mono (by omega)⟩
        · go_wp2_with fail
          go_at_call 12
          refine (chanceZ w.heap.size v xs s1 _ 3 _ R4.out.dz (by omega) (by decide) (by decide)).mono ?_
          rintro e w5 ⟨b5, s2, eb, es2, rfl, d5, g5⟩
          have R5 := R4.out.draw d5 g5
          have e1 : dA xs 8 a s1 = if b5 = true then (⟨8, 0, 0, [], false⟩, a, s2) else (⟨4, 0, 1500, [], false⟩, a, s2) := dA_2 xs 8 (by decide) a s1 s2 b5 eb es2
          have fr0 := R5.free 0
          have f0 := R5.f0
          have R6 := R5.set 0 (.int .i64 4) ⟨4, 0, 0, [], false⟩ (.slice none 0 0) rfl (World.ownsRow_nil _ _ _ _)
          have fr2 := R6.free 2
          have f2 := R6.f2
          have R7 := R6.set 2 (.int .i64 1500) ⟨4, 0, 1500, [], false⟩ (.slice none 0 0) rfl (World.ownsRow_nil _ _ _ _)
          have H7 : Hid _ := And.intro R5 (And.intro R7 e1)
          clear R5 R6 R7 e1 d5 g5 eb es2
          cases b5
          · go_wp2_with fail
            go_meet
            rw [H7.out.2.2, if_neg (by decide)]
            exact ⟨rfl, _, _, _, H7.out.2.1.mono (by omega)⟩
          · go_wp2_with fail
            go_meet
            rw [H7.out.2.2, if_pos True.intro]
            exact ⟨rfl, _, _, _, H7.out.1.mono (by omega)⟩
      case rest =>
      obtain ⟨rfl, ua, un, uc, R5⟩ := hcut
      obtain ⟨rA, eA⟩ : ∃ r, r = dA xs kk a s1 := ⟨_, rfl⟩
      rw [← eA] at R5 ⊢
      obtain ⟨oA, aA, sA⟩ := rA
      dsimp only at R5 ⊢
      have H5 : Hid _ := And.intro R5 eA
      clear R5 eA R4 ct
      go_wp2_with fail
      go_at_call 12
      refine (chanceZ w.heap.size v xs sA _ 40 _ H5.out.1.dz (by omega) (by decide) (by decide)).mono ?_
      rintro e w6 ⟨b6, s6, eb6, es6, rfl, d6, g6⟩
      have R6 := H5.out.1.draw d6 g6
      have fr2 := R6.free 2
      have f2 := R6.f2
      have H6 : Hid _ := And.intro R6 (And.intro eb6 es6)
      clear R6 d6 g6 eb6 es6
      go_upto_if 88 with fail
      go_cut [5] from 16 to 101 (fun v5 wx => v5 = .int .i64 (aA : Int) ∧ RD w wx v xs (dB xs oA sA).2 (3 + 1100 * i + 1040) (.slice ao i co) (dLp xs s0 i).1 w4.heap.size (dB xs oA sA).1 (.slice ua un uc))
      case first =>
        have e1 := dB_if xs oA sA s6 b6 H6.out.2.1 H6.out.2.2
        have HB : Hid _ := And.intro e1 True.intro
        clear e1
        cases b6
        · go_wp2_with fail
          go_meet
          rw [HB.out.1, if_neg (by decide)]
          exact ⟨rfl, H6.out.1.mono (by omega)⟩
        · go_wp2_with fail
          go_at_call 13
          refine (numberZ w.heap.size v xs s6 _ _ H6.out.1.dz (by omega)).mono ?_
          rintro e w7 ⟨n, s7, en, es7, rfl, d7, g7⟩
          have R7 := H6.out.1.draw d7 g7
          have fr7 := R7.free 2
          have f7 := R7.f2
          have R8 := R7.set 2 (.int .i64 n) ⟨oA.f0, oA.f1, n, oA.f3, oA.f4⟩ (.slice ua un uc) rfl R7.du
          have H8 : Hid _ := And.intro R8 (And.intro en es7)
          clear R7 R8 d7 g7 en es7
          go_wp2_with fail
          go_meet
          rw [HB.out.1, if_pos True.intro, ← H8.out.2.1, ← H8.out.2.2]
          exact ⟨rfl, H8.out.1.mono (by omega)⟩
      case rest =>
      obtain ⟨rfl, R7⟩ := hcut
      obtain ⟨rB, eB⟩ : ∃ r, r = dB xs oA sA := ⟨_, rfl⟩
      rw [← eB] at R7
      obtain ⟨oB, sB⟩ := rB
      dsimp only at R7
      have H7 : Hid _ := And.intro R7 eB
      clear R7 eB H6 f2 fr2
      go_wp2_with fail
      go_at_call 12
      refine (chanceZ w.heap.size v xs sB _ 60 _ H7.out.1.dz (by omega) (by decide) (by decide)).mono ?_
      rintro e w8 ⟨b8, s8, eb8, es8, rfl, d8, g8⟩
      have R8 := H7.out.1.draw d8 g8
      have fr0 := R8.free 0
      have f0 := R8.f0
      have H8 : Hid _ := And.intro R8 (And.intro eb8 es8)
      clear R8 d8 g8 eb8 es8
      go_upto_if 93 with fail
      go_cut [5] from 16 to 101 (fun v5 wx => v5 = .int .i64 (aA : Int) ∧ RD w wx v xs (dC xs oB sB).2 (3 + 1100 * i + 1060) (.slice ao i co) (dLp xs s0 i).1 w4.heap.size (dC xs oB sB).1 (.slice ua un uc))
      case first =>
        have e1 := dC_if xs oB sB s8 b8 H8.out.2.1 H8.out.2.2
        have HB : Hid _ := And.intro e1 True.intro
        clear e1
        cases b8
        · go_wp2_with fail
          go_meet
          rw [HB.out.1, if_neg (by decide)]
          exact ⟨rfl, H8.out.1.mono (by omega)⟩
        · go_wp2_with fail
          go_at_call 9
          refine (nextZ w.heap.size v xs s8 _ 11 _ H8.out.1.dz (by omega) (by decide) (by decide)).mono ?_
          rintro e w9 ⟨n, s9, en, es9, rfl, n0, n1, d9, g9⟩
          have R9 := H8.out.1.draw d9 g9
          have fr9 := R9.free 0
          have f9 := R9.f0
          have RA := R9.set 0 (.int .i64 (n - 1)) ⟨n - 1, oB.f1, oB.f2, oB.f3, oB.f4⟩ (.slice ua un uc) rfl R9.du
          have H9 : Hid _ := And.intro RA (And.intro en es9)
          clear R9 RA d9 g9 en es9
          go_wp2_with fail
          go_meet
          rw [HB.out.1, if_pos True.intro, ← H9.out.2.1, ← H9.out.2.2]
          exact ⟨rfl, H9.out.1.mono (by omega)⟩
      case rest =>
      obtain ⟨rfl, RC⟩ := hcut
      obtain ⟨rC, eC⟩ : ∃ r, r = dC xs oB sB := ⟨_, rfl⟩
      rw [← eC] at RC
      obtain ⟨oC, sC⟩ := rC
      dsimp only at RC
      obtain ⟨U', zs', hS'⟩ := RC.so
      have z0 := RC.f0
      have z1 := RC.f1
      have z2 := RC.f2
      have z3 := RC.f3
      have z4 := RC.f4
      have hso := hS'.ow
      rw [dLp_len] at hso
      have hszc := RC.size
      have HC : Hid _ := And.intro RC (And.intro hS' (And.intro hso eC))
      clear RC hS' hso eC H8 f0 fr0
      go_wp2_with (at_builtin; refine wpList_append_opS rfl (.tmp 98) (.tmp 100) rfl (w.heap.size + 1) (.slice ao i co) i zs' rfl (owns_below HC.out.2.2.1 ((Below.refl _ _).alloc (Nat.le_refl _) _)) wc.heap.size (.int .i64 oC.f0) (.int .i64 oC.f1) (.int .i64 oC.f2) (.slice ua un uc) (.bool oC.f4) ⟨rfl, rfl, rfl, rfl, rfl⟩ rfl (heap_alloc_new wc _) (by omega) (by simp; omega) ?_; intro v6 w6 o6 g6; obtain ⟨ra6, rc6, er6⟩ := own_form o6; have HA : Hid _ := And.intro o6 g6; clear o6 g6; subst er6)
      go_roundg (m + 1 - (i + 1))
      case measure => (have := HR.out.2.2.2.1; omega)
      case rel =>
        have e1 := dLp_next xs s0 i a s s1 sA sB sC kn aA kk oA oB oC HR.out.2.2.2.2.1 HR.out.2.2.2.2.2 HE.out.1 HE.out.2.1 HE.out.2.2 H5.out.2 H7.out.2 HC.out.2.2.2
        have P := HC.out.1.push HC.out.2.1 (by rw [dLp_len]; exact HA.out.1) HA.out.2
        exact ⟨i + 1, aA, by omega, rfl, by congr 1; omega, rfl, by rw [e1], by rw [e1]; exact P.1, by rw [e1]; exact P.2.1.mono (by omega), P.2.2⟩
    · obtain rfl : i = m + 1 := by omega
      have hge : ¬ (0 : Int) ≤ (m : Int) - ((m + 1 : Nat) : Int) := by omega
      go_wp2_with fail
      go_at_call 12
      refine (chanceZ w.heap.size v xs s _ 30 _ HR.out.2.1 (by omega) (by decide) (by decide)).mono ?_
      rintro e w4 ⟨b4, s4, eb4, es4, rfl, d4, g4⟩
      have hS4 := HR.out.1.drawn g4 (by omega)
      have ho4 := hS4.ow
      rw [dLp_len] at ho4
      have H4 : Hid _ := And.intro hS4 (And.intro ho4 (And.intro d4 (And.intro (HR.out.2.2.1.grown g4 HR.out.2.2.1.size (fun q hq => by have := Option.some.inj hq; omega)) (And.intro eb4 es4))))
      clear d4 g4 eb4 es4 hS4 ho4
      cases b4
      · go_wp2_with fail
        go_ret
        refine ⟨_, U, zs, rfl, ?_, H4.out.2.2.2.1⟩
        rw [dsr_no xs (m + 1) a s0 s H3.out.2.2.2.1 H3.out.2.2.2.2 HR.out.2.2.2.2.2 H4.out.2.2.2.2.1]
        exact H4.out.1
      · go_wp2_with fail
        go_at_call 9
        refine (nextZ w.heap.size v xs s4 _ 2 _ H4.out.2.2.1 (by omega) (by decide) (by decide)).mono ?_
        rintro e w5 ⟨x, s5, ex, es5, rfl, x0, x1, d5, g5⟩
        obtain ⟨n, en⟩ : ∃ n : Nat, max 0 (65536 - (a : Int) + x) = (n : Int) := ⟨(max 0 (65536 - (a : Int) + x)).toNat, by omega⟩
        have hn : n ≤ 65537 := by omega
        obtain ⟨i0, hi0, hz0, hz1, hz2⟩ := info_parts infoU8
        have h5 : w.heap.size + 1 ≤ w5.heap.size := d5.lt
        have hS5 := H4.out.1.drawn g5 (by omega)
        have ho5 := hS5.ow
        rw [dLp_len] at ho5
        have H5 : Hid _ := And.intro hS5 (And.intro ho5 (And.intro (H4.out.2.2.2.1.grown g5 H4.out.2.2.2.1.size (fun q hq => by have := Option.some.inj hq; omega)) (And.intro ex en)))
        clear d5 g5 ex es5 hS5 ho5
        go_wp2_with (first
          | (at_make; refine wpList_make_full _ rfl _ _ 22 rfl (w.heap.size + 1) 5 i0 (.int .u8 0) 1 Tryd.underlying22 hi0 hz0 hz1 .i64 .i64 (n : Int) (n : Int) n (by first | rfl | (simp only [H5.out.2.2.2.2]; rfl)) rfl rfl rfl (by rw [hz2]; omega) (by unfold maxLen; omega) h5 ?_; intro w6 hown hg; have b6 : Below w5.heap.size w5 w6 := (Below.refl _ _).grown hg (Nat.le_refl _) (by intro k hk; cases hk); have h6 : w5.heap.size ≤ w6.heap.size := b6.size; have H6 : Hid _ := And.intro (made_zero hown) b6; clear hown hg b6)
          | (at_builtin; refine wpList_append_opS3 rfl (.tmp 104) (.tmp 115) rfl (w.heap.size + 1) (.slice ao (m + 1) co) (m + 1) zs rfl (owns_below (owns_below H5.out.2.1 H6.out.2) ((Below.refl _ _).alloc (Nat.le_refl _) _)) w6.heap.size [.int .i64 1, .int .i64 0, .int .i64 0, .slice (some ⟨w5.heap.size, 0, none⟩) n n, .bool false, .int .i64 3, .int .i64 0, .int .i64 4611686018427387903, .slice none 0 0, .bool false, .int .i64 4, .int .i64 0, .int .i64 1500, .slice none 0 0, .bool false] rfl (by intro x hx; simp only [List.mem_cons, List.not_mem_nil, or_false] at hx; rcases hx with rfl | rfl | rfl | rfl | rfl | rfl | rfl | rfl | rfl | rfl | rfl | rfl | rfl | rfl | rfl <;> rfl) rfl (heap_alloc_new w6 _) (by omega) (by simp; omega) ?_; intro v7 w7 o7 g7; have H7 : Hid _ := And.intro o7 g7; clear o7 g7))
        go_ret
        have bA : Below w6.heap.size w6 (w6.alloc (.cells ([.int .i64 1, .int .i64 0, .int .i64 0, .slice (some ⟨w5.heap.size, 0, none⟩) n n, .bool false, .int .i64 3, .int .i64 0, .int .i64 4611686018427387903, .slice none 0 0, .bool false, .int .i64 4, .int .i64 0, .int .i64 1500, .slice none 0 0, .bool false] : List Value).toArray 32)) := (Below.refl _ _).alloc (Nat.le_refl _) _
        have hS6 := (H5.out.1.below H6.out.2).below bA
        have hu : (w6.alloc (.cells ([.int .i64 1, .int .i64 0, .int .i64 0, .slice (some ⟨w5.heap.size, 0, none⟩) n n, .bool false, .int .i64 3, .int .i64 0, .int .i64 4611686018427387903, .slice none 0 0, .bool false, .int .i64 4, .int .i64 0, .int .i64 1500, .slice none 0 0, .bool false] : List Value).toArray 32)).ownsRow (w.heap.size + 1) 5 1 (.slice (some ⟨w5.heap.size, 0, none⟩) n n) (List.replicate n (0 : Int)).length ((List.replicate n (0 : Int)).map (Value.int .u8)) := by
          rw [List.length_replicate]
          exact owns_below H6.out.1 bA
        obtain ⟨U', zs', hS7⟩ := hS6.push3 ⟨1, 0, 0, List.replicate n 0, false⟩ ⟨3, 0, 4611686018427387903, [], false⟩ ⟨4, 0, 1500, [], false⟩ (.slice (some ⟨w5.heap.size, 0, none⟩) n n) (.slice none 0 0) (.slice none 0 0) hu (World.ownsRow_nil _ _ _ _) (World.ownsRow_nil _ _ _ _) (by rw [dLp_len]; exact H7.out.1) H7.out.2
        refine ⟨_, U', zs', rfl, ?_, ?_⟩
        · rw [dsr_yes xs (m + 1) a n s0 s s4 H3.out.2.2.2.1 H3.out.2.2.2.2 HR.out.2.2.2.2.2 HR.out.2.2.2.2.1 H4.out.2.2.2.2.1 H4.out.2.2.2.2.2 x H5.out.2.2.2.1 H5.out.2.2.2.2]
          exact hS7
        · have b3 := (H5.out.2.2.1.trans (H6.out.2.mono H5.out.2.2.1.size))
          have b4 := b3.trans (bA.mono b3.size)
          exact b4.grown H7.out.2 b4.size (fun t ht => by have := (hS6.ow.lt t ht).1; omega)
end Go.Proofs.YtpdclbfjngmppaaDoor

namespace Go.Proofs.YtpdclbfjngmppaaDoor
open Go.RowKit
set_option linter.unusedVariables false
set_option linter.unusedSimpArgs false

/-- lost, in memory. -/
def LoB (W : World) (lb : Nat) (lost : Nat → Bool) : Prop := ∃ cs : Array Value, W.heap[lb]? = some (.cells cs 4 (0, 0)) ∧ cs.size = 65537 ∧ ∀ k, k < 65537 → cs[k]? = some (.bool (lost k))
theorem LoB.cell {W : World} {lb : Nat} {lost : Nat → Bool} (h : LoB W lb lost) (k : Nat) (hk : k < 65537) : W.cell? ⟨lb, k, none⟩ = some (.bool (lost k)) := by
  obtain ⟨cs, b, s, c⟩ := h
  rw [bk_cell b]
  exact c k hk
theorem LoB.free {W : World} {lb : Nat} {lost : Nat → Bool} (h : LoB W lb lost) (k : Nat) : W.frozen? ⟨lb, k, none⟩ = false := by
  obtain ⟨cs, b, s, c⟩ := h
  exact bk_free b k
theorem LoB.lt {W : World} {lb : Nat} {lost : Nat → Bool} (h : LoB W lb lost) : lb < W.heap.size := by
  obtain ⟨cs, b, s, c⟩ := h
  exact (Array.getElem?_eq_some_iff.1 b).1
theorem LoB.set {W : World} {lb : Nat} {lost : Nat → Bool} (h : LoB W lb lost) (k : Nat) (x : Bool) : LoB (W.setCell ⟨lb, k, none⟩ (.bool x)) lb (fun j => if j = k then x else lost j) := by
  obtain ⟨cs, b, s, c⟩ := h
  refine ⟨cs.setIfInBounds k (.bool x), bk_set b k _, by simpa using s, fun j hj => ?_⟩
  by_cases e : j = k
  · subst e
    simp [Array.getElem?_setIfInBounds, s, hj]
  · show _ = some (Value.bool (if j = k then x else lost j))
    rw [if_neg e, ← c j hj, Array.getElem?_setIfInBounds, if_neg (fun q => e q.symm)]
theorem LoB.grown {W W' : World} {lb : Nat} {lost : Nat → Bool} {r : Option Nat} (h : LoB W lb lost) (g : W.grownBy W' r) (hr : r ≠ some lb) : LoB W' lb lost := by
  have hl := h.lt
  obtain ⟨cs, b, s, c⟩ := h
  exact ⟨cs, (g.block lb hl (fun e => hr e.symm)).trans b, s, c⟩
theorem lob_make {w' : World} {base g n : Nat} (hn : n = 65537) (h : w'.ownsRow base 4 1 (.slice (some ⟨g, 0, none⟩) n n) n (madeCells (Value.bool false).cells (n * 1)).toList) : LoB w' g (fun _ => false) := by
  have e : (madeCells (Value.bool false).cells (n * 1)).toList = List.replicate n (Value.bool false) := by
    rw [show (Value.bool false).cells = #[Value.bool false] from rfl, toList_madeCells_one]
    simp
  rw [e] at h
  rcases h.2 with ⟨q, _⟩ | ⟨g', cap, cur, q, h1, h2, h3, h4, h5, h6⟩
  · exact absurd q (by simp)
  · simp only [Value.slice.injEq, Option.some.injEq, Addr.mk.injEq] at q
    obtain ⟨⟨rfl, -⟩, -, rfl⟩ := q
    refine ⟨cur, h2, by omega, fun k hk => ?_⟩
    have h7 : cur.toList[k]? = (List.replicate n (Value.bool false))[k]? := by
      rw [← h6, List.getElem?_take, if_pos (by omega)]
    rw [← Array.getElem?_toList, h7, List.getElem?_replicate, if_pos (by omega)]
/-- The law's books, in memory. -/
structure LB (w5 W : World) (tv : Value) (T : List Int) (lb : Nat) (lost : Nat → Bool) : Prop where
  tx : W.ownsRow w5.heap.size 5 1 tv T.length (T.map (Value.int .u8))
  lo : LoB W lb lost
  hb : w5.heap.size ≤ lb
  bw : Below w5.heap.size w5 W
theorem LB.alloc {w5 W : World} {tv : Value} {T : List Int} {lb : Nat} {lost : Nat → Bool} (h : LB w5 W tv T lb lost) (o : Obj) : LB w5 (W.alloc o) tv T lb lost := by
  have b : Below W.heap.size W (W.alloc o) := (Below.refl _ _).alloc (Nat.le_refl _) o
  have hl := h.lo.lt
  obtain ⟨cs, b1, b2, b3⟩ := h.lo
  exact ⟨owns_below h.tx b, ⟨cs, (heap_alloc_old W o hl).trans b1, b2, b3⟩, h.hb, h.bw.alloc h.bw.size o⟩
theorem LB.drewN {w5 W : World} {tv : Value} {T : List Int} {lb : Nat} {lost : Nat → Bool} (h : LB w5 W tv T lb lost) (q : Nat) : LB w5 (W.drewN q) tv T lb lost :=
  ⟨h.tx, h.lo, h.hb, below_drewN h.bw q⟩
theorem LB.write {w5 W W' : World} {tv tv' : Value} {T D : List Int} {lb : Nat} {lost : Nat → Bool} (h : LB w5 W tv T lb lost) (o : W'.ownsRow w5.heap.size 5 1 tv' (T.length + D.length) ((T ++ D).map (Value.int .u8))) (g : W.grownBy W' tv.ownBlock) : LB w5 W' tv' (T ++ D) lb lost := by
  refine ⟨by rw [List.length_append]; exact o, h.lo.grown g (fun e => ?_), h.hb, h.bw.grown g h.bw.size (fun t ht => (h.tx.lt t ht).1)⟩
  obtain ⟨c2, t2⟩ := owns_typeB h.tx _ e
  obtain ⟨cs, b, -, -⟩ := h.lo
  rw [b] at t2
  have t3 := Option.some.inj t2
  injection t3 with _ t4
  exact absurd t4 (by decide)
theorem LB.set {w5 W : World} {tv : Value} {T : List Int} {lb : Nat} {lost : Nat → Bool} (h : LB w5 W tv T lb lost) (k : Nat) (x : Bool) : LB w5 (W.setCell ⟨lb, k, none⟩ (.bool x)) tv T lb (fun j => if j = k then x else lost j) := by
  have hg := grown_setCell W lb k (.bool x)
  have hb := h.hb
  obtain ⟨cs, b, -, -⟩ := h.lo
  exact ⟨own_blkT h.tx hg b (by decide), h.lo.set k x, hb, h.bw.grown hg h.bw.size (fun q hq => by have := Option.some.inj hq; omega)⟩
/-- Amid a round: the books, and the box with the observation. -/
structure LR (w5 W : World) (tv : Value) (T : List Int) (lb : Nat) (lost : Nat → Bool) (bx : Nat) (q0 q1 q2 : Int) (u : Value) (q4 q5 q6 : Bool) : Prop where
  bo : LB w5 W tv T lb lost
  bk : W.heap[bx]? = some (.cells #[.int .i64 q0, .int .i64 q1, .int .i64 q2, u, .bool q4, .bool q5, .bool q6] 30 (0, 0))
theorem LR.new {w5 W : World} {tv : Value} {T : List Int} {lb : Nat} {lost : Nat → Bool} (h : LB w5 W tv T lb lost) (q0 q1 q2 : Int) (u : Value) (q4 q5 q6 : Bool) : LR w5 (W.alloc (.cells #[.int .i64 q0, .int .i64 q1, .int .i64 q2, u, .bool q4, .bool q5, .bool q6] 30)) tv T lb lost W.heap.size q0 q1 q2 u q4 q5 q6 := ⟨h.alloc _, heap_alloc_new W _⟩
theorem LR.drewN {w5 W : World} {tv : Value} {T : List Int} {lb : Nat} {lost : Nat → Bool} {bx : Nat} {q0 q1 q2 : Int} {u : Value} {q4 q5 q6 : Bool} (h : LR w5 W tv T lb lost bx q0 q1 q2 u q4 q5 q6) (q : Nat) : LR w5 (W.drewN q) tv T lb lost bx q0 q1 q2 u q4 q5 q6 := ⟨h.bo.drewN q, h.bk⟩
theorem LR.set {w5 W : World} {tv : Value} {T : List Int} {lb : Nat} {lost : Nat → Bool} {bx : Nat} {q0 q1 q2 : Int} {u : Value} {q4 q5 q6 : Bool} (h : LR w5 W tv T lb lost bx q0 q1 q2 u q4 q5 q6) (k : Nat) (x : Bool) : LR w5 (W.setCell ⟨lb, k, none⟩ (.bool x)) tv T lb (fun j => if j = k then x else lost j) bx q0 q1 q2 u q4 q5 q6 := by
  refine ⟨h.bo.set k x, ((grown_setCell W lb k (.bool x)).block bx (Array.getElem?_eq_some_iff.1 h.bk).1 (fun e => ?_)).trans h.bk⟩
  obtain ⟨cs, b, -, -⟩ := h.bo.lo
  have e2 : bx = lb := Option.some.inj e
  have t2 := h.bk
  rw [e2, b] at t2
  have t3 := Option.some.inj t2
  injection t3 with _ t4
  exact absurd t4 (by decide)
theorem row_cutZ {w : World} {b N ct : Nat} {X : List Int} (h : Row w .u8 (.slice (some ⟨b, 0, none⟩) N ct) X) (hX : X.length = N) (hc : N ≤ ct) (p k : Nat) (hk : p + k ≤ N) : Row w .u8 (.slice (if ct = p then some ⟨b, 0, none⟩ else some ⟨b, p, none⟩) k (ct - p)) ((X.drop p).take k) := by
  split
  · have hk0 : k = 0 := by omega
    subst hk0
    exact Or.inl ⟨by simp, _, _, rfl⟩
  · have := row_cutP h hX p k hk
    rw [Nat.zero_add] at this
    exact this
theorem row_cut0 {w : World} (X : List Int) (ao : Option Addr) (c p : Nat) : Row w .u8 (.slice ao 0 c) ((X.drop p).take 0) := Or.inl ⟨by simp, _, _, rfl⟩
/-- What is drawn is within bounds. -/
def GoodD (A : List SSendOp) : Prop := ∀ o ∈ A, o.d.length ≤ 65537 ∧ o.f1 ≤ 9223372036854775807 ∧ o.f2 ≤ 9223372036854775807
theorem dA_good (xs : List Int) (k : Int) (a : Nat) (s : St) (ha : a ≤ 2000) : (dA xs k a s).1.f3.length ≤ 14 ∧ (dA xs k a s).1.f1 ≤ 3000 ∧ (dA xs k a s).1.f2 ≤ 3000 := by
  have b15 := nextV_bd xs 15 s (by decide)
  unfold dA
  split
  · exact ⟨by show (bysV xs (nextS xs 15 s) (nextV xs 15 s).toNat).length ≤ 14; rw [bysV_length]; omega, by dsimp only; omega, by dsimp only; omega⟩
  split
  · have := nextV_bd xs ((a : Int) + 10) s (by omega)
    exact ⟨Nat.zero_le _, by dsimp only; omega, by dsimp only; omega⟩
  split
  · have := nextV_bd xs 12 s (by omega)
    exact ⟨Nat.zero_le _, by dsimp only; omega, by dsimp only; omega⟩
  have h1 := nextV_bd xs ((a : Int) + 1) s (by omega)
  have h2 := nextV_bd xs ((a : Int) - nextV xs ((a : Int) + 1) s + 2) (nextS xs ((a : Int) + 1) s) (by omega)
  split
  · split
    · exact ⟨Nat.zero_le _, by dsimp only; omega, by dsimp only; omega⟩
    · exact ⟨Nat.zero_le _, by dsimp only; omega, by dsimp only; omega⟩
  · split
    · exact ⟨Nat.zero_le _, by dsimp only; omega, by dsimp only; omega⟩
    · exact ⟨Nat.zero_le _, by dsimp only; omega, by dsimp only; omega⟩
theorem dB_good (xs : List Int) (o : SSendOp) (s : St) (h2 : o.f2 ≤ 9223372036854775807) : (dB xs o s).1.f3 = o.f3 ∧ (dB xs o s).1.f1 = o.f1 ∧ (dB xs o s).1.f2 ≤ 9223372036854775807 := by
  unfold dB
  split
  · exact ⟨rfl, rfl, (numV_bd xs _).2⟩
  · exact ⟨rfl, rfl, h2⟩
theorem dC_good (xs : List Int) (o : SSendOp) (s : St) : (dC xs o s).1.f3 = o.f3 ∧ (dC xs o s).1.f1 = o.f1 ∧ (dC xs o s).1.f2 = o.f2 := by
  unfold dC
  split <;> exact ⟨rfl, rfl, rfl⟩
theorem dOp_good (xs : List Int) (a : Nat) (s : St) (ha : a ≤ 2000) : (dOp xs a s).1.d.length ≤ 65537 ∧ (dOp xs a s).1.f1 ≤ 9223372036854775807 ∧ (dOp xs a s).1.f2 ≤ 9223372036854775807 := by
  obtain ⟨rA, eA⟩ : ∃ r, r = dA xs (k15.getD (nextV xs 15 s).toNat 0) a (nextS xs 15 s) := ⟨_, rfl⟩
  have gA := dA_good xs (k15.getD (nextV xs 15 s).toNat 0) a (nextS xs 15 s) ha
  rw [← eA] at gA
  obtain ⟨rB, eB⟩ : ∃ r, r = dB xs rA.1 rA.2.2 := ⟨_, rfl⟩
  have gB := dB_good xs rA.1 rA.2.2 (by omega)
  rw [← eB] at gB
  have gC := dC_good xs rB.1 rB.2
  have e : (dOp xs a s).1 = (dC xs rB.1 rB.2).1 := by rw [eB, eA]; rfl
  rw [e]
  exact ⟨by show (dC xs rB.1 rB.2).1.f3.length ≤ _; rw [gC.1, gB.1]; omega, by rw [gC.2.1, gB.2.1]; omega, by rw [gC.2.2]; exact gB.2.2⟩
theorem dLp_good (xs : List Int) (s0 : St) : ∀ i, i ≤ 100 → GoodD (dLp xs s0 i).1
  | 0, _ => fun o ho => absurd ho (by simp [dLp])
  | i + 1, hi => fun o ho => by
    rw [dLp_succ] at ho
    rcases List.mem_append.1 ho with z | z
    · exact dLp_good xs s0 i (by omega) o z
    · have ho2 : o = (dOp xs (dLp xs s0 i).2.1 (dLp xs s0 i).2.2).1 := by simpa using z
      rw [ho2]
      have := dLp_at xs s0 i
      exact dOp_good xs _ _ (by omega)
theorem dsr_good (xs : List Int) : GoodD (dsr xs) ∧ 1 ≤ (dsr xs).length ∧ (dsr xs).length ≤ 84 := by
  have hn := dN_le xs
  have g := dLp_good xs (dS0 xs) (dN xs) (by omega)
  have hl := dLp_len xs (dS0 xs) (dN xs)
  have e : dsr xs = if nextV xs 30 (dLp xs (dS0 xs) (dN xs)).2.2 = 29 then (dLp xs (dS0 xs) (dN xs)).1 ++ [⟨1, 0, 0, List.replicate (max 0 (65536 - ((dLp xs (dS0 xs) (dN xs)).2.1 : Int) + nextV xs 2 (nextS xs 30 (dLp xs (dS0 xs) (dN xs)).2.2))).toNat 0, false⟩, ⟨3, 0, 4611686018427387903, [], false⟩, ⟨4, 0, 1500, [], false⟩] else (dLp xs (dS0 xs) (dN xs)).1 := rfl
  rw [e]
  have h2 := nextV_bd xs 2 (nextS xs 30 (dLp xs (dS0 xs) (dN xs)).2.2) (by decide)
  split
  · refine ⟨fun o ho => ?_, by simp, by rw [List.length_append, hl]; simp; omega⟩
    rcases List.mem_append.1 ho with z | z
    · exact g o z
    · simp only [List.mem_cons, List.not_mem_nil, or_false] at z
      rcases z with rfl | rfl | rfl
      · exact ⟨by show (List.replicate _ _).length ≤ _; rw [List.length_replicate]; omega, by show (0 : Int) ≤ 9223372036854775807; omega, by show (0 : Int) ≤ 9223372036854775807; omega⟩
      · exact ⟨Nat.zero_le _, by show (0 : Int) ≤ 9223372036854775807; omega, by show (4611686018427387903 : Int) ≤ 9223372036854775807; omega⟩
      · exact ⟨Nat.zero_le _, by show (0 : Int) ≤ 9223372036854775807; omega, by show (1500 : Int) ≤ 9223372036854775807; omega⟩
  · exact ⟨g, by omega, by omega⟩
theorem GoodD.at {A : List SSendOp} (h : GoodD A) (j : Nat) (hj : j < A.length) : (A.getD j default).d.length ≤ 65537 ∧ (A.getD j default).f1 ≤ 9223372036854775807 ∧ (A.getD j default).f2 ≤ 9223372036854775807 := by
  refine h _ ?_
  rw [List.getD_eq_getElem?_getD, List.getElem?_eq_getElem hj]
  exact List.getElem_mem _
end Go.Proofs.YtpdclbfjngmppaaDoor
