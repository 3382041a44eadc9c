import Derived.Test.YtjikdecfampbiaaPhG
import Derived.Deep.RegionWith
import Derived.Deep.RegionLaw
import Derived.Defers
namespace Go.Proofs.Ytjikdecfampbiaa
open Go.RowKit
set_option linter.unusedVariables false
set_option linter.unusedSimpArgs false

theorem mayX (a b : Int) (t : Bool) (w : World) (ha : 0 ≤ a ∧ a ≤ 600000) (hb : 0 ≤ b ∧ b ≤ 600000) :
    Calls Try.prog 36 #[.agg #[.int .i64 a, .int .i64 b, .bool t]] w fun e w' => e = .returned (.int .i64 (if t then 4611686018427387903 else max 0 (3 * a - b))) ∧ w' = w.alloc (.cells #[.int .i64 a, .int .i64 b, .bool t] 61) := by
  cases t
  · go_enter Try.func36, Try.ntmps36
    go_wp2_with fail
    go_ret
    exact ⟨rfl, rfl⟩
  · go_enter Try.func36, Try.ntmps36
    go_wp2_with fail
    go_ret
    exact ⟨rfl, rfl⟩
/-- What settle leaves: the observation's cells; all else as it was. -/
structure SetQ (w w' : World) (qb : Nat) (cs : Array Value) : Prop where
  os : w'.os = w.os
  tape : w'.tape = w.tape
  output : w'.output = w.output
  size : w.heap.size ≤ w'.heap.size
  bk : w'.heap[qb]? = some (.cells cs 41 (0, 0))
  other : ∀ k, k < w.heap.size → k ≠ qb → w'.heap[k]? = w.heap[k]?
theorem settle_end {w W : World} {qb : Nat} {c z1 z2 a b : Int} {z3 z4 t : Bool} (hW : W.heap[qb]? = some (.cells #[.int .i64 c, .int .i64 z1, .int .i64 z2, .bool z3, .bool z4] 41 (0, 0))) 
    (hs : Below w.heap.size w W) :
    SetQ w (((W.setCell ⟨qb, 1, none⟩ (.int .i64 a)).setCell ⟨qb, 3, none⟩ (.bool t)).setCell ⟨qb, 2, none⟩ (.int .i64 b)) qb #[.int .i64 c, .int .i64 a, .int .i64 b, .bool t, .bool z4] :=
  ⟨hs.os, hs.tape, hs.output, by rw [setCell_size, setCell_size, setCell_size]; exact hs.size, (bk_set (bk_set (bk_set hW 1 _) 3 _) 2 _).trans rfl, fun k h1 h2 => ((bk_other h2 _ _).trans ((bk_other h2 _ _).trans (bk_other h2 _ _))).trans (hs.block k h1)⟩
set_option maxRecDepth 20000 in
set_option maxHeartbeats 4000000 in
theorem settleI (g qb : Nat) (m : PX) (wv : Value) (i : Nat) (c : Int) (z1 z2 : Int) (z3 z4 : Bool) (w : World) (hB : PB w g m wv) (hI : PXI i m) (hi : i ≤ 300) (hq : w.heap[qb]? = some (.cells #[.int .i64 c, .int .i64 z1, .int .i64 z2, .bool z3, .bool z4] 41 (0, 0))) :
    CallsD Try.prog 28 #[.pointer (some ⟨g, 0, none⟩), .pointer (some ⟨qb, 0, none⟩)] .returning w fun e u' w' => u' = .returning ∧ (e = .returned (.tuple #[]) ∧ SetQ w w' qb #[.int .i64 c, .int .i64 (m.ad : Int), .int .i64 m.may, .bool (m.va m.ad), .bool z4]) := by
  have ha := hI.ad
  obtain ⟨k1, k2, k3⟩ := hB.ck m.ad ha
  have cm := hI.cm m.ad
  have st := hI.st m.ad
  have d1 := hB.c1
  have hgl := hB.lt
  have hql := (Array.getElem?_eq_some_iff.1 hq).1
  have q1 : w.cell? ⟨qb, 1, none⟩ = some (.int .i64 z1) := (bk_cell hq 1).trans rfl
  have q2 : w.cell? ⟨qb, 2, none⟩ = some (.int .i64 z2) := (bk_cell hq 2).trans rfl
  have q3 : w.cell? ⟨qb, 3, none⟩ = some (.bool z3) := (bk_cell hq 3).trans rfl
  have e1 := bk_free hq 1
  have e2 := bk_free hq 2
  have e3 := bk_free hq 3
  have U : ∀ W : World, W.heap[g]? = w.heap[g]? → Calls Try.prog 35 #[.pointer (some ⟨g, 0, none⟩)] W fun e w' => e = .returned (.pointer (some ⟨g, 2 + m.ad * 3, none⟩)) ∧ ∃ n, w' = W.drewN n := fun W hW => inUseI g m wv W (hB.same hW) ha
  have M : ∀ W : World, Calls Try.prog 36 #[.agg #[.int .i64 (m.cm m.ad), .int .i64 (m.st m.ad), .bool (m.va m.ad)]] W fun e w' => e = .returned (.int .i64 m.may) ∧ w' = W.alloc (.cells #[.int .i64 (m.cm m.ad), .int .i64 (m.st m.ad), .bool (m.va m.ad)] 61) := fun W => mayX _ _ _ W (by omega) (by omega)
  have hne : g ≠ qb := fun e => by
    subst e
    obtain ⟨cs, b⟩ := hB.bk
    rw [b] at hq
    have e2 := Option.some.inj hq
    injection e2 with _ e3
    exact absurd e3 (by decide)
  obtain ⟨ad, ead⟩ : ∃ ad, ad = m.ad := ⟨_, rfl⟩
  obtain ⟨x, ex⟩ : ∃ x, x = m.cm m.ad := ⟨_, rfl⟩
  obtain ⟨y, ey⟩ : ∃ x, x = m.st m.ad := ⟨_, rfl⟩
  obtain ⟨t, et⟩ : ∃ x, x = m.va m.ad := ⟨_, rfl⟩
  obtain ⟨mm, em⟩ : ∃ x, x = m.may := ⟨_, rfl⟩
  rw [← ex, ← ey, ← et, ← em] at M
  rw [← ead] at U
  rw [← ex, ← ead] at k1
  rw [← ey, ← ead] at k2
  rw [← et, ← ead] at k3
  rw [← ead] at d1
  rw [← em, ← et, ← ead]
  have nb : ∀ (n b o : Nat), b < w.heap.size → ((w.drewN n).alloc (.cells #[.int .i64 x, .int .i64 y, .bool t] 61)).cell? ⟨b, o, none⟩ = w.cell? ⟨b, o, none⟩ := fun n b o hb => World.cell?_of_block (a := ⟨b, o, none⟩) (heap_alloc_old (w.drewN n) _ hb)
  have nf : ∀ (n b o : Nat), b < w.heap.size → ((w.drewN n).alloc (.cells #[.int .i64 x, .int .i64 y, .bool t] 61)).frozen? ⟨b, o, none⟩ = w.frozen? ⟨b, o, none⟩ := fun n b o hb => World.frozen?_of_block (a := ⟨b, o, none⟩) (heap_alloc_old (w.drewN n) _ hb)
  have n1 := fun n => (nb n qb 1 hql).trans q1
  have n2 := fun n => (nb n qb 2 hql).trans q2
  have n3 := fun n => (nb n qb 3 hql).trans q3
  have n4 := fun n => (nf n qb 1 hql).trans e1
  have n5 := fun n => (nf n qb 2 hql).trans e2
  have n6 := fun n => (nf n qb 3 hql).trans e3
  have n7 := fun n => (nb n g 1 hgl).trans d1
  have n8 := fun n => (nb n g _ hgl).trans k3
  clear nb nf
  have HU : Hid _ := And.intro U (And.intro M (And.intro hB hq))
  clear U M hB hq hI ead ex ey et em cm st ha
  go_enter_d Try.func28, Try.ntmps28
  go_wp2_with fail
  go_region_law (first
    | (go_simp; go_at_call 36; refine (HU.out.2.1 _).mono ?_; rintro e wa ⟨rfl, rfl⟩)
    | (go_simp; go_at_call 35; refine (HU.out.1 _ (by first | rfl | exact heap_alloc_old (w.drewN _) _ hgl)).mono ?_; rintro e wa ⟨rfl, qn, rfl⟩))
  all_goals
    go_end0
    exact ⟨rfl, settle_end ((heap_alloc_old (w.drewN _) _ hql).trans HU.out.2.2.2) (below_drewN (((below_drewN (Below.refl _ _) _).alloc (Nat.le_refl _) _)) 0)⟩
end Go.Proofs.Ytjikdecfampbiaa
