import Derived.Test.YthjakbpcpfmbjaaSrc3
namespace Go.Proofs.Ythjakbpcpfmbjaa
open Go.RowKit
set_option linter.unusedVariables false

def stZ (xs : List Int) : St := ⟨0, (xs.length : Int) % 1000⟩

theorem sourceC (v : Value) (xs : List Int) (w : World) (hrow : Row w .u8 v xs) (hB : Bytes xs) (hl : xs.length ≤ 1048576) :
    Calls Try.prog 11 #[v] w fun e w' => e = .returned (.pointer (some ⟨w.heap.size, 0, none⟩)) ∧ w' = w.alloc (.cells #[v, .int .i64 0, .int .i64 ((xs.length : Int) % 1000)] 61) := by
  obtain ⟨ao, cap, rfl⟩ := hrow.form
  clear hrow hB
  generalize xs.length = n at *
  go_enter Try.func11, Try.ntmps11
  go_wp2
  go_ret
  exact ⟨rfl, rfl⟩

theorem drw_new {w : World} {v : Value} {xs : List Int} (hrow : Row w .u8 v xs) (hB : Bytes xs) (hl : xs.length ≤ 1048576) :
    Drw (w.alloc (.cells #[v, .int .i64 0, .int .i64 ((xs.length : Int) % 1000)] 61)) w.heap.size v xs (stZ xs) := by
  refine ⟨(MapKept.heap_alloc w _).1, hrow.grown (World.grownBy_alloc w _ none) (by intros; simp), ?_, hB, hl, Int.le_refl 0, by show 0 ≤ (xs.length : Int) % 1000; omega, by show (xs.length : Int) % 1000 < 2147483648; omega⟩
  intro b off n cap h0 e
  rcases hrow with ⟨rfl, ao, cap', e'⟩ | ⟨b', off', cap', e', hb, _⟩
  · rw [e] at e'; cases e'; omega
  · rw [e] at e'; cases e'; omega
theorem grown_belowS {w w1 w2 : World} {o : Obj} (h1 : w1 = w.alloc o) (h2 : w1.grownBy w2 (some w.heap.size)) : Below w.heap.size w w2 := by
  subst h1
  refine ⟨h2.os, h2.tape, h2.output, ?_, fun k hk => ?_⟩
  · have := h2.size; simp at this; omega
  · rw [h2.block k (by simp; omega) (fun e => by have := Option.some.inj e; omega)]
    exact Below.heap_alloc w o k hk

end Go.Proofs.Ythjakbpcpfmbjaa
