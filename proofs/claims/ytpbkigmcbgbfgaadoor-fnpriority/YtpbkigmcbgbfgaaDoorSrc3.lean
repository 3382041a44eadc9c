import Derived.Test.YtpbkigmcbgbfgaaDoorSrc2
namespace Go.Proofs.YtpbkigmcbgbfgaaDoor
open Go.RowKit
set_option linter.unusedVariables false

theorem chanceC (g : Nat) (v : Value) (xs : List Int) (n : Int) (s : St) (w : World) (h : Drw w g v xs s) (hp : s.pos ≤ 1099511627000) (hn0 : 1 ≤ n) (hn1 : n ≤ 2147483648) :
    Calls Tryd.prog 10 #[.pointer (some ⟨g, 0, none⟩), .int .i64 n] w fun e w' => e = .returned (.bool (nextV xs n s == n - 1)) ∧ Drw w' g v xs (nextS xs n s) ∧ w.grownBy w' (some g) := by
  have N := nextC g v xs n s w h hp hn0 hn1
  generalize nextV xs n s = x at N
  clear h
  go_enter Tryd.func10, Tryd.ntmps10
  go_wp2_with (go_at_call 9; refine N.mono ?_; rintro e w1 ⟨rfl, hd1, hg1⟩)
  go_ret
  exact ⟨rfl, hd1, hg1⟩

def szV (xs : List Int) (m : Int) : Int := if 1 + (xs.length : Int) / 12 ≤ m then 1 + (xs.length : Int) / 12 else m
def tab9 : List Int := [0, 63, 64, 16383, 16384, 1073741823, 1073741824, 4611686018427387903, 4611686018427387902]
def tab4 : List Int := [-1, 4611686018427387904, 9223372036854775807, -9223372036854775808]

/-- What was laid in a new block ahead of the source's step is there behind it. -/
theorem laid_cell {w w' : World} {g B i : Nat} {ts : List Int} {e : TypeId} (hg : (w.alloc (.cells (ts.map (Value.int .i64)).toArray e)).grownBy w' (some g)) (hgB : g < w.heap.size) (hB : B = w.heap.size) (hi : i < ts.length) :
    w'.cell? ⟨B, i, none⟩ = some (.int .i64 (ts.getD i 0)) := by
  subst hB
  have h1 : w'.heap[w.heap.size]? = some (.cells (ts.map (Value.int .i64)).toArray e (0, 0)) := by
    rw [hg.block w.heap.size (by simp) (fun h => by have := Option.some.inj h; omega)]
    exact (MapKept.heap_alloc w _).1
  rw [blk_cell h1]
  simp [List.getD, hi]

def numV (xs : List Int) (s : St) : Int :=
  if nextV xs 12 s = 0 then tab9.getD (nextV xs 9 (nextS xs 12 s)).toNat 0
  else if nextV xs 12 s = 1 then nextV xs 16777216 (nextS xs 12 s) * 65536 + nextV xs 65536 (nextS xs 16777216 (nextS xs 12 s))
  else if nextV xs 12 s = 2 then tab4.getD (nextV xs 4 (nextS xs 12 s)).toNat 0
  else if nextV xs 12 s = 3 ∨ nextV xs 12 s = 4 then nextV xs 20000 (nextS xs 12 s)
  else nextV xs 100 (nextS xs 12 s)
def numS (xs : List Int) (s : St) : St :=
  if nextV xs 12 s = 0 then nextS xs 9 (nextS xs 12 s)
  else if nextV xs 12 s = 1 then nextS xs 65536 (nextS xs 16777216 (nextS xs 12 s))
  else if nextV xs 12 s = 2 then nextS xs 4 (nextS xs 12 s)
  else if nextV xs 12 s = 3 ∨ nextV xs 12 s = 4 then nextS xs 20000 (nextS xs 12 s)
  else nextS xs 100 (nextS xs 12 s)
theorem numS_pos (xs : List Int) (s : St) : s.pos ≤ (numS xs s).pos ∧ (numS xs s).pos ≤ s.pos + 9 := by
  have h1 := nextS_pos xs 12 s
  have h2 := fun n => nextS_pos xs n (nextS xs 12 s)
  have h3 := nextS_pos xs 65536 (nextS xs 16777216 (nextS xs 12 s))
  unfold numS
  split
  · have := h2 9; omega
  · split
    · have := h2 16777216; omega
    · split
      · have := h2 4; omega
      · split
        · have := h2 20000; omega
        · have := h2 100; omega
theorem drw_lt {w : World} {g : Nat} {v : Value} {xs : List Int} {s : St} (h : Drw w g v xs s) : g < w.heap.size := (Array.getElem?_eq_some_iff.1 h.blk).1
theorem drw_alloc {w : World} {g : Nat} {v : Value} {xs : List Int} {s : St} (h : Drw w g v xs s) (o : Obj) : Drw (w.alloc o) g v xs s :=
  h.kept (World.grownBy_alloc w o none) (by simp) (by intros; simp)

end Go.Proofs.YtpbkigmcbgbfgaaDoor
