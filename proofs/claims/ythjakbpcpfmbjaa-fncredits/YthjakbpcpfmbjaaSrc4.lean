import Derived.Test.YthjakbpcpfmbjaaSrc3
namespace Go.Proofs.Ythjakbpcpfmbjaa
open Go.RowKit
set_option linter.unusedVariables false

def gdV (xs : List Int) (s : St) : Int := if numV xs s < 0 ∨ 4611686018427387903 < numV xs s then nextV xs 50 (numS xs s) else numV xs s
def gdS (xs : List Int) (s : St) : St := if numV xs s < 0 ∨ 4611686018427387903 < numV xs s then nextS xs 50 (numS xs s) else numS xs s
theorem gdS_pos (xs : List Int) (s : St) : s.pos ≤ (gdS xs s).pos ∧ (gdS xs s).pos ≤ s.pos + 12 := by
  have h1 := numS_pos xs s
  have h2 := nextS_pos xs 50 (numS xs s)
  unfold gdS; split <;> omega

/-- The states behind k good numbers; the numbers. -/
def itS (xs : List Int) (s : St) : Nat → St
  | 0 => s
  | k + 1 => gdS xs (itS xs s k)
def itV (xs : List Int) (s : St) (k : Nat) : Int := gdV xs (itS xs s k)
def lst (N : Nat → Int) (k : Nat) : List Int := (List.range k).map N
theorem lst_length (N : Nat → Int) (k : Nat) : (lst N k).length = k := by simp [lst]
theorem lst_succ (N : Nat → Int) (k : Nat) : lst N (k + 1) = lst N k ++ [N k] := by simp [lst, List.range_succ]
theorem itS_pos (xs : List Int) (s : St) (k : Nat) : s.pos ≤ (itS xs s k).pos ∧ (itS xs s k).pos ≤ s.pos + 12 * k := by
  induction k with
  | zero => simp [itS]
  | succ k ih =>
    have := gdS_pos xs (itS xs s k)
    simp only [itS]
    omega

theorem grown_own {w wr w2 : World} {g : Nat} {r : Option Nat} (h : w.grownBy wr (some g)) (h2 : wr.grownBy w2 r) (hr : ∀ k, r = some k → w.heap.size ≤ k) : w.grownBy w2 (some g) :=
  ⟨h2.os.trans h.os, h2.tape.trans h.tape, h2.output.trans h.output, Nat.le_trans h.size h2.size, fun i hi hg =>
    (h2.block i (Nat.lt_of_lt_of_le hi h.size) (fun e => by have := hr i e.symm; omega)).trans (h.block i hi hg)⟩

/-- Where the code of the source lies: not in a block from 'base' on. -/
def Low (base : Nat) (v : Value) : Prop := ∀ b off n cap, 0 < n → v = .slice (some ⟨b, off, none⟩) n cap → b < base

/-- What one append behind a step of the source does. -/
theorem src_push {w wr w1 w2 : World} {g k : Nat} {c v v' : Value} {xs : List Int} {s' : St} {N : Nat → Int} {o : Obj} (hlow : Low w.heap.size c) (hgl : g < w.heap.size)
    (hown : wr.ownsRow w.heap.size 3 1 v k ((lst N k).map (Value.int .i64))) (hg : w.grownBy wr (some g)) (hg1 : wr.grownBy w1 (some g)) (hd1 : Drw w1 g c xs s')
    (hown2 : w2.ownsRow w.heap.size 3 1 v' (k + 1) ((lst N k).map (Value.int .i64) ++ [Value.int .i64 (N k)])) (hgrow : (w1.alloc o).grownBy w2 v.ownBlock) :
    w2.ownsRow w.heap.size 3 1 v' (k + 1) ((lst N (k + 1)).map (Value.int .i64)) ∧ Drw w2 g c xs s' ∧ w.grownBy w2 (some g) := by
  have hr : ∀ j, v.ownBlock = some j → w.heap.size ≤ j := fun j hj => (hown.lt j hj).1
  refine ⟨by rw [lst_succ, List.map_append]; exact hown2, ?_, ?_⟩
  · refine (drw_alloc hd1 o).kept hgrow (fun e => by have := hr g e.symm; omega) (fun b off n cap h0 e e' => ?_)
    have h1 := hlow b off n cap h0 e
    have h2 := hr b e'.symm
    omega
  · exact grown_own (grown_trans (grown_trans hg hg1) (World.grownBy_alloc w1 o (some g))) hgrow hr

theorem own_step {wr w1 : World} {base e k g : Nat} {v : Value} {xs : List Value} (hown : wr.ownsRow base e 1 v k xs) (hg1 : wr.grownBy w1 (some g)) (hgl : g < base) : w1.ownsRow base e 1 v k xs := by
  refine hown.kept hg1 ?_
  cases hv : v.ownBlock with
  | none => exact Or.inl rfl
  | some j =>
    right
    intro e
    have := (hown.lt j hv).1
    have := Option.some.inj e
    omega

theorem infoInts : (Try.prog.info? 3).map (fun i => (i.zero, i.size, i.bytes)) = some (some (.int .i64 0), 1, 8) := by kernel_rfl

def lsN (xs : List Int) (s : St) : Nat := (nextV xs (szV xs 40 + 1) s).toNat
def lsS (xs : List Int) (s : St) : St := nextS xs (szV xs 40 + 1) s
theorem szV_bd (xs : List Int) : 1 ≤ szV xs 40 ∧ szV xs 40 ≤ 40 := by unfold szV; split <;> omega
theorem lsN_bd (xs : List Int) (s : St) : lsN xs s ≤ 40 ∧ ((lsN xs s : Nat) : Int) = nextV xs (szV xs 40 + 1) s := by
  have h1 := szV_bd xs
  have h2 := nextV_bd xs (szV xs 40 + 1) s (by omega)
  unfold lsN; omega

end Go.Proofs.Ythjakbpcpfmbjaa
