import Derived.Test.YtpdclbfjngmppaaDoorBkA
import Derived.Test.YtpdclbfjngmppaaDoorBkB
import Derived.Laws.Rows
import Derived.BigRegion
import Derived.Deep.LoopGhost
namespace Go.Proofs.YtpdclbfjngmppaaDoor
open Go.RowKit
set_option linter.unusedVariables false

theorem mt5 (st : Nat) (hs : st < 6) : mtV 0 st 5 = decide (st = 4) := by
  have : st = 0 ∨ st = 1 ∨ st = 2 ∨ st = 3 ∨ st = 4 ∨ st = 5 := by omega
  rcases this with rfl | rfl | rfl | rfl | rfl | rfl <;> rfl
theorem mt3 (st : Nat) (hs : st < 6) : mtV 0 st 3 = decide (st = 2) := by
  have : st = 0 ∨ st = 1 ∨ st = 2 ∨ st = 3 ∨ st = 4 ∨ st = 5 := by omega
  rcases this with rfl | rfl | rfl | rfl | rfl | rfl <;> rfl
end Go.Proofs.YtpdclbfjngmppaaDoor

namespace Go.Proofs.YtpdclbfjngmppaaDoor
open Go.RowKit
set_option linter.unusedVariables false

/-- k places from first on are there, and no more may be given to one who asks for n. -/
def Rdy (L : List (Bool × Int)) (win first : Nat) (n : Int) (k : Nat) : Prop :=
  (k : Int) ≤ n ∧ k ≤ win ∧ (∀ i, i < k → (L.getD ((first + i) % win) (false, 0)).1 = true) ∧ ((k : Int) = n ∨ k = win ∨ (L.getD ((first + k) % win) (false, 0)).1 = false)
theorem infoUb : (Tryd.prog.info? 5).map (fun i => (i.zero, i.size, i.bytes)) = some (some (.int .u8 0), 1, 1) := by kernel_rfl
end Go.Proofs.YtpdclbfjngmppaaDoor

namespace Go.Proofs.YtpdclbfjngmppaaDoor
open Go.RowKit
set_option linter.unusedVariables false

/-- What the program's part needs of the world: the table, and where things lie. -/
structure Env (w : World) (g c win i : Nat) (m : MS) : Prop where
  tab : TabF w
  t0 : 0 < w.heap.size
  hne : ¬ K2 g c 0
  hgc : g ≠ c
  w1 : 1 ≤ win
  w2 : win ≤ 16384
  i4 : i ≤ 400
  inv : MI win i m
theorem Env.after {w w' : World} {g c win i : Nat} {m m' : MS} (h : Env w g c win i m) (hc : Chg (K2 g c) w w') (hi : i + 1 ≤ 400) (hm : MI win (i + 1) m') : Env w' g c win (i + 1) m' :=
  ⟨h.tab.chg hc h.t0 h.hne, Nat.lt_of_lt_of_le h.t0 hc.size, h.hne, h.hgc, h.w1, h.w2, hi, hm⟩
theorem Chg.of_eq' {S : Nat → Prop} {w w' : World} (h : w' = w) : Chg S w w' := by subst h; exact chg_of_eq _
end Go.Proofs.YtpdclbfjngmppaaDoor

namespace Go.Proofs.YtpdclbfjngmppaaDoor
open Go.RowKit
set_option linter.unusedVariables false

theorem Env.below {w w' : World} {g c win i : Nat} {m : MS} (h : Env w g c win i m) (hb : Below w.heap.size w w') : Env w' g c win i m :=
  ⟨h.tab.below hb h.t0, Nat.lt_of_lt_of_le h.t0 hb.size, h.hne, h.hgc, h.w1, h.w2, h.i4, h.inv⟩
theorem run_below (w : World) (o1 o2 o3 : Obj) : Below w.heap.size w (((w.alloc o1).alloc o2).alloc o3) := (((Below.refl _ _).alloc (Nat.le_refl _) _).alloc (by simp) _).alloc (by simp <;> omega) _
theorem Chg.drewX {S : Nat → Prop} {w w' : World} (h : Chg S w w') : Chg S w w'.drew := ⟨h.os, h.tape, h.output, h.size, h.block⟩
theorem Chg.setN {S : Nat → Prop} {w w' : World} (h : Chg S w w') (k i : Nat) (u : Value) (hk : w.heap.size ≤ k) : Chg S w (w'.setCell ⟨k, i, none⟩ u) :=
  ⟨h.os, h.tape, h.output, by have := h.size; simpa [World.setCell] using this, fun j hj hs => (bk_other (k := j) (g := k) (by omega) i u).trans (h.block j hj hs)⟩
theorem heap_drewX {w : World} {k : Nat} {o : Option Obj} (h : w.heap[k]? = o) : w.drew.heap[k]? = o := h
theorem owns_drewX {w : World} {base e s n : Nat} {v : Value} {xs : List Value} (h : w.ownsRow base e s v n xs) : w.drew.ownsRow base e s v n xs := h
end Go.Proofs.YtpdclbfjngmppaaDoor

namespace Go.Proofs.YtpdclbfjngmppaaDoor
open Go.RowKit
set_option linter.unusedVariables false

end Go.Proofs.YtpdclbfjngmppaaDoor

namespace Go.Proofs.YtpdclbfjngmppaaDoor
open Go.RowKit
set_option linter.unusedVariables false

theorem Chg.ownsG {S : Nat → Prop} {w w' : World} {base e s n : Nat} {v : Value} {xs : List Value} (h : Chg S w w') (ho : w.ownsRow base e s v n xs) (hne : ∀ k, v.ownBlock = some k → ¬ S k) : w'.ownsRow base e s v n xs := by
  obtain ⟨hl, h2⟩ := ho
  refine ⟨hl, ?_⟩
  rcases h2 with h2 | ⟨g', cap, cur, rfl, hg, hh, r⟩
  · exact Or.inl h2
  · exact Or.inr ⟨g', cap, cur, rfl, hg, (h.block g' (Array.getElem?_eq_some_iff.1 hh).1 (hne g' rfl)).trans hh, r⟩
theorem Chg.toBelow {S : Nat → Prop} {w w' : World} {B : Nat} (h : Chg S w w') (hB : B ≤ w.heap.size) (hs : ∀ k, k < B → ¬ S k) : Below B w w' := ⟨h.os, h.tape, h.output, h.size, fun k hk => h.block k (by omega) (hs k hk)⟩
theorem Env.setE {w : World} {g c win i : Nat} {m : MS} (h : Env w g c win i m) (k o : Nat) (u : Value) (hk : 0 < k) : Env (w.setCell ⟨k, o, none⟩ u) g c win i m :=
  ⟨h.tab.chg (S := (· = k)) ((chg_of_eq w).set' k o u rfl) h.t0 (fun e => by have : 0 = k := e; omega), by have := h.t0; simpa [World.setCell] using this, h.hne, h.hgc, h.w1, h.w2, h.i4, h.inv⟩
end Go.Proofs.YtpdclbfjngmppaaDoor

namespace Go.Proofs.YtpdclbfjngmppaaDoor
open Go.RowKit
set_option linter.unusedVariables false

/-- What RecvRun answers. -/
def rrY (win : Int) (R : List SRecvOp) : List SRecvObs := if 400 < R.length ∨ win < 1 ∨ 16384 < win then [] else (mrun win.toNat R R.length).2
def rrC (win : Int) (R : List SRecvOp) : Int := if 400 < R.length then 4 else if win < 1 ∨ 16384 < win then 1 else 0
theorem BOwns.nilB {α : Type} [Inhabited α] (T : TypeId) (K : Nat) (c : α → Value → List Value) (d : α → List Int) (w : World) (base : Nat) : BOwns T K c d w base (.slice none 0 0) [] :=
  ⟨fun _ => .slice none 0 0, ⟨[], World.ownsRow_nil _ _ _ _, fun j hj => by simp [zl] at hj⟩, fun j hj => by simp at hj, fun i j _ hj => by simp at hj⟩
end Go.Proofs.YtpdclbfjngmppaaDoor
