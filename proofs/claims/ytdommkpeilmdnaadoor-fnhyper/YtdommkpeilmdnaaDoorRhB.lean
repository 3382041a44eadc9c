import Derived.Test.YtdommkpeilmdnaaDoorRhA
import Derived.Test.YtdommkpeilmdnaaDoorRhP
import Derived.Test.YtdommkpeilmdnaaDoorFlApp
import Derived.Deep.RegionLaw
import Derived.Deep.LoopGhost
import Derived.Deep.CutRange
namespace Go.Proofs.YtdommkpeilmdnaaDoor
open Go.RowKit
set_option linter.unusedVariables false

theorem SSetting.flat (L : List SSetting) : FlatK 2 (SSetting.L L) := fun x hx => by
  obtain ⟨a, _, rfl⟩ := List.mem_map.1 hx
  refine ⟨rfl, fun v hv => ?_⟩
  simp only [SSetting.c, List.mem_cons, List.not_mem_nil, or_false] at hv
  rcases hv with rfl | rfl <;> rfl
theorem GOwns.nil (T : TypeId) (K : Nat) (w : World) (base : Nat) : GOwns T K w base (.slice none 0 0) [] := ⟨[], World.ownsRow_nil _ _ _ _, fun j hj => by simp at hj⟩
theorem GOwns.chg {S : Nat → Prop} {T : TypeId} {K : Nat} {w w' : World} {base : Nat} {v : Value} {L : List (List Value)} (h : GOwns T K w base v L) (hc : Chg S w w') (hs : ∀ k, base ≤ k → ¬ S k) : GOwns T K w' base v L := by
  obtain ⟨zs, ho, hz⟩ := h
  refine ⟨zs, ⟨ho.1, ?_⟩, hz⟩
  rcases ho.2 with hn | ⟨g, cap, cur, rfl, hb, hg, hr⟩
  · exact Or.inl hn
  · exact Or.inr ⟨g, cap, cur, rfl, hb, (hc.block g (Array.getElem?_eq_some_iff.1 hg).1 (hs g hb)).trans hg, hr⟩
/-- A frame that is being read, as its block holds it. -/
def fB (w : World) (g : Nat) (k a : Int) (d s : Value) : Prop := w.heap[g]? = some (.cells #[.int .i64 k, .int .i64 a, d, s] 26 (0, 0))
theorem fB.c0 {w : World} {g : Nat} {k a : Int} {d s : Value} (h : fB w g k a d s) : w.cell? ⟨g, 0, none⟩ = some (.int .i64 k) := (bk_cell h 0).trans rfl
theorem fB.c1 {w : World} {g : Nat} {k a : Int} {d s : Value} (h : fB w g k a d s) : w.cell? ⟨g, 1, none⟩ = some (.int .i64 a) := (bk_cell h 1).trans rfl
theorem fB.c2 {w : World} {g : Nat} {k a : Int} {d s : Value} (h : fB w g k a d s) : w.cell? ⟨g, 2, none⟩ = some d := (bk_cell h 2).trans rfl
theorem fB.c3 {w : World} {g : Nat} {k a : Int} {d s : Value} (h : fB w g k a d s) : w.cell? ⟨g, 3, none⟩ = some s := (bk_cell h 3).trans rfl
theorem fB.fr {w : World} {g : Nat} {k a : Int} {d s : Value} (h : fB w g k a d s) (o : Nat) : w.frozen? ⟨g, o, none⟩ = false := bk_free h o
theorem fB.lt {w : World} {g : Nat} {k a : Int} {d s : Value} (h : fB w g k a d s) : g < w.heap.size := (Array.getElem?_eq_some_iff.1 h).1
theorem fB.set1 {w : World} {g : Nat} {k a : Int} {d s : Value} (h : fB w g k a d s) (x : Int) : fB (w.setCell ⟨g, 1, none⟩ (.int .i64 x)) g k x d s := bk_set h 1 _
theorem fB.set2 {w : World} {g : Nat} {k a : Int} {d s : Value} (h : fB w g k a d s) (x : Value) : fB (w.setCell ⟨g, 2, none⟩ x) g k a x s := bk_set h 2 _
theorem fB.set3 {w : World} {g : Nat} {k a : Int} {d s : Value} (h : fB w g k a d s) (x : Value) : fB (w.setCell ⟨g, 3, none⟩ x) g k a d x := bk_set h 3 _
theorem fB.chg {S : Nat → Prop} {w w' : World} {g : Nat} {k a : Int} {d s : Value} (h : fB w g k a d s) (hc : Chg S w w') (hs : ¬ S g) : fB w' g k a d s := (hc.block g h.lt hs).trans h
/-- The bytes that are read: none, or somewhere. -/
def Pay (w : World) (ao : Option Addr) (n cap : Nat) (ys : List Int) : Prop := (ao = none ∧ n = 0 ∧ cap = 0 ∧ ys = []) ∨ ∃ b off, ao = some ⟨b, off, none⟩ ∧ Lies w b off n cap ys
set_option maxRecDepth 20000 in
/-- Nothing taken of nothing. -/
theorem take_nil (g : Nat) (w : World) (h : rdB w g (.slice none 0 0) 0) :
    Calls Tryd.prog 26 #[.pointer (some ⟨g, 0, none⟩), .int .i64 0] w fun e w' => ∃ v, e = .returned v ∧ w'.ownsRow w.heap.size 5 1 v 0 (([] : List Int).map (Value.int .u8)) ∧ rdB w' g (.slice none 0 0) 0 ∧ Chg (· = g) w w' := by
  have hw0 : IntKind.i64.wrap 0 = 0 := by decide
  have hr := restC g none 0 0 0 w h ⟨by omega, by omega⟩ (by omega)
  have c0 := h.c0
  have c1 := h.c1
  have f1 := h.fr 1
  have CH : Chg (· = g) w ((w.setCell ⟨g, 1, none⟩ (.int .i64 0)).drew.drew) := ⟨rfl, rfl, rfl, by simp [World.setCell], fun q hq hs => bk_other (w := w) hs 1 _⟩
  have hR : rdB ((w.setCell ⟨g, 1, none⟩ (.int .i64 0)).drew.drew) g (.slice none 0 0) 0 := h.set _
  have HH : Hid _ := And.intro CH (And.intro hR True.intro)
  clear h CH hR
  go_enter Tryd.func26, Tryd.ntmps26
  go_wp2_with fail
  go_at_call 44
  refine hr.mono ?_
  rintro e w' ⟨rfl, rfl⟩
  go_wp2_with fail
  go_at_call 25
  refine (leaveIf_f _ 2 _).mono ?_
  rintro e w' ⟨rfl, rfl⟩
  go_wp2_with fail
  go_region_law (refine step_append_row rfl (.const _) (.tmp 33) rfl w.heap.size (.slice none 0 0) 0 [] rfl (World.ownsRow_nil _ _ _ _) _ [] rfl (Or.inl ⟨rfl, _, _, rfl⟩) (by decide) (by simp [World.setCell]) ?_; intro v1 w1 o1 g1)
  all_goals (have HF : Hid _ := And.intro o1 (And.intro (HH.out.2.1.below (grown_below g1)) (HH.out.1.trans (Chg.of_below (grown_below g1)))); clear o1 g1; go_wp2_with fail)
  all_goals (go_ret; exact ⟨v1, rfl, HF.out.1, HF.out.2.1, HF.out.2.2⟩)
end Go.Proofs.YtdommkpeilmdnaaDoor
