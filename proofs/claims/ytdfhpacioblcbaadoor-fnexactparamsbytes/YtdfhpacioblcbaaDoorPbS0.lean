import Derived.Test.YtdfhpacioblcbaaDoorPbA
import Derived.Test.YtdfhpacioblcbaaDoorPokS
import Derived.Test.YtdfhpacioblcbaaDoorStoreE
import Derived.Test.YtdfhpacioblcbaaDoorBlocks
namespace Go.Proofs.YtdfhpacioblcbaaDoor
open Go.RowKit
set_option linter.unusedVariables false

theorem pok_parts (p : PP) (s : Bool) (h : pok p s = true) : (p.o.length ≤ 8 ∧ p.t.length ≤ 8 ∧ p.f.length ≤ 8) ∧ (0 ≤ p.a0 ∧ p.a0 ≤ 1000000000000) ∧ (1200 ≤ p.a1 ∧ p.a1 ≤ 2000) ∧ (1 ≤ p.a2 ∧ p.a2 ≤ 16384) ∧ (1 ≤ p.a3 ∧ p.a3 ≤ 16384) ∧ (0 ≤ p.a4 ∧ p.a4 ≤ 64) ∧ (0 ≤ p.a5 ∧ p.a5 ≤ 64) ∧ (0 ≤ p.a6 ∧ p.a6 ≤ 1000000) ∧ (2 ≤ p.a7 ∧ p.a7 ≤ 16) ∧ (0 ≤ p.a8 ∧ p.a8 ≤ 1500) := by
  unfold pok pokL at h
  simp only [List.all_cons, List.all_nil, id, Bool.and_true, Bool.true_and, Bool.and_eq_true, btw, decide_eq_true_eq] at h
  obtain ⟨h0, h1, h2, h3, h4, h5, h6, h7, h8, h10, h11, h12⟩ := h
  have e0 : p.o.length ≤ 8 := by generalize p.o.length = no at h0 ⊢; cases s <;> simp at h0 <;> omega
  have e2 : p.t.length ≤ 8 := by generalize p.t.length = nt at h2 ⊢; cases s <;> simp at h2 <;> omega
  exact ⟨⟨e0, e2, h11⟩, h1, h3, h4, h5, h6, h7, h8, h10, h12⟩
theorem parL_le (p : PP) (s : Bool) (h : pok p s = true) (k : Nat) : ((parL p s).getD k []).length ≤ 24 := by
  obtain ⟨⟨e0, e2, e1⟩, h0, h1, h2, h3, h4, h5, h6, h7, h8⟩ := pok_parts p s h
  have pe : ∀ (n x : Int), 0 ≤ n → n ≤ 63 → 0 ≤ x → x ≤ 4611686018427387903 → (entB n (putv x)).length ≤ 24 := fun n x a b c d => entB_le n _ a b (putv_le x c d)
  unfold parL
  match k with
  | 0 => simp only [List.getD, List.getElem?_cons_zero, Option.getD_some]; split; exact entB_le 0 p.o (by decide) (by decide) e0; simp
  | 1 => exact pe 1 p.a0 (by decide) (by decide) (by omega) (by omega)
  | 2 => show (if 0 < p.t.length then entB 2 p.t else []).length ≤ 24; split; exact entB_le 2 p.t (by decide) (by decide) e2; simp
  | 3 => exact pe 3 p.a1 (by decide) (by decide) (by omega) (by omega)
  | 4 => exact pe 4 p.a2 (by decide) (by decide) (by omega) (by omega)
  | 5 => exact pe 5 p.a3 (by decide) (by decide) (by omega) (by omega)
  | 6 => exact pe 8 p.a4 (by decide) (by decide) (by omega) (by omega)
  | 7 => exact pe 9 p.a5 (by decide) (by decide) (by omega) (by omega)
  | 8 => exact pe 11 p.a6 (by decide) (by decide) (by omega) (by omega)
  | 9 => show (if p.m = true then entB 12 [] else []).length ≤ 24; split; exact entB_le 12 [] (by decide) (by decide) (by simp); simp
  | 10 => exact pe 14 p.a7 (by decide) (by decide) (by omega) (by omega)
  | 11 => exact entB_le 15 p.f (by decide) (by decide) e1
  | 12 => exact pe 32 p.a8 (by decide) (by decide) (by omega) (by omega)
  | k + 13 => simp
theorem parA_le (p : PP) (s : Bool) (h : pok p s = true) : ∀ k, k ≤ 13 → (parA p s k).length ≤ 24 * k
  | 0, _ => by simp [parA]
  | k + 1, hk => by
    have := parA_le p s h k (by omega)
    have b := parL_le p s h k
    rw [parA_succ p s k (by omega), List.length_append]
    omega
theorem parB_le (p : PP) (s : Bool) (h : pok p s = true) : (parB p s).length ≤ 312 := by
  have := parA_le p s h 13 (by decide)
  rwa [parA_13] at this
/-- Where the bytes stand behind k entries. -/
structure OutK (w1 wk : World) (vo : Value) (p : PP) (s : Bool) (k : Nat) : Prop where
  own : wk.ownsRow w1.heap.size 5 1 vo (parA p s k).length ((parA p s k).map (Value.int .u8))
  bel : Below w1.heap.size w1 wk
theorem OutK.step {w1 wk wx : World} {vo r : Value} {p : PP} {s : Bool} {k : Nat} (h : OutK w1 wk vo p s k) (hk : k < 13) (ho : wx.ownsRow w1.heap.size 5 1 r (parA p s k ++ (parL p s).getD k []).length ((parA p s k ++ (parL p s).getD k []).map (Value.int .u8))) (g : GrW wk wx vo r) : OutK w1 wx r p s (k + 1) := by
  refine ⟨by rw [parA_succ p s k hk]; exact ho, h.bel.trans (g.below h.own h.bel.size)⟩
theorem OutK.skip {w1 wk : World} {vo : Value} {p : PP} {s : Bool} {k : Nat} (h : OutK w1 wk vo p s k) (hk : k < 13) (he : (parL p s).getD k [] = []) : OutK w1 wk vo p s (k + 1) := by
  refine ⟨by rw [parA_succ p s k hk, he, List.append_nil]; exact h.own, h.bel⟩

set_option maxRecDepth 20000 in
theorem pbS_bad (v : Value) (p : PP) (s : Bool) (w : World) (hr : PPRow w v p) (hs : p.small 9223372036854775807) (hno : pok p s = false) :
    Calls Tryd.prog 6 #[v, .bool s] w fun e w' => ∃ r, e = .returned (.tuple #[r, .int .i64 11]) ∧ w'.ownsRow w.heap.size 5 1 r ([] : List Int).length (([] : List Int).map (Value.int .u8)) ∧ Below w.heap.size w w' := by
  obtain ⟨d2, d3, d4, p2, p3, p4, rfl, -, -, -⟩ := hr.parts
  have b0 := (Below.refl w.heap.size w).alloc (Nat.le_refl _) (.cells #[.int .i64 p.a0, .int .i64 p.a1, .int .i64 p.a2, .int .i64 p.a3, .int .i64 p.a4, .int .i64 p.a5, .int .i64 p.a6, .int .i64 p.a7, .int .i64 p.a8, .bool p.m, .slice d2 p.o.length p2, .slice d3 p.t.length p3, .slice d4 p.f.length p4] 28)
  have C := pokS _ p s _ (hr.below b0) hs
  rw [hno] at C
  have H0 : Hid _ := And.intro C b0
  clear C b0 hr hs hno
  go_enter Tryd.func6, Tryd.ntmps6
  go_wp2_with (go_at_call 19; refine H0.out.1.mono ?_; rintro e w1 ⟨rfl, b1⟩; have H1 : Hid _ := And.intro (H0.out.2.trans (b1.mono H0.out.2.size)) True.intro; clear b1)
  go_ret2
  exact ⟨_, rfl, World.ownsRow_lit _ #[] 0 H1.out.1.size (by decide) rfl, H1.out.1.alloc H1.out.1.size _⟩

end Go.Proofs.YtdfhpacioblcbaaDoor
