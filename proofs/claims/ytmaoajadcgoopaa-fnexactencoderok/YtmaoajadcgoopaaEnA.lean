import Derived.Test.YtmaoajadcgoopaaFlRef
import Derived.Test.YtmaoajadcgoopaaTbL
import Derived.Test.YtmaoajadcgoopaaPfI
namespace Go.Proofs.Ytmaoajadcgoopaa
open Go.RowKit
set_option linter.unusedVariables false

def rOK (r : SRef) (ad : Int) : Bool := decide (0 ≤ r.f0 ∧ r.f0 ≤ 4611686018427387903 ∧ 1 ≤ r.f1 ∧ r.f1 ≤ ad ∧ 0 ≤ r.f2 ∧ r.f2 < r.f1)
def rsOK (L : List SRef) (ad : Int) : Bool := L.all fun r => rOK r ad
theorem rtake_succ (L : List SRef) (k : Nat) (h : k < L.length) : L.take (k + 1) = L.take k ++ [L.getD k default] := by
  rw [List.take_add_one]; simp [List.getD, h]
theorem rsOK_succ (L : List SRef) (ad : Int) (k : Nat) (h : k < L.length) : rsOK (L.take (k + 1)) ad = (rsOK (L.take k) ad && rOK (L.getD k default) ad) := by
  rw [rtake_succ L k h]; simp [rsOK, List.all_append]
theorem rsOK_no (L : List SRef) (ad : Int) (k : Nat) (h : k < L.length) (hb : rOK (L.getD k default) ad = false) : rsOK L ad = false := by
  cases e : rsOK L ad with
  | false => rfl
  | true =>
    rw [rsOK, List.all_eq_true] at e
    have := e (L.getD k default) (by simp [List.getD, h])
    rw [hb] at this; cases this
/-- An encoder: its table, Known, Blocked, Open. -/
structure EN where
  t : TB
  kn : Int
  bl : Int
  op : List SRef
def EN.nums (e : EN) : Prop := 0 ≤ e.kn ∧ e.kn ≤ e.t.ad ∧ 0 ≤ e.bl ∧ e.bl ≤ 64 ∧ e.op.length ≤ 64
instance (e : EN) : Decidable e.nums := by unfold EN.nums; infer_instance
def eOK (e : EN) : Bool := tOK e.t && decide e.nums && rsOK e.op e.t.ad
def eC (e : EN) (s q : Value) : Array Value := #[.int .i64 e.t.mo, .int .i64 e.t.ca, .int .i64 e.t.ad, s, .int .i64 e.kn, .int .i64 e.bl, q]
def eV (e : EN) (s q : Value) : Value := .agg #[.int .i64 e.t.mo, .int .i64 e.t.ca, .int .i64 e.t.ad, s, .int .i64 e.kn, .int .i64 e.bl, q]
theorem After.cells7 {w w1 : World} {x0 x1 x2 x3 x4 x5 x6 : Value} {t : TypeId} (h : After w (.cells #[x0, x1, x2, x3, x4, x5, x6] t) w1) :
    w1.cell? ⟨w.heap.size, 0, none⟩ = some x0 ∧ w1.cell? ⟨w.heap.size, 1, none⟩ = some x1 ∧ w1.cell? ⟨w.heap.size, 2, none⟩ = some x2 ∧ w1.cell? ⟨w.heap.size, 3, none⟩ = some x3 ∧ w1.cell? ⟨w.heap.size, 4, none⟩ = some x4 ∧ w1.cell? ⟨w.heap.size, 5, none⟩ = some x5 ∧ w1.cell? ⟨w.heap.size, 6, none⟩ = some x6 := by
  have k := (Below.block h w.heap.size (by omega)).trans (MapKept.heap_alloc w (.cells #[x0, x1, x2, x3, x4, x5, x6] t)).1
  simp only [World.cell?, k]
  exact ⟨rfl, rfl, rfl, rfl, rfl, rfl, rfl⟩
theorem After.cells3 {w w1 : World} {x0 x1 x2 : Value} {t : TypeId} (h : After w (.cells #[x0, x1, x2] t) w1) :
    w1.cell? ⟨w.heap.size, 0, none⟩ = some x0 ∧ w1.cell? ⟨w.heap.size, 1, none⟩ = some x1 ∧ w1.cell? ⟨w.heap.size, 2, none⟩ = some x2 := by
  have k := (Below.block h w.heap.size (by omega)).trans (MapKept.heap_alloc w (.cells #[x0, x1, x2] t)).1
  simp only [World.cell?, k]
  exact ⟨rfl, rfl, rfl⟩
theorem rrow_at {w : World} {v : Value} {L : List SRef} (h : GRow 3 w v (SRef.L L)) (h0 : 0 < L.length) : ∃ b off cap, v = .slice (some ⟨b, off, none⟩) L.length cap ∧ b < w.heap.size ∧ ∀ j, j < L.length → ∀ f, f < 3 → w.cell? ⟨b, off + (j * 3 + f), none⟩ = (L.getD j default).c[f]? := by
  obtain ⟨b, off, cap, e, hb, hc⟩ := h.at' (by rw [List.length_map]; exact h0)
  rw [List.length_map] at e hc
  exact ⟨b, off, cap, e, hb, fun j hj f hf => by rw [← SRef.at L j hj]; exact hc j hj f hf⟩
theorem rrow_form {w : World} {v : Value} {L : List SRef} (h : GRow 3 w v (SRef.L L)) : ∃ ao cap, v = .slice ao L.length cap := by
  obtain ⟨ao, cap, e⟩ := h.form
  rw [List.length_map] at e
  exact ⟨ao, cap, e⟩
theorem row_ref {w : World} {b off m : Nat} {L : List SRef} (hc : ∀ j, j < m → ∀ f, f < 3 → w.cell? ⟨b, off + (j * 3 + f), none⟩ = (L.getD j default).c[f]?) (k : Nat) (hk : k < m) :
    w.cell? ⟨b, off + k * 3, none⟩ = some (.int .i64 (L.getD k default).f0) ∧ w.cell? ⟨b, off + k * 3 + 1, none⟩ = some (.int .i64 (L.getD k default).f1) ∧ w.cell? ⟨b, off + k * 3 + 2, none⟩ = some (.int .i64 (L.getD k default).f2) := ⟨hc k hk 0 (by decide), hc k hk 1 (by decide), hc k hk 2 (by decide)⟩
theorem refI (a b c ad : Int) (w : World) : Calls Try.prog 16 #[.agg #[.int .i64 a, .int .i64 b, .int .i64 c], .int .i64 ad] w fun e w' => e = .returned (.bool (rOK ⟨a, b, c⟩ ad)) ∧ Below w.heap.size w w' := by
  have C := numI a (w.alloc (.cells #[.int .i64 a, .int .i64 b, .int .i64 c] 43))
  have b0 : Below w.heap.size w (w.alloc (.cells #[.int .i64 a, .int .i64 b, .int .i64 c] 43)) := (Below.refl _ _).alloc (Nat.le_refl _) _
  obtain ⟨N, eN⟩ : ∃ N, N = rOK ⟨a, b, c⟩ ad := ⟨_, rfl⟩
  rw [← eN]
  unfold rOK at eN
  simp only at eN
  by_cases ha : 0 ≤ a ∧ a ≤ 4611686018427387903
  · rw [decide_eq_true ha] at C
    have H : Hid _ := And.intro C b0
    clear C b0
    have hq : b < 1 ∨ (1 ≤ b ∧ ad < b) ∨ (1 ≤ b ∧ b ≤ ad ∧ c < 0) ∨ (1 ≤ b ∧ b ≤ ad ∧ 0 ≤ c ∧ b ≤ c) ∨ (1 ≤ b ∧ b ≤ ad ∧ 0 ≤ c ∧ c < b) := by omega
    rcases hq with q | ⟨q1, q⟩ | ⟨q1, q2, q⟩ | ⟨q1, q2, q3, q⟩ | ⟨q1, q2, q3, q4⟩
    · rw [decide_eq_false (by omega)] at eN
      subst eN
      have hd : decide (1 ≤ b) = false := decide_eq_false (by omega)
      go_enter Try.func16, Try.ntmps16
      go_wp2_with (go_at_call 26; refine H.out.1.mono ?_; rintro e w' ⟨rfl, hw⟩; subst w')
      go_ret
      exact ⟨rfl, H.out.2⟩
    · rw [decide_eq_false (by omega)] at eN
      subst eN
      have hd : decide (b ≤ ad) = false := decide_eq_false (by omega)
      go_enter Try.func16, Try.ntmps16
      go_wp2_with (go_at_call 26; refine H.out.1.mono ?_; rintro e w' ⟨rfl, hw⟩; subst w')
      go_ret
      exact ⟨rfl, H.out.2⟩
    · rw [decide_eq_false (by omega)] at eN
      subst eN
      have hd : decide (0 ≤ c) = false := decide_eq_false (by omega)
      go_enter Try.func16, Try.ntmps16
      go_wp2_with (go_at_call 26; refine H.out.1.mono ?_; rintro e w' ⟨rfl, hw⟩; subst w')
      go_ret
      exact ⟨rfl, H.out.2⟩
    · rw [decide_eq_false (by omega)] at eN
      subst eN
      have hd : decide (c < b) = false := decide_eq_false (by omega)
      go_enter Try.func16, Try.ntmps16
      go_wp2_with (go_at_call 26; refine H.out.1.mono ?_; rintro e w' ⟨rfl, hw⟩; subst w')
      go_ret
      exact ⟨rfl, H.out.2⟩
    · rw [decide_eq_true (by omega)] at eN
      subst eN
      go_enter Try.func16, Try.ntmps16
      go_wp2_with (go_at_call 26; refine H.out.1.mono ?_; rintro e w' ⟨rfl, hw⟩; subst w')
      go_ret
      exact ⟨rfl, H.out.2⟩
  · rw [decide_eq_false ha] at C
    rw [decide_eq_false (by omega)] at eN
    subst eN
    have H : Hid _ := And.intro C b0
    clear C b0 ha
    go_enter Try.func16, Try.ntmps16
    go_wp2_with (go_at_call 26; refine H.out.1.mono ?_; rintro e w' ⟨rfl, hw⟩; subst w')
    go_ret
    exact ⟨rfl, H.out.2⟩
end Go.Proofs.Ytmaoajadcgoopaa
