import Derived.Test.YtmaoajadcgoopaaAppRow
import Derived.Test.YtmaoajadcgoopaaVals
namespace Go.Proofs.Ytmaoajadcgoopaa
open Go.RowKit
set_option linter.unusedVariables false

/-- 2 to the k. -/
def fl (k : Nat) : Int := ((2 ^ k : Nat) : Int)
theorem fl_zero : fl 0 = 1 := rfl
theorem fl_succ (k : Nat) : fl (k + 1) = 2 * fl k := by unfold fl; rw [Nat.pow_succ]; omega
theorem fl_lo (k : Nat) : 1 ≤ fl k := by unfold fl; have := Nat.one_le_two_pow (n := k); omega
theorem fl_two (k : Nat) (h : 1 ≤ k) : 2 ≤ fl k := by
  obtain ⟨j, rfl⟩ : ∃ j, k = j + 1 := ⟨k - 1, by omega⟩
  rw [fl_succ]; have := fl_lo j; omega
theorem fl_hi (k : Nat) (h : k ≤ 8) : fl k ≤ 256 := by
  unfold fl
  have := Nat.pow_le_pow_right (n := 2) (by decide) h
  omega

theorem fl_room (k : Nat) (h8 : k ≤ 8) (h : Int) (h0 : 0 ≤ h) (h1 : h ≤ 255) (hm : h % fl k = 0) : h + fl k ≤ 256 := by
  rcases (show k = 0 ∨ k = 1 ∨ k = 2 ∨ k = 3 ∨ k = 4 ∨ k = 5 ∨ k = 6 ∨ k = 7 ∨ k = 8 by omega) with rfl | rfl | rfl | rfl | rfl | rfl | rfl | rfl | rfl <;> simp [fl] at hm ⊢ <;> omega

/-- The pieces of seven bits, the lowest first. -/
def pcs : Nat → Int → List Int
  | 0, v => [v]
  | n + 1, v => if v < 128 then [v] else (128 + v % 128) :: pcs n (v / 128)
def pfx (v f h : Int) : List Int := if v < f - 1 then [h + v] else (h + (f - 1)) :: pcs 9 (v - (f - 1))
theorem pcs_lo (n : Nat) (v : Int) (h : v < 128) : pcs n v = [v] := by
  cases n with
  | zero => rfl
  | succ n => simp [pcs, h]
theorem pcs_hi (n : Nat) (v : Int) (h : 128 ≤ v) : pcs (n + 1) v = (128 + v % 128) :: pcs n (v / 128) := by
  simp [pcs, show ¬ v < 128 by omega]
theorem pcs_len (n : Nat) (v : Int) : (pcs n v).length ≤ n + 1 := by
  induction n generalizing v with
  | zero => simp [pcs]
  | succ n ih =>
    by_cases h : v < 128
    · rw [pcs_lo _ _ h]; simp
    · rw [pcs_hi _ _ (by omega)]
      have := ih (v / 128)
      simp only [List.length_cons]; omega
theorem pfx_len (v f h : Int) : (pfx v f h).length ≤ 11 := by
  unfold pfx
  by_cases hh : v < f - 1
  · simp [hh]
  · simp only [hh, if_false, List.length_cons]
    have := pcs_len 9 (v - (f - 1))
    omega
theorem pcs_bytes (n : Nat) (v : Int) (h0 : 0 ≤ v) (h : v < 128 ^ (n + 1)) : Bytes (pcs n v) := by
  induction n generalizing v with
  | zero => intro x hx; simp [pcs] at hx; subst hx; omega
  | succ n ih =>
    by_cases h1 : v < 128
    · rw [pcs_lo _ _ h1]; intro x hx; simp at hx; subst hx; omega
    · rw [pcs_hi _ _ (by omega)]
      intro x hx
      rcases List.mem_cons.1 hx with rfl | hx
      · omega
      · refine ih (v / 128) (by omega) ?_ x hx
        have : (128 : Int) ^ (n + 1 + 1) = 128 ^ (n + 1) * 128 := Int.pow_succ ..
        omega
theorem one_byteP (w : World) (x : Int) : Row (w.alloc (.cells #[.int .u8 x] 5)) .u8 (.slice (some ⟨w.heap.size, 0, none⟩) 1 1) [x] := by
  refine Or.inr ⟨w.heap.size, 0, 1, rfl, by simp, ⟨Nat.le_refl _, by unfold maxLen; decide⟩, fun j hj => ?_⟩
  have : j = 0 := by simpa using hj
  subst this
  have := (MapKept.heap_alloc w (.cells #[.int .u8 x] 5)).1
  simp only [World.cell?, this]
  rfl
theorem lit1P (w : World) (x : Int) : (w.alloc (.cells #[.int .u8 x] 5)).ownsRow w.heap.size 5 1 (.slice (some ⟨w.heap.size, 0, none⟩) 1 1) 1 (([x] : List Int).map (Value.int .u8)) := World.ownsRow_lit w #[.int .u8 x] 1 (Nat.le_refl _) (by decide) rfl
theorem wrapB (x : Int) (h0 : 0 ≤ x) (h1 : x < 256) : IntKind.u8.wrap x = x := by
  rw [show IntKind.u8.wrap x = x % 256 by simp [IntKind.wrap, IntKind.bits, IntKind.signed]]; omega

theorem own_formQ {w : World} {base e s n : Nat} {v : Value} {xs : List Value} (h : w.ownsRow base e s v n xs) : ∃ ao cp, v = .slice ao n cp := by
  rcases h.2 with ⟨rfl, h0⟩ | ⟨g, cap, cur, rfl, _⟩
  · subst h0; exact ⟨none, 0, rfl⟩
  · exact ⟨_, cap, rfl⟩
theorem appP {w0 : Nat} {wr w3 : World} {o : Obj} {v : Value} {n : Nat} {xs : List Value} (ho : wr.ownsRow w0 5 1 v n xs) (hs : w0 ≤ wr.heap.size) (g : (wr.alloc o).grownBy w3 v.ownBlock) : Below w0 wr w3 := by
  have b1 : Below w0 wr (wr.alloc o) := (Below.refl _ _).alloc hs _
  exact b1.grown g (Nat.le_trans hs b1.size) (fun k hk => (ho.lt k hk).1)
theorem varS (v : Int) (w : World) : Calls Try.prog 12 #[.int .i64 v] w fun e w' => e = .returned (.bool (decide (0 ≤ v ∧ v ≤ 4611686018427387903))) ∧ w' = w := by
  by_cases h0 : 0 ≤ v
  · by_cases h1 : v ≤ 4611686018427387903
    · rw [decide_eq_true ⟨h0, h1⟩]
      go_enter Try.func12, Try.ntmps12
      go_wp2
      go_ret
      exact ⟨rfl, rfl⟩
    · rw [decide_eq_false (fun h => h1 h.2)]
      have hd : decide (v ≤ 4611686018427387903) = false := decide_eq_false h1
      go_enter Try.func12, Try.ntmps12
      go_wp2
      go_ret
      exact ⟨rfl, rfl⟩
  · rw [decide_eq_false (fun h => h0 h.1)]
    have hd : v < 0 := by omega
    go_enter Try.func12, Try.ntmps12
    go_wp2
    go_ret
    exact ⟨rfl, rfl⟩
end Go.Proofs.Ytmaoajadcgoopaa
