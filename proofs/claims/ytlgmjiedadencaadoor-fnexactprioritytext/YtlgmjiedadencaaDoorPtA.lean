import Derived.Test.YtlgmjiedadencaaDoorPartsB
import Derived.Laws.IdiomStrings
import Derived.Laws.BytesArg
namespace Go.Proofs.YtlgmjiedadencaaDoor
open Go.RowKit
set_option linter.unusedVariables false

theorem conv_rowP {P : Program} {w : World} {e ts tstr : Nat} {v : Value} {xs : List Int} (hs : P.underlying ts = some (.slice e)) (he : P.underlying e = some (.int .u8)) (hd : P.underlying tstr = some .string)
    (h : Row w .u8 v xs) (h0 : 0 < xs.length) : (convert ts tstr v).run P w = .ok (.string (strOfNums xs)) w := by
  obtain ⟨b, off, cap, rfl, hb, hc⟩ := h.at h0
  exact run_convert_bytes_arg w ts e hs he b off xs.length cap xs rfl hc tstr hd
/-- A digit as a text. -/
def dg (u : Nat) : ByteArray := ⟨#[48 + u.toUInt8]⟩
theorem smallD (u : Nat) (hu : u < 8) (w : World) : Calls Tryd.prog 9 #[.int .i64 (u : Int)] w fun e w' => e = .returned (.string (dg u)) ∧ w' = w := by
  obtain rfl | rfl | rfl | rfl | rfl | rfl | rfl | rfl : u = 0 ∨ u = 1 ∨ u = 2 ∨ u = 3 ∨ u = 4 ∨ u = 5 ∨ u = 6 ∨ u = 7 := by omega
  all_goals
    clear hu
    go_enter Tryd.func9, Tryd.ntmps9
    go_wp2
    go_ret
    exact ⟨rfl, rfl⟩
theorem formatD (u : Nat) (hu : u < 8) (w : World) : Calls Tryd.prog 8 #[.int .i64 (u : Int), .int .i64 10] w fun e w' => e = .returned (.string (dg u)) ∧ w' = w := by
  have C := smallD u hu w
  have h0 : (0 : Int) ≤ (u : Int) := by omega
  have h1 : (u : Int) < 100 := by omega
  generalize dg u = d at *
  have H : Hid _ := And.intro C True.intro
  clear C
  go_enter Tryd.func8, Tryd.ntmps8
  go_wp2_with (go_at_call 9; refine H.out.1.mono ?_; rintro e w' ⟨rfl, rfl⟩)
  go_ret
  exact ⟨rfl, rfl⟩
theorem itoaD0 (u : Nat) (hu : u < 8) (w : World) : Calls Tryd.prog 7 #[.int .i64 (u : Int)] w fun e w' => e = .returned (.string (dg u)) ∧ w' = w := by
  have C := formatD u hu w
  generalize dg u = d at *
  have H : Hid _ := And.intro C True.intro
  clear C
  go_enter Tryd.func7, Tryd.ntmps7
  go_wp2_with (go_at_call 8; refine H.out.1.mono ?_; rintro e w' ⟨rfl, rfl⟩)
  go_ret
  exact ⟨rfl, rfl⟩
theorem itoaD (u : Nat) (hu : u < 8) (w : World) : Calls Tryd.prog 6 #[.int .i64 (u : Int)] w fun e w' => e = .returned (.string (dg u)) ∧ w' = w := by
  have C := itoaD0 u hu w
  generalize dg u = d at *
  have H : Hid _ := And.intro C True.intro
  clear C
  go_enter Tryd.func6, Tryd.ntmps6
  go_wp2_with (go_at_call 7; refine H.out.1.mono ?_; rintro e w' ⟨rfl, rfl⟩)
  go_ret
  exact ⟨rfl, rfl⟩
/-- The text of a priority. -/
def ptV (u : Int) (t : Bool) : ByteArray := if u < 0 ∨ 7 < u then ⟨#[]⟩ else if t then ⟨#[117, 61] ++ (dg u.toNat).data ++ #[44, 32, 105]⟩ else ⟨#[117, 61] ++ (dg u.toNat).data⟩
set_option maxHeartbeats 1000000 in
theorem ptI (u : Int) (t : Bool) (w : World) : Calls Tryd.prog 5 #[.int .i64 u, .bool t] w fun e w' => e = .returned (.string (ptV u t)) ∧ w' = w := by
  by_cases a1 : u < 0
  · rw [show ptV u t = ⟨#[]⟩ by unfold ptV; rw [if_pos (Or.inl a1)]]
    go_enter Tryd.func5, Tryd.ntmps5
    go_wp2
    go_ret
    exact ⟨rfl, rfl⟩
  by_cases a2 : 7 < u
  · rw [show ptV u t = ⟨#[]⟩ by unfold ptV; rw [if_pos (Or.inr a2)]]
    go_enter Tryd.func5, Tryd.ntmps5
    go_wp2
    go_ret
    exact ⟨rfl, rfl⟩
  obtain ⟨n, rfl⟩ := Int.eq_ofNat_of_zero_le (show 0 ≤ u by omega)
  have C := itoaD n (by omega) w
  have hn : n < 8 := by omega
  clear a1 a2
  obtain rfl | rfl | rfl | rfl | rfl | rfl | rfl | rfl : n = 0 ∨ n = 1 ∨ n = 2 ∨ n = 3 ∨ n = 4 ∨ n = 5 ∨ n = 6 ∨ n = 7 := by omega
  all_goals
    clear hn
    have H : Hid _ := And.intro C True.intro
    clear C
    cases t
    all_goals
      go_enter Tryd.func5, Tryd.ntmps5
      go_wp2_with (go_at_call 6; refine H.out.1.mono ?_; rintro e w' ⟨rfl, rfl⟩)
      go_ret
      exact ⟨rfl, rfl⟩
set_option maxHeartbeats 1000000 in
theorem ptS (u : Int) (t : Bool) (w : World) : Calls Tryd.prog 4 #[.int .i64 u, .bool t] w fun e w' => e = .returned (.string (ptV u t)) ∧ Below w.heap.size w w' := by
  by_cases a1 : u < 0
  · rw [show ptV u t = ⟨#[]⟩ by unfold ptV; rw [if_pos (Or.inl a1)]]
    go_enter Tryd.func4, Tryd.ntmps4
    go_wp2
    go_ret
    exact ⟨rfl, Below.refl _ _⟩
  by_cases a2 : 7 < u
  · rw [show ptV u t = ⟨#[]⟩ by unfold ptV; rw [if_pos (Or.inr a2)]]
    go_enter Tryd.func4, Tryd.ntmps4
    go_wp2
    go_ret
    exact ⟨rfl, Below.refl _ _⟩
  obtain ⟨n, rfl⟩ := Int.eq_ofNat_of_zero_le (show 0 ≤ u by omega)
  have hn : n < 8 := by omega
  clear a1 a2
  obtain rfl | rfl | rfl | rfl | rfl | rfl | rfl | rfl : n = 0 ∨ n = 1 ∨ n = 2 ∨ n = 3 ∨ n = 4 ∨ n = 5 ∨ n = 6 ∨ n = 7 := by omega
  all_goals
    clear hn
    have hcv := fun x => conv_rowP (P := Tryd.prog) Tryd.underlying24 Tryd.underlying5 Tryd.underlying9 (one_row w x) (by simp)
    cases t
    all_goals
      go_enter Tryd.func4, Tryd.ntmps4
      go_wp2
      go_ret
      exact ⟨rfl, (Below.refl _ _).alloc (Nat.le_refl _) _⟩
theorem fnExactPriorityText_walk (u : Int) (t : Bool) (_ : (Lit.int .i64 u).wf = true) (w : World) :
    Calls Tryd.prog 3 #[.int .i64 u, .bool t] w fun e w' => e = .returned (.bool true) ∧ Below w.heap.size w w' := by
  have c1 := ptS u t w
  have c2 := ptI u t
  generalize ptV u t = x at *
  have r1 : (x != x) = false := by simp [bne, show (x == x) = true by show (x.data == x.data) = true; exact beq_self_eq_true _]
  have H : Hid _ := And.intro c1 c2
  clear c1 c2
  go_enter Tryd.func3, Tryd.ntmps3
  go_wp2_with (first | (go_at_call 4; refine H.out.1.mono ?_; rintro e w1 ⟨rfl, b1⟩; have B : Hid _ := And.intro b1 True.intro; clear b1) | (go_at_call 5; refine (H.out.2 _).mono ?_; rintro e w2 ⟨rfl, hw⟩; subst hw))
  go_ret
  exact ⟨rfl, B.out.1⟩
end Go.Proofs.YtlgmjiedadencaaDoor
