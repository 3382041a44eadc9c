import Derived.Test.YtpbkigmcbgbfgaaDoorPartsB
import Derived.Laws.IdiomStrings
import Derived.Laws.BytesArg
namespace Go.Proofs.YtpbkigmcbgbfgaaDoor
open Go.RowKit
set_option linter.unusedVariables false

theorem conv_rowP {P : Program} {w : World} {e ts tstr : Nat} {v : Value} {xs : List Int} (hs : P.underlying ts = some (.slice e)) (he : P.underlying e = some (.int .u8)) (hd : P.underlying tstr = some .string)
    (h : Row w .u8 v xs) (h0 : 0 < xs.length) : (convert ts tstr v).run P w = .ok (.string (strOfNums xs)) w := by
  obtain ⟨b, off, cap, rfl, hb, hc⟩ := h.at h0
  exact run_convert_bytes_arg w ts e hs he b off xs.length cap xs rfl hc tstr hd
/-- A digit as a text. -/
def dg (u : Nat) : ByteArray := ⟨#[48 + u.toUInt8]⟩
theorem smallD (u : Nat) (hu : u < 8) (w : World) : Calls Tryd.prog 32 #[.int .i64 (u : Int)] w fun e w' => e = .returned (.string (dg u)) ∧ w' = w := by
  obtain rfl | rfl | rfl | rfl | rfl | rfl | rfl | rfl : u = 0 ∨ u = 1 ∨ u = 2 ∨ u = 3 ∨ u = 4 ∨ u = 5 ∨ u = 6 ∨ u = 7 := by omega
  all_goals
    clear hu
    go_enter Tryd.func32, Tryd.ntmps32
    go_wp2
    go_ret
    exact ⟨rfl, rfl⟩
theorem formatD (u : Nat) (hu : u < 8) (w : World) : Calls Tryd.prog 25 #[.int .i64 (u : Int), .int .i64 10] w fun e w' => e = .returned (.string (dg u)) ∧ w' = w := by
  have C := smallD u hu w
  have h0 : (0 : Int) ≤ (u : Int) := by omega
  have h1 : (u : Int) < 100 := by omega
  generalize dg u = d at *
  have H : Hid _ := And.intro C True.intro
  clear C
  go_enter Tryd.func25, Tryd.ntmps25
  go_wp2_with (go_at_call 32; refine H.out.1.mono ?_; rintro e w' ⟨rfl, rfl⟩)
  go_ret
  exact ⟨rfl, rfl⟩
theorem itoaD0 (u : Nat) (hu : u < 8) (w : World) : Calls Tryd.prog 16 #[.int .i64 (u : Int)] w fun e w' => e = .returned (.string (dg u)) ∧ w' = w := by
  have C := formatD u hu w
  generalize dg u = d at *
  have H : Hid _ := And.intro C True.intro
  clear C
  go_enter Tryd.func16, Tryd.ntmps16
  go_wp2_with (go_at_call 25; refine H.out.1.mono ?_; rintro e w' ⟨rfl, rfl⟩)
  go_ret
  exact ⟨rfl, rfl⟩
theorem itoaD (u : Nat) (hu : u < 8) (w : World) : Calls Tryd.prog 12 #[.int .i64 (u : Int)] w fun e w' => e = .returned (.string (dg u)) ∧ w' = w := by
  have C := itoaD0 u hu w
  generalize dg u = d at *
  have H : Hid _ := And.intro C True.intro
  clear C
  go_enter Tryd.func12, Tryd.ntmps12
  go_wp2_with (go_at_call 16; refine H.out.1.mono ?_; rintro e w' ⟨rfl, rfl⟩)
  go_ret
  exact ⟨rfl, rfl⟩
/-- The text of a priority. -/
def ptV (u : Int) (t : Bool) : ByteArray := if u < 0 ∨ 7 < u then ⟨#[]⟩ else if t then ⟨#[117, 61] ++ (dg u.toNat).data ++ #[44, 32, 105]⟩ else ⟨#[117, 61] ++ (dg u.toNat).data⟩
set_option maxHeartbeats 1000000 in
theorem ptI (u : Int) (t : Bool) (w : World) : Calls Tryd.prog 5 #[.int .i64 u, .bool t] w fun e w' => e = .returned (.string (ptV u t)) ∧ w' = w := by
  by_cases a1 : u < 0
  · rw [show ptV u t = ⟨#[]⟩ by unfold ptV; rw [if_pos (Or.inl a1)]]
    go_enter Tryd.func5, Tryd.ntmps5
    go_wp2
    go_ret
    exact ⟨rfl, rfl⟩
  by_cases a2 : 7 < u
  · rw [show ptV u t = ⟨#[]⟩ by unfold ptV; rw [if_pos (Or.inr a2)]]
    go_enter Tryd.func5, Tryd.ntmps5
    go_wp2
    go_ret
    exact ⟨rfl, rfl⟩
  obtain ⟨n, rfl⟩ := Int.eq_ofNat_of_zero_le (show 0 ≤ u by omega)
  have C := itoaD n (by omega) w
  have hn : n < 8 := by omega
  clear a1 a2
  obtain rfl | rfl | rfl | rfl | rfl | rfl | rfl | rfl : n = 0 ∨ n = 1 ∨ n = 2 ∨ n = 3 ∨ n = 4 ∨ n = 5 ∨ n = 6 ∨ n = 7 := by omega
  all_goals
    clear hn
    have H : Hid _ := And.intro C True.intro
    clear C
    cases t
    all_goals
      go_enter Tryd.func5, Tryd.ntmps5
      go_wp2_with (go_at_call 12; refine H.out.1.mono ?_; rintro e w' ⟨rfl, rfl⟩)
      go_ret
      exact ⟨rfl, rfl⟩
end Go.Proofs.YtpbkigmcbgbfgaaDoor
