import Derived.Test.YtohooehbjbhhhaaDoorSrS
namespace Go.Proofs.YtohooehbjbhhhaaDoor
open Go.RowKit
set_option linter.unusedVariables false

theorem variableS_sh (g : Nat) (vb : Value) (p : Int) (w : World) (h : srB w g vb p true) :
    Calls Tryd.prog 12 #[.pointer (some ⟨g, 0, none⟩)] w fun e w' => e = .returned (.int .i64 0) ∧ w' = w := by
  have c2 := h.c2
  clear h
  go_enter Tryd.func12, Tryd.ntmps12
  go_wp2_with fail
  go_ret
  exact ⟨rfl, rfl⟩
set_option maxRecDepth 20000 in
set_option maxHeartbeats 1000000 in
theorem variableS_ok (g b off n cap p : Nat) (xs : List Int) (w : World) (h : srB w g (.slice (some ⟨b, off, none⟩) n cap) p false) (hl : Lies w b off n cap xs) (hB : Bytes xs) (hn : n ≤ 65536) (hv : varOK xs p) :
    Calls Tryd.prog 12 #[.pointer (some ⟨g, 0, none⟩)] w fun e w' => e = .returned (.int .i64 (varV xs p)) ∧
      srB w' g (.slice (some ⟨b, off, none⟩) n cap) ((varN xs p : Nat) : Int) false ∧ Chg (· = g) w w' := by
  have hr : Row w.drew .u8 (.slice (some ⟨b, off, none⟩) n cap) xs := by
    have := (hl.row 0 n (by omega)).drewN 1
    rwa [Nat.add_zero, Nat.sub_zero, List.drop_zero, List.take_of_length_le (by rw [hl.len]; exact Nat.le_refl _)] at this
  have hg := specGetVar _ xs p w.drew hr hB (by rw [hl.len]; omega)
  rw [gv_yes xs p (by rw [hl.len]; exact hn) hv] at hg
  dsimp only at hg
  have d2 := h.c2
  have c0 : w.drew.cell? ⟨g, 0, none⟩ = _ := h.c0
  have c1 : w.drew.cell? ⟨g, 1, none⟩ = _ := h.c1
  have f1 : w.drew.frozen? ⟨g, 1, none⟩ = false := h.fr 1
  have HH : Hid _ := And.intro h True.intro
  generalize varV xs p = V at *
  generalize varN xs p = N at *
  clear h hr hl hv
  go_enter Tryd.func12, Tryd.ntmps12
  go_wp2_with fail
  go_region_with (go_at_call 28; refine hg.mono ?_; rintro e w2 ⟨rfl, hw2⟩; rw [hw2]; clear hw2 w2)
  all_goals (go_wp2_with fail; go_ret)
  all_goals (exact ⟨rfl, HH.out.1.set1 _, ⟨rfl, rfl, rfl, by simp [World.setCell], fun q hq hs => bk_other (w := w) hs 1 _⟩⟩)
set_option maxRecDepth 20000 in
set_option maxHeartbeats 1000000 in
theorem variableS_no (g b off n cap p : Nat) (xs : List Int) (w : World) (h : srB w g (.slice (some ⟨b, off, none⟩) n cap) p false) (hl : Lies w b off n cap xs) (hB : Bytes xs) (hn : n ≤ 65536) (hp : p ≤ n) (hv : ¬ varOK xs p) :
    Calls Tryd.prog 12 #[.pointer (some ⟨g, 0, none⟩)] w fun e w' => e = .returned (.int .i64 0) ∧
      srB w' g (.slice (some ⟨b, off, none⟩) n cap) p true ∧ Chg (· = g) w w' := by
  have hr : Row w.drew .u8 (.slice (some ⟨b, off, none⟩) n cap) xs := by
    have := (hl.row 0 n (by omega)).drewN 1
    rwa [Nat.add_zero, Nat.sub_zero, List.drop_zero, List.take_of_length_le (by rw [hl.len]; exact Nat.le_refl _)] at this
  have hg := specGetVar _ xs p w.drew hr hB (by rw [hl.len]; omega)
  rw [gv_not xs p (by rw [hl.len]; exact hn) (by rw [hl.len]; exact hp) hv] at hg
  dsimp only at hg
  have d2 := h.c2
  have c0 : w.drew.cell? ⟨g, 0, none⟩ = _ := h.c0
  have c1 : w.drew.cell? ⟨g, 1, none⟩ = _ := h.c1
  have f2 : w.drew.frozen? ⟨g, 2, none⟩ = false := h.fr 2
  have HH : Hid _ := And.intro h True.intro
  clear h hr hl hv
  go_enter Tryd.func12, Tryd.ntmps12
  go_wp2_with fail
  go_region_with (go_at_call 28; refine hg.mono ?_; rintro e w2 ⟨rfl, hw2⟩; rw [hw2]; clear hw2 w2)
  all_goals (go_wp2_with fail; go_ret)
  all_goals (exact ⟨rfl, HH.out.1.set2 _, ⟨rfl, rfl, rfl, by simp [World.setCell], fun q hq hs => bk_other (w := w) hs 2 _⟩⟩)
end Go.Proofs.YtohooehbjbhhhaaDoor
