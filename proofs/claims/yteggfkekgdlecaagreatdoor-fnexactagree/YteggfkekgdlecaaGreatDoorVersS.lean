import Derived.Test.YteggfkekgdlecaaGreatDoorLongS
namespace Go.Proofs.YteggfkekgdlecaaGreatDoor
open Go.RowKit
set_option linter.unusedVariables false

/-- A version that may be told. -/
def vok (v : Int) : Prop := 1 ≤ v ∧ v ≤ 4294967295
/-- Versions in four bytes each. -/
def versV (vs : List Int) : List Int := (vs.map (fun v => be v 4)).flatten
theorem versV_take (vs : List Int) (k : Nat) (h : k < vs.length) : versV (vs.take (k + 1)) = versV (vs.take k) ++ be (vs.getD k 0) 4 := by
  unfold versV
  rw [List.take_add_one, List.map_append, List.flatten_append]
  simp [List.getD, h]
theorem versV_length (vs : List Int) : (versV vs).length = 4 * vs.length := by
  induction vs with
  | nil => rfl
  | cons a t ih =>
    have : versV (a :: t) = be a 4 ++ versV t := rfl
    rw [this, List.length_append, ih, be_length, List.length_cons]; omega
theorem sVok (v : Int) (w : World) (h : vok v) : Calls Tryz.prog 42 #[.int .i64 v] w fun e w' => e = .returned (.bool true) ∧ w' = w := by
  obtain ⟨h1, h2⟩ := h
  go_enter Tryz.func42, Tryz.ntmps42
  go_wp2
  go_ret
  exact ⟨rfl, rfl⟩
theorem sVbad (v : Int) (w : World) (h : ¬ vok v) : Calls Tryz.prog 42 #[.int .i64 v] w fun e w' => e = .returned (.bool false) ∧ w' = w := by
  by_cases h1 : 1 ≤ v
  · have h2 : 4294967295 < v := by unfold vok at h; omega
    have hd : decide (v ≤ 4294967295) = false := decide_eq_false (by omega)
    clear h
    go_enter Tryz.func42, Tryz.ntmps42
    go_wp2
    go_ret
    exact ⟨rfl, rfl⟩
  · have h2 : v < 1 := by omega
    clear h h1
    go_enter Tryz.func42, Tryz.ntmps42
    go_wp2
    go_ret
    exact ⟨rfl, rfl⟩
/-- What VersionsPacket gives of versions that are not too few or many. -/
structure VersOut (d s vs y : List Int) (c : Int) : Prop where
  good : (∀ j, j < vs.length → vok (vs.getD j 0)) → c = 0 ∧ y = (128 :: idsV 0 d s) ++ versV vs
  bad : (∃ j, j < vs.length ∧ ¬ vok (vs.getD j 0)) → c = 1 ∧ y = []
end Go.Proofs.YteggfkekgdlecaaGreatDoor
