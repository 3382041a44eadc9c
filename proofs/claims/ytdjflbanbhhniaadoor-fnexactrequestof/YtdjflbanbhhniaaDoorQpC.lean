import Derived.Test.YtdjflbanbhhniaaDoorQpB
namespace Go.Proofs.YtdjflbanbhhniaaDoor
open Go.RowKit
set_option linter.unusedVariables false

theorem ext_one (s : ByteArray) (i : Nat) (h : i < s.size) (c : UInt8) : (s.extract i (i + 1) == (⟨#[c]⟩ : ByteArray)) = decide (bt s i = (c.toNat : Int)) := by
  have e1 : (s.extract i (i + 1) == (⟨#[c]⟩ : ByteArray)) = ((s.extract i (i + 1)).data == #[c]) := rfl
  have e2 : (s.extract i (i + 1)).data = #[s[i]'h] := by
    rw [ByteArray.data_extract]
    apply Array.ext
    · simp; have : s.size = s.data.size := rfl; omega
    · intro j h1 h2
      obtain rfl : j = 0 := by simpa using h2
      simp
      rfl
  rw [e1, e2, ← bt_at s i h]
  by_cases hc : s[i]'h = c
  · rw [hc]; simp
  · have hn : ¬ ((s[i]'h).toNat : Int) = (c.toNat : Int) := fun e => hc (UInt8.toNat_inj.1 (by omega))
    rw [decide_eq_false hn]
    simp [hc]
end Go.Proofs.YtdjflbanbhhniaaDoor
