import Derived.Test.YthagbapcnanpjaaDoorMem
import Derived.BigRegion
namespace Go.Proofs.YthagbapcnanpjaaDoor
open Go.RowKit
set_option linter.unusedVariables false

/-- The fixed table. -/
def stN : List ByteArray := [⟨#[58, 112, 97, 116, 104]⟩, ⟨#[58, 109, 101, 116, 104, 111, 100]⟩, ⟨#[58, 109, 101, 116, 104, 111, 100]⟩, ⟨#[58, 109, 101, 116, 104, 111, 100]⟩, ⟨#[58, 109, 101, 116, 104, 111, 100]⟩, ⟨#[58, 97, 117, 116, 104, 111, 114, 105, 116, 121]⟩, ⟨#[58, 115, 99, 104, 101, 109, 101]⟩, ⟨#[58, 115, 116, 97, 116, 117, 115]⟩, ⟨#[58, 115, 116, 97, 116, 117, 115]⟩, ⟨#[58, 115, 116, 97, 116, 117, 115]⟩, ⟨#[58, 115, 116, 97, 116, 117, 115]⟩, ⟨#[58, 115, 116, 97, 116, 117, 115]⟩, ⟨#[58, 115, 116, 97, 116, 117, 115]⟩, ⟨#[58, 115, 116, 97, 116, 117, 115]⟩, ⟨#[58, 115, 116, 97, 116, 117, 115]⟩, ⟨#[97, 99, 99, 101, 112, 116]⟩, ⟨#[99, 111, 110, 116, 101, 110, 116, 45, 108, 101, 110, 103, 116, 104]⟩, ⟨#[99, 111, 110, 116, 101, 110, 116, 45, 116, 121, 112, 101]⟩, ⟨#[99, 111, 110, 116, 101, 110, 116, 45, 116, 121, 112, 101]⟩, ⟨#[99, 111, 111, 107, 105, 101]⟩, ⟨#[100, 97, 116, 101]⟩, ⟨#[101, 116, 97, 103]⟩, ⟨#[108, 111, 99, 97, 116, 105, 111, 110]⟩, ⟨#[112, 114, 105, 111, 114, 105, 116, 121]⟩]
def stV : List ByteArray := [⟨#[47]⟩, ⟨#[71, 69, 84]⟩, ⟨#[80, 79, 83, 84]⟩, ⟨#[72, 69, 65, 68]⟩, ⟨#[68, 69, 76, 69, 84, 69]⟩, ⟨#[]⟩, ⟨#[104, 116, 116, 112, 115]⟩, ⟨#[50, 48, 48]⟩, ⟨#[50, 48, 52]⟩, ⟨#[50, 48, 54]⟩, ⟨#[51, 48, 52]⟩, ⟨#[52, 48, 48]⟩, ⟨#[52, 48, 52]⟩, ⟨#[52, 48, 53]⟩, ⟨#[53, 48, 48]⟩, ⟨#[42, 47, 42]⟩, ⟨#[48]⟩, ⟨#[116, 101, 120, 116, 47, 112, 108, 97, 105, 110]⟩, ⟨#[97, 112, 112, 108, 105, 99, 97, 116, 105, 111, 110, 47, 106, 115, 111, 110]⟩, ⟨#[]⟩, ⟨#[]⟩, ⟨#[]⟩, ⟨#[]⟩, ⟨#[]⟩]
theorem below_sss (w : World) (a b c : Obj) : Below w.heap.size w (((w.alloc a).alloc b).alloc c) :=
  (((Below.refl _ _).alloc (Nat.le_refl _) _).alloc (by simp) _).alloc (by simp; omega) _
theorem ssS_bad (i : Int) (w : World) (h : i < 0 ∨ 24 ≤ i) :
    Calls Tryd.prog 5 #[.int .i64 i] w fun e w' => e = .returned (.tuple #[.agg #[.string ⟨#[]⟩, .string ⟨#[]⟩], .int .i64 16]) ∧ Below w.heap.size w w' := by
  by_cases h0 : i < 0
  · clear h
    go_enter Tryd.func5, Tryd.ntmps5
    go_wp2
    refine bodyPost_ret (v := .tuple #[.agg #[.string ⟨#[]⟩, .string ⟨#[]⟩], .int .i64 16]) (by simp [results, Tryd.results5, go_sem]) rfl ?_
    exact ⟨rfl, (Below.refl _ _).alloc (Nat.le_refl _) _⟩
  · have h1 : 24 ≤ i := by omega
    clear h
    go_enter Tryd.func5, Tryd.ntmps5
    go_wp2
    refine bodyPost_ret (v := .tuple #[.agg #[.string ⟨#[]⟩, .string ⟨#[]⟩], .int .i64 16]) (by simp [results, Tryd.results5, go_sem]) rfl ?_
    exact ⟨rfl, (Below.refl _ _).alloc (Nat.le_refl _) _⟩
end Go.Proofs.YthagbapcnanpjaaDoor
