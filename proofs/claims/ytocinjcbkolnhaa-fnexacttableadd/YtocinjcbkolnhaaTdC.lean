import Derived.Test.YtocinjcbkolnhaaTdB
import Derived.Test.YtocinjcbkolnhaaTcX
namespace Go.Proofs.Ytocinjcbkolnhaa
open Go.RowKit
set_option linter.unusedVariables false

-- The closure of TableAdd.
theorem addC (G g : Nat) (a c : ByteArray) (k : Int) (P : World → Prop) (w : World) (h : Calls Try.prog 21 #[.pointer (some ⟨G, 0, none⟩), .agg #[.string a, .string c]] w fun e w' => e = .returned (.int .i64 k) ∧ P w') (h0 : w.cell? ⟨g, 0, none⟩ = some (.string a)) (h1 : w.cell? ⟨g, 1, none⟩ = some (.string c)) :
    Calls Try.prog 20 #[.pointer (some ⟨G, 0, none⟩), .pointer (some ⟨g, 0, none⟩)] w fun e w' => e = .returned (.int .i64 k) ∧ P w' := by
  have H : Hid _ := And.intro h True.intro
  clear h
  go_enter Try.func20, Try.ntmps20
  go_wp2_with (go_at_call 21; refine H.out.1.mono ?_; rintro e w1 ⟨rfl, p1⟩)
  go_ret
  exact ⟨rfl, p1⟩
/-- TableAdd. -/
def taR (t : TB) (a c : ByteArray) : TB × Int := if tOK t = false ∨ fOK a c = false ∨ t.ad = 4611686018427387902 then (⟨0, 0, 0, []⟩, 1) else if t.ca < cst ⟨a, c⟩ then (⟨0, 0, 0, []⟩, 16) else (⟨t.mo, t.ca, t.ad + 1, t.es.drop (gng (t.ca - cst ⟨a, c⟩) t.es) ++ [⟨a, c⟩]⟩, 0)
end Go.Proofs.Ytocinjcbkolnhaa
