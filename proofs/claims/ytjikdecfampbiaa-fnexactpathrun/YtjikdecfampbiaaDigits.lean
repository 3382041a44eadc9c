import Derived.Test.YtjikdecfampbiaaMem
namespace Go.Proofs.Ytjikdecfampbiaa
open Go.RowKit
set_option linter.unusedVariables false

theorem infoU8 : (Try.prog.info? 5).map (fun i => (i.zero, i.size, i.bytes)) = some (some (.int .u8 0), 1, 1) := by kernel_rfl

/-- The n lowest bytes of v, the highest first. -/
def be (v : Int) : Nat → List Int
  | 0 => []
  | n + 1 => be (v / 256) n ++ [v % 256]

theorem be_length (v : Int) (n : Nat) : (be v n).length = n := by
  induction n generalizing v with
  | zero => rfl
  | succ n ih => simp [be, ih]

end Go.Proofs.Ytjikdecfampbiaa
