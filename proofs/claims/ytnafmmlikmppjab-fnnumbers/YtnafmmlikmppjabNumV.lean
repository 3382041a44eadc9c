import Derived.Test.YtnafmmlikmppjabMem
namespace Go.Proofs.Ytnafmmlikmppjab
open Go.RowKit
set_option linter.unusedVariables false

def cutV (num n : Int) : Int := if num < 0 ∨ 4611686018427387903 < num ∨ n < 1 ∨ 4 < n then -1 else if n = 1 then num % 256 else if n = 2 then num % 65536 else if n = 3 then num % 16777216 else num % 4294967296
/-- The number that is meant, for one whose next is e. -/
def exV (e c W : Int) : Int :=
  if e - e % W + c ≤ e - W / 2 ∧ e - e % W + c + W ≤ 4611686018427387903 then e - e % W + c + W
  else if e + W / 2 < e - e % W + c ∧ W ≤ e - e % W + c then e - e % W + c - W
  else if 4611686018427387903 < e - e % W + c then -1 else e - e % W + c
def expV (l c n : Int) : Int :=
  if l < -1 ∨ 4611686018427387903 < l ∨ n < 1 ∨ 4 < n then -1 else
  if n = 1 then (if c < 0 ∨ 256 ≤ c then -1 else exV (l + 1) c 256)
  else if n = 2 then (if c < 0 ∨ 65536 ≤ c then -1 else exV (l + 1) c 65536)
  else if n = 3 then (if c < 0 ∨ 16777216 ≤ c then -1 else exV (l + 1) c 16777216)
  else (if c < 0 ∨ 4294967296 ≤ c then -1 else exV (l + 1) c 4294967296)
end Go.Proofs.Ytnafmmlikmppjab
