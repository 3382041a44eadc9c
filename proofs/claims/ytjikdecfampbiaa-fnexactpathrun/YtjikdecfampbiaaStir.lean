import Derived.Test.YtjikdecfampbiaaVals
import Derived.BigRegion
namespace Go.Proofs.Ytjikdecfampbiaa
open Go.RowKit
set_option linter.unusedVariables false

/-- 32 bits turned left. -/
def rot7 (x : Int) : Int := bits .or .u32 (x * 128 % 4294967296) (x / 33554432)
def rot13 (x : Int) : Int := bits .or .u32 (x * 8192 % 4294967296) (x / 524288)
def rot17 (x : Int) : Int := bits .or .u32 (x * 131072 % 4294967296) (x / 32768)
/-- A number of 32 bits. -/
def U32 (x : Int) : Prop := 0 ≤ x ∧ x < 4294967296
theorem bits32_or (x y : Int) : U32 (bits .or .u32 x y) := by
  have h : bits .or .u32 x y = IntKind.u32.wrap ((BitVec.ofInt 32 x ||| BitVec.ofInt 32 y).toNat : Int) := rfl
  rw [h, IntKind.wrap_u32]
  unfold U32
  omega
theorem bits32_xor (x y : Int) : U32 (bits .xor .u32 x y) := by
  have h : bits .xor .u32 x y = IntKind.u32.wrap ((BitVec.ofInt 32 x ^^^ BitVec.ofInt 32 y).toNat : Int) := rfl
  rw [h, IntKind.wrap_u32]
  unfold U32
  omega

/-- The digest's four numbers. -/
structure S4 where
  a : Int
  b : Int
  c : Int
  d : Int
def S4.ok (s : S4) : Prop := U32 s.a ∧ U32 s.b ∧ U32 s.c ∧ U32 s.d
def S4.val (s : S4) : Value := .agg #[.int .u32 s.a, .int .u32 s.b, .int .u32 s.c, .int .u32 s.d]
def stA (s : S4) (v : Int) : Int := bits .xor .u32 s.a v * 16777619 % 4294967296
def stB (s : S4) (v : Int) : Int := rot7 ((s.b + bits .xor .u32 s.a v * 16777619) % 4294967296)
def stC (s : S4) (v : Int) : Int := rot13 (bits .xor .u32 s.c (stB s v))
def stD (s : S4) (v : Int) : Int := rot17 ((s.d + stC s v) % 4294967296)
/-- A byte stirred in. -/
def stir1 (s : S4) (v : Int) : S4 := ⟨bits .xor .u32 (stA s v) (stD s v), stB s v, stC s v, stD s v⟩
def stirL (s : S4) (xs : List Int) : S4 := xs.foldl stir1 s
theorem stir1_ok (s : S4) (v : Int) : (stir1 s v).ok := ⟨bits32_xor _ _, bits32_or _ _, bits32_or _ _, bits32_or _ _⟩
theorem stirL_ok (s : S4) (xs : List Int) (h : s.ok) : (stirL s xs).ok := by
  induction xs generalizing s with
  | nil => exact h
  | cons x xs ih => exact ih _ (stir1_ok s x)
theorem stirL_append (s : S4) (xs ys : List Int) : stirL s (xs ++ ys) = stirL (stirL s xs) ys := by simp [stirL]
theorem stirL_take (s : S4) (xs : List Int) (k : Nat) (hk : k < xs.length) : stirL s (xs.take (k + 1)) = stir1 (stirL s (xs.take k)) (xs.getD k 0) := by
  rw [List.take_add_one, stirL_append]
  simp [stirL, List.getD, hk]
end Go.Proofs.Ytjikdecfampbiaa
