import Derived.Test.YthjakbpcpfmbjaaVals
import Derived.BigRegion
namespace Go.Proofs.Ythjakbpcpfmbjaa
open Go.RowKit
set_option linter.unusedVariables false

/-- The source's state: how many bytes were drawn, and the seed. -/
structure St where
  pos : Int
  seed : Int

def bytV (xs : List Int) (s : St) : Int :=
  if s.pos + 1 ≤ xs.length then xs.getD s.pos.toNat 0
  else if 4000 + 4 * (xs.length : Int) < s.pos + 1 then 0
  else (s.seed * 1103515245 + 12345) % 2147483648 / 65536 % 256
def bytS (xs : List Int) (s : St) : St :=
  ⟨s.pos + 1, if s.pos + 1 ≤ xs.length then (s.seed * 31 + xs.getD s.pos.toNat 0 + 7) % 2147483648
    else if 4000 + 4 * (xs.length : Int) < s.pos + 1 then s.seed
    else (s.seed * 1103515245 + 12345) % 2147483648⟩

/-- The same memory and streams (draws aside). -/
structure Like (w w' : World) : Prop where
  os : w'.os = w.os
  tape : w'.tape = w.tape
  output : w'.output = w.output
  heap : w'.heap = w.heap

set_option maxHeartbeats 1000000 in
theorem byte_in (g b off n cap a : Nat) (sd x : Int) (w : World) (hn : n ≤ 1048576) (ha : a < n) (hs0 : 0 ≤ sd) (hs1 : sd < 2147483648) (hx0 : 0 ≤ x) (hx1 : x < 256)
    (c0 : w.cell? ⟨g, 0, none⟩ = some (.slice (some ⟨b, off, none⟩) n cap)) (c1 : w.cell? ⟨g, 1, none⟩ = some (.int .i64 (a : Int))) (c2 : w.cell? ⟨g, 2, none⟩ = some (.int .i64 sd))
    (f1 : w.frozen? ⟨g, 1, none⟩ = false) (f2 : w.frozen? ⟨g, 2, none⟩ = false) (hbg : b ≠ g) (cx : w.cell? ⟨b, off + a, none⟩ = some (.int .u8 x)) :
    Calls Try.prog 26 #[.pointer (some ⟨g, 0, none⟩)] w fun e w' => e = .returned (.int .i64 x) ∧ Like ((w.setCell ⟨g, 1, none⟩ (.int .i64 ((a : Int) + 1))).setCell ⟨g, 2, none⟩ (.int .i64 ((sd * 31 + x + 7) % 2147483648))) w' := by
  go_enter Try.func26, Try.ntmps26
  go_wp2
  go_quiet (fail)
  go_wp2
  go_region
  go_wp2
  go_quiet (fail)
  go_wp2
  go_ret
  exact ⟨rfl, ⟨rfl, rfl, rfl, rfl⟩⟩

set_option maxHeartbeats 1000000 in
theorem byte_out (g n cap : Nat) (ao : Option Addr) (a sd : Int) (w : World) (hn : n ≤ 1048576) (ha0 : 0 ≤ a) (ha : (n : Int) ≤ a) (ha1 : a ≤ 1099511627776) (hs0 : 0 ≤ sd) (hs1 : sd < 2147483648) (hlim : a + 1 ≤ 4000 + 4 * (n : Int))
    (c0 : w.cell? ⟨g, 0, none⟩ = some (.slice ao n cap)) (c1 : w.cell? ⟨g, 1, none⟩ = some (.int .i64 a)) (c2 : w.cell? ⟨g, 2, none⟩ = some (.int .i64 sd))
    (f1 : w.frozen? ⟨g, 1, none⟩ = false) (f2 : w.frozen? ⟨g, 2, none⟩ = false) :
    Calls Try.prog 26 #[.pointer (some ⟨g, 0, none⟩)] w fun e w' => e = .returned (.int .i64 ((sd * 1103515245 + 12345) % 2147483648 / 65536 % 256)) ∧ Like ((w.setCell ⟨g, 1, none⟩ (.int .i64 (a + 1))).setCell ⟨g, 2, none⟩ (.int .i64 ((sd * 1103515245 + 12345) % 2147483648))) w' := by
  have h1 : decide (a + 1 ≤ (n : Int)) = false := by simp; omega
  have h2 : decide (4000 + 4 * (n : Int) < a + 1) = false := by simp; omega
  go_enter Try.func26, Try.ntmps26
  go_wp2
  go_quiet (fail)
  go_wp2
  go_quiet (fail)
  go_wp2
  go_ret
  exact ⟨rfl, ⟨rfl, rfl, rfl, rfl⟩⟩

set_option maxHeartbeats 1000000 in
theorem byte_end (g n cap : Nat) (ao : Option Addr) (a sd : Int) (w : World) (hn : n ≤ 1048576) (ha0 : 0 ≤ a) (ha1 : a ≤ 1099511627776) (hlim : 4000 + 4 * (n : Int) < a + 1)
    (c0 : w.cell? ⟨g, 0, none⟩ = some (.slice ao n cap)) (c1 : w.cell? ⟨g, 1, none⟩ = some (.int .i64 a)) (f1 : w.frozen? ⟨g, 1, none⟩ = false) :
    Calls Try.prog 26 #[.pointer (some ⟨g, 0, none⟩)] w fun e w' => e = .returned (.int .i64 0) ∧ Like (w.setCell ⟨g, 1, none⟩ (.int .i64 (a + 1))) w' := by
  have h1 : decide (a + 1 ≤ (n : Int)) = false := by simp; omega
  go_enter Try.func26, Try.ntmps26
  go_wp2
  go_quiet (fail)
  go_wp2
  go_quiet (fail)
  go_wp2
  go_ret
  exact ⟨rfl, ⟨rfl, rfl, rfl, rfl⟩⟩
end Go.Proofs.Ythjakbpcpfmbjaa
