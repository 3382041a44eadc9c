import Derived.Test.YtiiefhpkkjocbalIsRS
namespace Go.Proofs.Ytiiefhpkkjocbal
open Go.RowKit
set_option linter.unusedVariables false

theorem shortB (x : Int) (h : x < 64 ∨ 127 < x) (w : World) : Calls Try.prog 25 #[.int .u8 x] w fun e w' => e = .returned (.bool false) ∧ w' = w := by
  by_cases h1 : 64 ≤ x
  · have d1 : decide ((64 : Int) ≤ x) = true := decide_eq_true h1
    have d2 : decide (x < 128) = false := decide_eq_false (by omega)
    clear h h1
    go_enter Try.func25, Try.ntmps25
    go_wp2
    go_ret
    exact ⟨rfl, rfl⟩
  · have d1 : decide ((64 : Int) ≤ x) = false := decide_eq_false h1
    clear h h1
    go_enter Try.func25, Try.ntmps25
    go_wp2
    go_ret
    exact ⟨rfl, rfl⟩
theorem shortG (x : Int) (h1 : 64 ≤ x) (h2 : x ≤ 127) (w : World) : Calls Try.prog 25 #[.int .u8 x] w fun e w' => e = .returned (.bool true) ∧ w' = w := by
  have d1 : decide ((64 : Int) ≤ x) = true := decide_eq_true h1
  have d2 : decide (x < 128) = true := decide_eq_true (by omega)
  clear h1 h2
  go_enter Try.func25, Try.ntmps25
  go_wp2
  go_ret
  exact ⟨rfl, rfl⟩
set_option maxRecDepth 20000 in
set_option maxHeartbeats 1000000 in
theorem isrS_long (ab at' : Option Addr) (nb m pb ct : Nat) (w : World) (hb : nb ≤ 9223372036854775807) (hm : m ≤ 9223372036854775807) (h1 : 65536 < nb) :
    Calls Try.prog 15 #[.slice ab nb pb, .slice at' m ct] w fun e w' => e = .returned (.int .i64 (-1)) ∧ Below w.heap.size w w' := by
  have d1 : decide ((65536 : Int) < (nb : Int)) = true := decide_eq_true (by omega)
  clear hb hm h1
  go_enter Try.func15, Try.ntmps15
  go_wp2
  go_ret
  exact ⟨rfl, Below.refl _ _⟩
set_option maxRecDepth 20000 in
set_option maxHeartbeats 1000000 in
theorem isrS_many (ab at' : Option Addr) (nb m pb ct : Nat) (w : World) (hb : nb ≤ 9223372036854775807) (hm : m ≤ 9223372036854775807) (h1 : nb ≤ 65536) (h2 : 4096 < m) :
    Calls Try.prog 15 #[.slice ab nb pb, .slice at' m ct] w fun e w' => e = .returned (.int .i64 (-1)) ∧ Below w.heap.size w w' := by
  have d1 : decide ((65536 : Int) < (nb : Int)) = false := decide_eq_false (by omega)
  have d2 : decide ((4096 : Int) < (m : Int)) = true := decide_eq_true (by omega)
  clear hb hm h1 h2
  go_enter Try.func15, Try.ntmps15
  go_wp2
  go_ret
  exact ⟨rfl, Below.refl _ _⟩
set_option maxRecDepth 20000 in
set_option maxHeartbeats 1000000 in
theorem isrS_short (ab at' : Option Addr) (nb m pb ct : Nat) (w : World) (hb : nb ≤ 9223372036854775807) (hm : m ≤ 9223372036854775807) (h1 : nb < 21) (h2 : m ≤ 4096) :
    Calls Try.prog 15 #[.slice ab nb pb, .slice at' m ct] w fun e w' => e = .returned (.int .i64 (-1)) ∧ Below w.heap.size w w' := by
  have d1 : decide ((65536 : Int) < (nb : Int)) = false := decide_eq_false (by omega)
  have d2 : decide ((4096 : Int) < (m : Int)) = false := decide_eq_false (by omega)
  have d3 : decide ((nb : Int) < 21) = true := decide_eq_true (by omega)
  clear hb hm h1 h2
  go_enter Try.func15, Try.ntmps15
  go_wp2
  go_ret
  exact ⟨rfl, Below.refl _ _⟩
set_option maxRecDepth 20000 in
set_option maxHeartbeats 1000000 in
theorem isrS_low (b off pb : Nat) (at' : Option Addr) (nb m ct : Nat) (x0 : Int) (w : World) (hb : b < w.heap.size) (c0 : w.cell? ⟨b, off, none⟩ = some (.int .u8 x0)) (h1 : nb ≤ 65536) (h2 : m ≤ 4096) (h3 : 21 ≤ nb) (h4 : x0 < 64) :
    Calls Try.prog 15 #[.slice (some ⟨b, off, none⟩) nb pb, .slice at' m ct] w fun e w' => e = .returned (.int .i64 (-1)) ∧ Below w.heap.size w w' := by
  have d1 : decide ((65536 : Int) < (nb : Int)) = false := decide_eq_false (by omega)
  have d2 : decide ((4096 : Int) < (m : Int)) = false := decide_eq_false (by omega)
  have d3 : decide ((nb : Int) < 21) = false := decide_eq_false (by omega)
  have hp : (0 : Int) < (nb : Int) := by omega
  have d4 : decide (x0 < 64) = true := decide_eq_true h4
  have HB : Hid _ := hb
  clear hb h1 h2 h3 h4
  go_enter Try.func15, Try.ntmps15
  go_wp2
  go_ret
  exact ⟨rfl, Below.refl _ _⟩
set_option maxRecDepth 20000 in
set_option maxHeartbeats 1000000 in
theorem isrS_high (b off pb : Nat) (at' : Option Addr) (nb m ct : Nat) (x0 : Int) (w : World) (hb : b < w.heap.size) (c0 : w.cell? ⟨b, off, none⟩ = some (.int .u8 x0)) (h1 : nb ≤ 65536) (h2 : m ≤ 4096) (h3 : 21 ≤ nb) (h4 : 64 ≤ x0) (h5 : 127 < x0) :
    Calls Try.prog 15 #[.slice (some ⟨b, off, none⟩) nb pb, .slice at' m ct] w fun e w' => e = .returned (.int .i64 (-1)) ∧ Below w.heap.size w w' := by
  have d1 : decide ((65536 : Int) < (nb : Int)) = false := decide_eq_false (by omega)
  have d2 : decide ((4096 : Int) < (m : Int)) = false := decide_eq_false (by omega)
  have d3 : decide ((nb : Int) < 21) = false := decide_eq_false (by omega)
  have hp : (0 : Int) < (nb : Int) := by omega
  have d4 : decide (x0 < 64) = false := decide_eq_false (by omega)
  have d5 : decide (127 < x0) = true := decide_eq_true h5
  have HB : Hid _ := hb
  clear hb h1 h2 h3 h4 h5
  go_enter Try.func15, Try.ntmps15
  go_wp2
  go_ret
  exact ⟨rfl, Below.refl _ _⟩
set_option maxRecDepth 20000 in
set_option maxHeartbeats 1000000 in
theorem isrI_long (ab at' : Option Addr) (nb m pb ct : Nat) (w : World) (hb : nb ≤ 9223372036854775807) (hm : m ≤ 9223372036854775807) (h1 : 65536 < nb) :
    Calls Try.prog 17 #[.slice ab nb pb, .slice at' m ct] w fun e w' => e = .returned (.int .i64 (-1)) ∧ Below w.heap.size w w' := by
  have d1 : decide ((65536 : Int) < (nb : Int)) = true := decide_eq_true (by omega)
  clear hb hm h1
  go_enter Try.func17, Try.ntmps17
  go_wp2
  go_ret
  exact ⟨rfl, (Below.refl _ _).alloc (Nat.le_refl _) _⟩
set_option maxRecDepth 20000 in
set_option maxHeartbeats 1000000 in
theorem isrI_many (ab at' : Option Addr) (nb m pb ct : Nat) (w : World) (hb : nb ≤ 9223372036854775807) (hm : m ≤ 9223372036854775807) (h1 : nb ≤ 65536) (h2 : 4096 < m) :
    Calls Try.prog 17 #[.slice ab nb pb, .slice at' m ct] w fun e w' => e = .returned (.int .i64 (-1)) ∧ Below w.heap.size w w' := by
  have d1 : decide ((65536 : Int) < (nb : Int)) = false := decide_eq_false (by omega)
  have d2 : decide ((4096 : Int) < (m : Int)) = true := decide_eq_true (by omega)
  clear hb hm h1 h2
  go_enter Try.func17, Try.ntmps17
  go_wp2
  go_ret
  exact ⟨rfl, (Below.refl _ _).alloc (Nat.le_refl _) _⟩
set_option maxRecDepth 20000 in
set_option maxHeartbeats 1000000 in
theorem isrI_short (ab at' : Option Addr) (nb m pb ct : Nat) (w : World) (hb : nb ≤ 9223372036854775807) (hm : m ≤ 9223372036854775807) (h1 : nb < 21) (h2 : m ≤ 4096) :
    Calls Try.prog 17 #[.slice ab nb pb, .slice at' m ct] w fun e w' => e = .returned (.int .i64 (-1)) ∧ Below w.heap.size w w' := by
  have d1 : decide ((65536 : Int) < (nb : Int)) = false := decide_eq_false (by omega)
  have d2 : decide ((4096 : Int) < (m : Int)) = false := decide_eq_false (by omega)
  have d3 : decide ((nb : Int) < 21) = true := decide_eq_true (by omega)
  clear hb hm h1 h2
  go_enter Try.func17, Try.ntmps17
  go_wp2
  go_ret
  exact ⟨rfl, (Below.refl _ _).alloc (Nat.le_refl _) _⟩
set_option maxRecDepth 20000 in
set_option maxHeartbeats 1000000 in
theorem isrI_low (b off pb : Nat) (at' : Option Addr) (nb m ct : Nat) (x0 : Int) (w : World) (hb : b < w.heap.size) (c0 : w.cell? ⟨b, off, none⟩ = some (.int .u8 x0)) (h1 : nb ≤ 65536) (h2 : m ≤ 4096) (h3 : 21 ≤ nb) (h4 : x0 < 64) :
    Calls Try.prog 17 #[.slice (some ⟨b, off, none⟩) nb pb, .slice at' m ct] w fun e w' => e = .returned (.int .i64 (-1)) ∧ Below w.heap.size w w' := by
  have d1 : decide ((65536 : Int) < (nb : Int)) = false := decide_eq_false (by omega)
  have d2 : decide ((4096 : Int) < (m : Int)) = false := decide_eq_false (by omega)
  have d3 : decide ((nb : Int) < 21) = false := decide_eq_false (by omega)
  have hp : (0 : Int) < (nb : Int) := by omega
  have SH := shortB x0 (Or.inl h4)
  have c1 := (Below.refl w.heap.size w).alloc (Nat.le_refl _) (.cells #[.slice (some ⟨b, off, none⟩) nb pb] 22)
  have c2 := (c1.cell (p := ⟨b, off, none⟩) hb).trans c0
  have HS : Hid _ := And.intro SH c1
  clear SH c1 hb c0 h1 h2 h3 h4
  go_enter Try.func17, Try.ntmps17
  go_wp2_with (go_at_call 25; refine (HS.out.1 _).mono ?_; rintro e w' ⟨rfl, hw⟩; subst w')
  go_ret
  exact ⟨rfl, HS.out.2⟩
set_option maxRecDepth 20000 in
set_option maxHeartbeats 1000000 in
theorem isrI_high (b off pb : Nat) (at' : Option Addr) (nb m ct : Nat) (x0 : Int) (w : World) (hb : b < w.heap.size) (c0 : w.cell? ⟨b, off, none⟩ = some (.int .u8 x0)) (h1 : nb ≤ 65536) (h2 : m ≤ 4096) (h3 : 21 ≤ nb) (h4 : 64 ≤ x0) (h5 : 127 < x0) :
    Calls Try.prog 17 #[.slice (some ⟨b, off, none⟩) nb pb, .slice at' m ct] w fun e w' => e = .returned (.int .i64 (-1)) ∧ Below w.heap.size w w' := by
  have d1 : decide ((65536 : Int) < (nb : Int)) = false := decide_eq_false (by omega)
  have d2 : decide ((4096 : Int) < (m : Int)) = false := decide_eq_false (by omega)
  have d3 : decide ((nb : Int) < 21) = false := decide_eq_false (by omega)
  have hp : (0 : Int) < (nb : Int) := by omega
  have SH := shortB x0 (Or.inr h5)
  have c1 := (Below.refl w.heap.size w).alloc (Nat.le_refl _) (.cells #[.slice (some ⟨b, off, none⟩) nb pb] 22)
  have c2 := (c1.cell (p := ⟨b, off, none⟩) hb).trans c0
  have HS : Hid _ := And.intro SH c1
  clear SH c1 hb c0 h1 h2 h3 h4 h5
  go_enter Try.func17, Try.ntmps17
  go_wp2_with (go_at_call 25; refine (HS.out.1 _).mono ?_; rintro e w' ⟨rfl, hw⟩; subst w')
  go_ret
  exact ⟨rfl, HS.out.2⟩
end Go.Proofs.Ytiiefhpkkjocbal
