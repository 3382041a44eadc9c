import Derived.Test.YtgifbpongpbjaaaDoorStV
import Derived.Deep.QuietTactic
import Derived.BigQuiet
namespace Go.Proofs.YtgifbpongpbjaaaDoor
open Go.RowKit
set_option linter.unusedVariables false

/-- Where data is refused: the code, 0 where it is not. -/
def dtE (gr : Nat) (fin told : Int) (n : Nat) (off : Int) (fb : Bool) : Int :=
  if 1500 < n ∨ off < 0 ∨ 4611686018427387903 - (n : Int) < off then 1
  else if told < off + n then 8
  else if (fin ≠ -1 ∧ fin < off + n) ∨ (fb = true ∧ ¬ ((gr : Int) ≤ off + n ∧ (fin = -1 ∨ off + n = fin))) then 10 else 0
set_option maxRecDepth 20000 in
set_option maxHeartbeats 1000000 in
theorem data_1 (g c win st first came gr : Nat) (fin told off : Int) (av : Option Addr) (n dc : Nat) (fb : Bool) (w : World) (hb : rcB w g c win st first came gr fin told) (h : 1500 < n) (hm : n ≤ 9223372036854775807) :
    Calls Tryd.prog 11 #[.pointer (some ⟨g, 0, none⟩), .int .i64 off, .slice av n dc, .bool fb] w fun e w' => e = .returned (.int .i64 1) ∧ w' = w := by
  have d6 : w.cell? ⟨g, 6, none⟩ = some (.int .i64 fin) := (bk_cell hb 6).trans rfl
  have d7 : w.cell? ⟨g, 7, none⟩ = some (.int .i64 told) := (bk_cell hb 7).trans rfl
  clear hb
  go_enter Tryd.func11, Tryd.ntmps11
  go_wp2
  go_ret
  exact ⟨rfl, rfl⟩
set_option maxRecDepth 20000 in
set_option maxHeartbeats 1000000 in
theorem data_2 (g c win st first came gr : Nat) (fin told off : Int) (av : Option Addr) (n dc : Nat) (fb : Bool) (w : World) (hb : rcB w g c win st first came gr fin told) (h : n ≤ 1500) (h2 : off < 0) :
    Calls Tryd.prog 11 #[.pointer (some ⟨g, 0, none⟩), .int .i64 off, .slice av n dc, .bool fb] w fun e w' => e = .returned (.int .i64 1) ∧ w' = w := by
  have d6 : w.cell? ⟨g, 6, none⟩ = some (.int .i64 fin) := (bk_cell hb 6).trans rfl
  have d7 : w.cell? ⟨g, 7, none⟩ = some (.int .i64 told) := (bk_cell hb 7).trans rfl
  clear hb
  go_enter Tryd.func11, Tryd.ntmps11
  go_wp2
  go_ret
  exact ⟨rfl, rfl⟩
set_option maxRecDepth 20000 in
set_option maxHeartbeats 1000000 in
theorem data_3 (g c win st first came gr : Nat) (fin told off : Int) (av : Option Addr) (n dc : Nat) (fb : Bool) (w : World) (hb : rcB w g c win st first came gr fin told) (h : n ≤ 1500) (h2 : 0 ≤ off) (h3 : 4611686018427387903 - (n : Int) < off) (hm : off ≤ 9223372036854775807) :
    Calls Tryd.prog 11 #[.pointer (some ⟨g, 0, none⟩), .int .i64 off, .slice av n dc, .bool fb] w fun e w' => e = .returned (.int .i64 1) ∧ w' = w := by
  have d6 : w.cell? ⟨g, 6, none⟩ = some (.int .i64 fin) := (bk_cell hb 6).trans rfl
  have d7 : w.cell? ⟨g, 7, none⟩ = some (.int .i64 told) := (bk_cell hb 7).trans rfl
  clear hb
  go_enter Tryd.func11, Tryd.ntmps11
  go_wp2
  go_ret
  exact ⟨rfl, rfl⟩
set_option maxRecDepth 20000 in
set_option maxHeartbeats 1000000 in
theorem data_4 (g c win st first came gr : Nat) (fin told off : Int) (av : Option Addr) (n dc : Nat) (fb : Bool) (w : World) (hb : rcB w g c win st first came gr fin told) (h : n ≤ 1500) (h2 : 0 ≤ off) (h3 : off ≤ 4611686018427387903 - (n : Int)) (h4 : told < off + n) :
    Calls Tryd.prog 11 #[.pointer (some ⟨g, 0, none⟩), .int .i64 off, .slice av n dc, .bool fb] w fun e w' => e = .returned (.int .i64 8) ∧ w' = w := by
  have d6 : w.cell? ⟨g, 6, none⟩ = some (.int .i64 fin) := (bk_cell hb 6).trans rfl
  have d7 : w.cell? ⟨g, 7, none⟩ = some (.int .i64 told) := (bk_cell hb 7).trans rfl
  clear hb
  go_enter Tryd.func11, Tryd.ntmps11
  go_wp2
  go_ret
  exact ⟨rfl, rfl⟩
set_option maxRecDepth 20000 in
set_option maxHeartbeats 1000000 in
theorem data_5 (g c win st first came gr : Nat) (fin told off : Int) (av : Option Addr) (n dc : Nat) (fb : Bool) (w : World) (hb : rcB w g c win st first came gr fin told) (h : n ≤ 1500) (h2 : 0 ≤ off) (h3 : off ≤ 4611686018427387903 - (n : Int)) (h4 : off + n ≤ told) (h5 : fin ≠ -1) (h6 : fin < off + n) :
    Calls Tryd.prog 11 #[.pointer (some ⟨g, 0, none⟩), .int .i64 off, .slice av n dc, .bool fb] w fun e w' => e = .returned (.int .i64 10) ∧ w' = w := by
  have d6 : w.cell? ⟨g, 6, none⟩ = some (.int .i64 fin) := (bk_cell hb 6).trans rfl
  have d7 : w.cell? ⟨g, 7, none⟩ = some (.int .i64 told) := (bk_cell hb 7).trans rfl
  have b5 : (fin != -1) = true := by simpa using h5
  clear hb
  go_enter Tryd.func11, Tryd.ntmps11
  go_wp2
  go_ret
  exact ⟨rfl, rfl⟩
set_option maxRecDepth 20000 in
set_option maxHeartbeats 1000000 in
theorem data_6 (g c win st first came gr : Nat) (fin told off : Int) (av : Option Addr) (n dc : Nat) (fb : Bool) (w : World) (hb : rcB w g c win st first came gr fin told) (h : n ≤ 1500) (h2 : 0 ≤ off) (h3 : off ≤ 4611686018427387903 - (n : Int)) (h4 : off + n ≤ told) (h5 : fin = -1 ∨ off + n ≤ fin) (hf : fb = true) (h6 : ¬ ((gr : Int) ≤ off + n ∧ (fin = -1 ∨ off + n = fin))) :
    Calls Tryd.prog 11 #[.pointer (some ⟨g, 0, none⟩), .int .i64 off, .slice av n dc, .bool fb] w fun e w' => e = .returned (.int .i64 10) ∧ w' = w := by
  have d6 : w.cell? ⟨g, 6, none⟩ = some (.int .i64 fin) := (bk_cell hb 6).trans rfl
  have d7 : w.cell? ⟨g, 7, none⟩ = some (.int .i64 told) := (bk_cell hb 7).trans rfl
  have CM := mayEndI g c win st first came gr fin told (off + n) w hb
  rw [decide_eq_false h6] at CM
  clear hb
  subst hf
  by_cases h7 : fin = -1
  · have b5 : (fin != -1) = false := by simpa using h7
    go_enter Tryd.func11, Tryd.ntmps11
    go_wp2_with (go_at_call 14; refine CM.mono ?_; rintro e wy ⟨rfl, rfl⟩)
    go_ret
    exact ⟨rfl, rfl⟩
  have b5 : (fin != -1) = true := by simpa using h7
  have b6 : off + n ≤ fin := h5.resolve_left h7
  go_enter Tryd.func11, Tryd.ntmps11
  go_wp2_with (go_at_call 14; refine CM.mono ?_; rintro e wy ⟨rfl, rfl⟩)
  go_ret
  exact ⟨rfl, rfl⟩
theorem chg_of_eq {S : Nat → Prop} (w : World) : Chg S w w := ⟨rfl, rfl, rfl, Nat.le_refl _, fun _ _ _ => rfl⟩
set_option maxRecDepth 20000 in
set_option maxHeartbeats 1000000 in
theorem data_7te (g c win st first came gr : Nat) (fin told off : Int) (av : Option Addr) (n dc : Nat) (w : World) (hb : rcB w g c win st first came gr fin told) (h : n ≤ 1500) (h2 : 0 ≤ off) (h3 : off ≤ 4611686018427387903 - (n : Int)) (h4 : off + n ≤ told) (h7 : fin = -1) (h6 : (gr : Int) ≤ off + n ∧ (fin = -1 ∨ off + n = fin))  (hs : st < 6) (h8 : 2 ≤ st) (ht : TabF w) (h0 : 0 < w.heap.size) :
    Calls Tryd.prog 11 #[.pointer (some ⟨g, 0, none⟩), .int .i64 off, .slice av n dc, .bool true] w fun e w' => e = .returned (.int .i64 0) ∧ Below w.heap.size w w' := by
  have d6 : w.cell? ⟨g, 6, none⟩ = some (.int .i64 fin) := (bk_cell hb 6).trans rfl
  have d7 : w.cell? ⟨g, 7, none⟩ = some (.int .i64 told) := (bk_cell hb 7).trans rfl
  have b5 : (fin != -1) = false := by simpa using h7
  have CM := mayEndI g c win st first came gr fin told (off + n) w hb
  rw [decide_eq_true h6] at CM
  have CT := takingI g c win st first came gr fin told w hs ht h0 hb
  rw [decide_eq_false (by omega)] at CT
  clear hb ht h0
  go_enter Tryd.func11, Tryd.ntmps11
  go_wp2_with fail
  go_at_call 14
  refine CM.mono ?_
  rintro e wy ⟨rfl, hwy⟩
  subst wy
  go_wp2_with fail
  go_at_call 15
  refine CT.mono ?_
  rintro e w1 ⟨rfl, b1⟩
  go_wp2
  go_ret
  exact ⟨rfl, b1⟩
set_option maxRecDepth 20000 in
set_option maxHeartbeats 1000000 in
theorem data_7tn (g c win st first came gr : Nat) (fin told off : Int) (av : Option Addr) (n dc : Nat) (w : World) (hb : rcB w g c win st first came gr fin told) (h : n ≤ 1500) (h2 : 0 ≤ off) (h3 : off ≤ 4611686018427387903 - (n : Int)) (h4 : off + n ≤ told) (h7 : fin ≠ -1) (h5 : off + n ≤ fin) (h6 : (gr : Int) ≤ off + n ∧ (fin = -1 ∨ off + n = fin))  (hs : st < 6) (h8 : 2 ≤ st) (ht : TabF w) (h0 : 0 < w.heap.size) :
    Calls Tryd.prog 11 #[.pointer (some ⟨g, 0, none⟩), .int .i64 off, .slice av n dc, .bool true] w fun e w' => e = .returned (.int .i64 0) ∧ Below w.heap.size w w' := by
  have d6 : w.cell? ⟨g, 6, none⟩ = some (.int .i64 fin) := (bk_cell hb 6).trans rfl
  have d7 : w.cell? ⟨g, 7, none⟩ = some (.int .i64 told) := (bk_cell hb 7).trans rfl
  have b5 : (fin != -1) = true := by simpa using h7
  have CM := mayEndI g c win st first came gr fin told (off + n) w hb
  rw [decide_eq_true h6] at CM
  have CT := takingI g c win st first came gr fin told w hs ht h0 hb
  rw [decide_eq_false (by omega)] at CT
  clear hb ht h0
  go_enter Tryd.func11, Tryd.ntmps11
  go_wp2_with fail
  go_at_call 14
  refine CM.mono ?_
  rintro e wy ⟨rfl, hwy⟩
  subst wy
  go_wp2_with fail
  go_at_call 15
  refine CT.mono ?_
  rintro e w1 ⟨rfl, b1⟩
  go_wp2
  go_ret
  exact ⟨rfl, b1⟩
set_option maxRecDepth 20000 in
set_option maxHeartbeats 1000000 in
theorem data_7fe (g c win st first came gr : Nat) (fin told off : Int) (av : Option Addr) (n dc : Nat) (w : World) (hb : rcB w g c win st first came gr fin told) (h : n ≤ 1500) (h2 : 0 ≤ off) (h3 : off ≤ 4611686018427387903 - (n : Int)) (h4 : off + n ≤ told) (h7 : fin = -1)  (hs : st < 6) (h8 : 2 ≤ st) (ht : TabF w) (h0 : 0 < w.heap.size) :
    Calls Tryd.prog 11 #[.pointer (some ⟨g, 0, none⟩), .int .i64 off, .slice av n dc, .bool false] w fun e w' => e = .returned (.int .i64 0) ∧ Below w.heap.size w w' := by
  have d6 : w.cell? ⟨g, 6, none⟩ = some (.int .i64 fin) := (bk_cell hb 6).trans rfl
  have d7 : w.cell? ⟨g, 7, none⟩ = some (.int .i64 told) := (bk_cell hb 7).trans rfl
  have b5 : (fin != -1) = false := by simpa using h7
  have CT := takingI g c win st first came gr fin told w hs ht h0 hb
  rw [decide_eq_false (by omega)] at CT
  clear hb ht h0
  go_enter Tryd.func11, Tryd.ntmps11
  go_wp2_with fail
  go_at_call 15
  refine CT.mono ?_
  rintro e w1 ⟨rfl, b1⟩
  go_wp2
  go_ret
  exact ⟨rfl, b1⟩
set_option maxRecDepth 20000 in
set_option maxHeartbeats 1000000 in
theorem data_7fn (g c win st first came gr : Nat) (fin told off : Int) (av : Option Addr) (n dc : Nat) (w : World) (hb : rcB w g c win st first came gr fin told) (h : n ≤ 1500) (h2 : 0 ≤ off) (h3 : off ≤ 4611686018427387903 - (n : Int)) (h4 : off + n ≤ told) (h7 : fin ≠ -1) (h5 : off + n ≤ fin)  (hs : st < 6) (h8 : 2 ≤ st) (ht : TabF w) (h0 : 0 < w.heap.size) :
    Calls Tryd.prog 11 #[.pointer (some ⟨g, 0, none⟩), .int .i64 off, .slice av n dc, .bool false] w fun e w' => e = .returned (.int .i64 0) ∧ Below w.heap.size w w' := by
  have d6 : w.cell? ⟨g, 6, none⟩ = some (.int .i64 fin) := (bk_cell hb 6).trans rfl
  have d7 : w.cell? ⟨g, 7, none⟩ = some (.int .i64 told) := (bk_cell hb 7).trans rfl
  have b5 : (fin != -1) = true := by simpa using h7
  have CT := takingI g c win st first came gr fin told w hs ht h0 hb
  rw [decide_eq_false (by omega)] at CT
  clear hb ht h0
  go_enter Tryd.func11, Tryd.ntmps11
  go_wp2_with fail
  go_at_call 15
  refine CT.mono ?_
  rintro e w1 ⟨rfl, b1⟩
  go_wp2
  go_ret
  exact ⟨rfl, b1⟩
end Go.Proofs.YtgifbpongpbjaaaDoor
