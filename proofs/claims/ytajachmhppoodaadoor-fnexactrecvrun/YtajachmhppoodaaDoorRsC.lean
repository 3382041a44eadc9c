import Derived.Test.YtajachmhppoodaaDoorRsB
namespace Go.Proofs.YtajachmhppoodaaDoor
open Go.RowKit
set_option linter.unusedVariables false

set_option maxRecDepth 20000 in
set_option maxHeartbeats 2000000 in
/-- What take refuses ahead of the final size. -/
theorem take_12 (g : Nat) (st win told read final en off : Int) (sized fb : Bool) (vd vt : Value) (av : Option Addr) (n dc : Nat) (w : World) (hb : mB w g st win told read final en sized vd vt) (hn : n ≤ 140737488355328) (ho : off ≤ 9223372036854775807)
    (h : (1500 < n ∨ off < 0 ∨ 4611686018427387903 - (n : Int) < off) ∨ told < off + n) :
    Calls Tryd.prog 25 #[.pointer (some ⟨g, 0, none⟩), .int .i64 off, .slice av n dc, .bool fb] w fun e w' => e = .returned (.int .i64 (if 1500 < n ∨ off < 0 ∨ 4611686018427387903 - (n : Int) < off then 1 else 8)) ∧ w' = w := by
  have c2 : w.cell? ⟨g, 2, none⟩ = some (.int .i64 told) := (bk_cell hb 2).trans rfl
  clear hb
  by_cases a1 : 1500 < n
  · rw [if_pos (Or.inl a1)]
    clear h
    go_enter Tryd.func25, Tryd.ntmps25
    go_wp2
    go_ret
    exact ⟨rfl, rfl⟩
  by_cases a2 : off < 0
  · rw [if_pos (Or.inr (Or.inl a2))]
    clear h
    go_enter Tryd.func25, Tryd.ntmps25
    go_wp2
    go_ret
    exact ⟨rfl, rfl⟩
  by_cases a3 : 4611686018427387903 - (n : Int) < off
  · rw [if_pos (Or.inr (Or.inr a3))]
    clear h
    go_enter Tryd.func25, Tryd.ntmps25
    go_wp2
    go_ret
    exact ⟨rfl, rfl⟩
  have a4 : told < off + n := by omega
  rw [if_neg (by omega)]
  clear h
  go_enter Tryd.func25, Tryd.ntmps25
  go_wp2
  go_ret
  exact ⟨rfl, rfl⟩
set_option maxRecDepth 20000 in
set_option maxHeartbeats 2000000 in
theorem take_3 (g : Nat) (st win told read final en off : Int) (sized fb : Bool) (vd vt : Value) (av : Option Addr) (n dc : Nat) (w : World) (hb : mB w g st win told read final en sized vd vt) (a1 : n ≤ 1500) (a2 : 0 ≤ off) (a3 : off ≤ 4611686018427387903 - (n : Int)) (a4 : off + n ≤ told)
    (h : (sized = true ∧ (final < off + n ∨ (fb = true ∧ off + n ≠ final))) ∨ (fb = true ∧ off + n < en)) :
    Calls Tryd.prog 25 #[.pointer (some ⟨g, 0, none⟩), .int .i64 off, .slice av n dc, .bool fb] w fun e w' => e = .returned (.int .i64 10) ∧ w' = w := by
  have c2 : w.cell? ⟨g, 2, none⟩ = some (.int .i64 told) := (bk_cell hb 2).trans rfl
  have c4 : w.cell? ⟨g, 4, none⟩ = some (.int .i64 final) := (bk_cell hb 4).trans rfl
  have c5 : w.cell? ⟨g, 5, none⟩ = some (.int .i64 en) := (bk_cell hb 5).trans rfl
  have c6 : w.cell? ⟨g, 6, none⟩ = some (.bool sized) := (bk_cell hb 6).trans rfl
  clear hb
  by_cases b1 : sized = true ∧ final < off + n
  · obtain ⟨rfl, b2⟩ := b1
    clear h
    go_enter Tryd.func25, Tryd.ntmps25
    go_wp2
    go_ret
    exact ⟨rfl, rfl⟩
  by_cases b2 : sized = true ∧ fb = true ∧ off + n ≠ final
  · obtain ⟨rfl, rfl, b3⟩ := b2
    have b4 : ((off + (n : Int)) != final) = true := by simpa using b3
    have b5 : ¬ final < off + n := fun e => b1 ⟨rfl, e⟩
    clear h b1 b3
    go_enter Tryd.func25, Tryd.ntmps25
    go_wp2
    go_ret
    exact ⟨rfl, rfl⟩
  have b3 : fb = true ∧ off + n < en := by
    rcases h with ⟨h1, h2 | h2⟩ | h2
    · exact absurd ⟨h1, h2⟩ b1
    · exact absurd ⟨h1, h2.1, h2.2⟩ b2
    · exact h2
  obtain ⟨rfl, b4⟩ := b3
  cases sized
  · clear h b1 b2
    go_enter Tryd.func25, Tryd.ntmps25
    go_wp2
    go_ret
    exact ⟨rfl, rfl⟩
  · have b5 : ¬ final < off + n := fun e => b1 ⟨rfl, e⟩
    have b6 : off + n = final := by
      by_cases e : off + n = final
      · exact e
      · exact absurd ⟨rfl, rfl, e⟩ b2
    have b7 : ((off + (n : Int)) != final) = false := by simpa using b6
    have B6 : Hid _ := b6
    clear h b1 b2 b6
    go_enter Tryd.func25, Tryd.ntmps25
    go_wp2
    go_ret
    exact ⟨rfl, rfl⟩
set_option maxRecDepth 20000 in
set_option maxHeartbeats 2000000 in
theorem take_4 (g : Nat) (st : Nat) (win told read final en off : Int) (sized fb : Bool) (vd vt : Value) (av : Option Addr) (n dc : Nat) (w : World) (hb : mB w g st win told read final en sized vd vt) (a1 : n ≤ 1500) (a2 : 0 ≤ off) (a3 : off ≤ 4611686018427387903 - (n : Int)) (a4 : off + n ≤ told)
    (h : ¬ ((sized = true ∧ (final < off + n ∨ (fb = true ∧ off + n ≠ final))) ∨ (fb = true ∧ off + n < en))) (hs : ¬ st < 2) :
    Calls Tryd.prog 25 #[.pointer (some ⟨g, 0, none⟩), .int .i64 off, .slice av n dc, .bool fb] w fun e w' => e = .returned (.int .i64 0) ∧ w' = w := by
  have c0 : w.cell? ⟨g, 0, none⟩ = some (.int .i64 (st : Int)) := (bk_cell hb 0).trans rfl
  have c2 : w.cell? ⟨g, 2, none⟩ = some (.int .i64 told) := (bk_cell hb 2).trans rfl
  have c4 : w.cell? ⟨g, 4, none⟩ = some (.int .i64 final) := (bk_cell hb 4).trans rfl
  have c5 : w.cell? ⟨g, 5, none⟩ = some (.int .i64 en) := (bk_cell hb 5).trans rfl
  have c6 : w.cell? ⟨g, 6, none⟩ = some (.bool sized) := (bk_cell hb 6).trans rfl
  have s0 : ((st : Int) != 0) = true := by simp; omega
  have s1 : ((st : Int) != 1) = true := by simp; omega
  clear hb
  cases sized
  · cases fb
    · clear h
      go_enter Tryd.func25, Tryd.ntmps25
      go_wp2
      go_ret
      exact ⟨rfl, rfl⟩
    · have b1 : ¬ (off + (n : Int) < en) := fun e => h (Or.inr ⟨rfl, e⟩)
      clear h
      go_enter Tryd.func25, Tryd.ntmps25
      go_wp2
      go_ret
      exact ⟨rfl, rfl⟩
  · have b2 : ¬ final < off + n := fun e => h (Or.inl ⟨rfl, Or.inl e⟩)
    cases fb
    · clear h
      go_enter Tryd.func25, Tryd.ntmps25
      go_wp2
      go_ret
      exact ⟨rfl, rfl⟩
    · have b1 : ¬ (off + (n : Int) < en) := fun e => h (Or.inr ⟨rfl, e⟩)
      have b3 : ((off + (n : Int)) != final) = false := by
        by_cases e : off + (n : Int) = final
        · simpa using e
        · exact absurd (Or.inl ⟨rfl, Or.inr ⟨rfl, e⟩⟩) h
      clear h
      go_enter Tryd.func25, Tryd.ntmps25
      go_wp2
      go_ret
      exact ⟨rfl, rfl⟩
end Go.Proofs.YtajachmhppoodaaDoor
