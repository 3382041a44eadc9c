import Derived.Test.YtkpmdcmgcdnpfaaIPacket
import Derived.Test.YtkpmdcmgcdnpfaaTag
namespace Go.Proofs.Ytkpmdcmgcdnpfaa
open Go.RowKit
set_option linter.unusedVariables false

theorem infoT8s (xs : List Int) (h : xs.length = 8) : (Try.prog.info? 53).map (·.size) = some (u8s xs).toArray.size := by rw [infoA8]; simp [u8s_length, h]
abbrev Z8e : Obj := .cells #[.int .u8 0, .int .u8 0, .int .u8 0, .int .u8 0, .int .u8 0, .int .u8 0, .int .u8 0, .int .u8 0] 53 (0, 0)
abbrev FF4 : Obj := .cells #[.int .u8 255, .int .u8 255, .int .u8 255, .int .u8 255] 5 (0, 0)
abbrev Z16e : Obj := .cells #[.int .u8 0, .int .u8 0, .int .u8 0, .int .u8 0, .int .u8 0, .int .u8 0, .int .u8 0, .int .u8 0, .int .u8 0, .int .u8 0, .int .u8 0, .int .u8 0, .int .u8 0, .int .u8 0, .int .u8 0, .int .u8 0] 74 (0, 0)
theorem z8e_eq : (#[.int .u8 0, .int .u8 0, .int .u8 0, .int .u8 0, .int .u8 0, .int .u8 0, .int .u8 0, .int .u8 0] : Array Value) = (u8s (List.replicate 8 0)).toArray := rfl
theorem parts_of {w : World} {p n cap : Nat} {vs : List Value} {L : List (List Int)} {t : TypeId} (hp : w.heap[p]? = some (.cells vs.toArray t (0, 0))) (hn : n = L.length) (hr : ∀ j, j < L.length → ∃ v, vs[j]? = some v ∧ Row w .u8 v (L.getD j [])) :
    Parts w (.slice (some ⟨p, 0, none⟩) n cap) L := by
  subst hn
  refine ⟨p, cap, rfl, (Array.getElem?_eq_some_iff.1 hp).1, fun j hj => ?_⟩
  obtain ⟨v, h1, h2⟩ := hr j hj
  exact ⟨v, by rw [blkS_cell hp]; simpa using h1, h2⟩
theorem parts5B {w : World} {p : Nat} {v1 v2 v3 v4 v5 : Value} {x1 x2 x3 x4 x5 : List Int} {t : TypeId} (hp : w.heap[p]? = some (.cells #[v1, v2, v3, v4, v5] t (0, 0))) (h1 : Row w .u8 v1 x1) (h2 : Row w .u8 v2 x2) (h3 : Row w .u8 v3 x3) (h4 : Row w .u8 v4 x4) (h5 : Row w .u8 v5 x5) :
    Parts w (.slice (some ⟨p, 0, none⟩) 5 5) [x1, x2, x3, x4, x5] := by
  refine parts_of (vs := [v1, v2, v3, v4, v5]) hp rfl (fun j hj => ?_)
  rcases (show j = 0 ∨ j = 1 ∨ j = 2 ∨ j = 3 ∨ j = 4 by simp at hj; omega) with rfl | rfl | rfl | rfl | rfl
  · exact ⟨v1, rfl, h1⟩
  · exact ⟨v2, rfl, h2⟩
  · exact ⟨v3, rfl, h3⟩
  · exact ⟨v4, rfl, h4⟩
  · exact ⟨v5, rfl, h5⟩
theorem parts2B {w : World} {p : Nat} {v1 v2 : Value} {x1 x2 : List Int} {t : TypeId} (hp : w.heap[p]? = some (.cells #[v1, v2] t (0, 0))) (h1 : Row w .u8 v1 x1) (h2 : Row w .u8 v2 x2) :
    Parts w (.slice (some ⟨p, 0, none⟩) 2 2) [x1, x2] := by
  refine parts_of (vs := [v1, v2]) hp rfl (fun j hj => ?_)
  rcases (show j = 0 ∨ j = 1 by simp at hj; omega) with rfl | rfl
  · exact ⟨v1, rfl, h1⟩
  · exact ⟨v2, rfl, h2⟩
theorem bytes_getD5 {x1 x2 x3 x4 x5 : List Int} (h1 : Bytes x1) (h2 : Bytes x2) (h3 : Bytes x3) (h4 : Bytes x4) (h5 : Bytes x5) (j : Nat) : Bytes ([x1, x2, x3, x4, x5].getD j []) := by
  match j with
  | 0 => exact h1
  | 1 => exact h2
  | 2 => exact h3
  | 3 => exact h4
  | 4 => exact h5
  | n + 5 => intro x h; simp [List.getD] at h
theorem ff4_of {w : World} {p : Nat} (h : w.heap[p]? = some FF4) : Row w .u8 (.slice (some ⟨p, 0, none⟩) 4 4) ff4 :=
  row_full (xs := ff4) (n := 4) (e := 5) h rfl (by decide)
/-- A key and a nonce, cell by cell. -/
theorem pack_rows {w : World} {g t : Nat} {kb nn : List Int} (h : w.heap[g]? = some (.cells (u8s (kb ++ nn)).toArray t (0, 0))) (hk : kb.length = 16) (hn : nn.length = 8) :
    Row w .u8 (.slice (some ⟨g, 0, none⟩) 16 16) kb ∧ Row w .u8 (.slice (some ⟨g, 16, none⟩) 8 8) nn := by
  have e1 : ((kb ++ nn).drop 0).take 16 = kb := by rw [List.drop_zero, List.take_left' hk]
  have e2 : ((kb ++ nn).drop 16).take 8 = nn := by rw [List.drop_left' hk, List.take_of_length_le (by omega)]
  have r1 := row_part (off := 0) (n := 16) h (by rw [List.length_append]; omega) (by decide)
  have r2 := row_part (off := 16) (n := 8) h (by rw [List.length_append]; omega) (by decide)
  rw [e1] at r1
  rw [e2] at r2
  exact ⟨r1, r2⟩
theorem z16_facts {w : World} {p : Nat} (h : w.heap[p]? = some Z16e) : w.cell? ⟨p, 0, none⟩ = some (.int .u8 0) ∧ w.cell? ⟨p, 1, none⟩ = some (.int .u8 0) ∧ w.cell? ⟨p, 2, none⟩ = some (.int .u8 0) ∧ w.cell? ⟨p, 3, none⟩ = some (.int .u8 0) ∧ w.cell? ⟨p, 4, none⟩ = some (.int .u8 0) ∧ w.cell? ⟨p, 5, none⟩ = some (.int .u8 0) ∧ w.cell? ⟨p, 6, none⟩ = some (.int .u8 0) ∧ w.cell? ⟨p, 7, none⟩ = some (.int .u8 0) ∧ w.cell? ⟨p, 8, none⟩ = some (.int .u8 0) ∧ w.cell? ⟨p, 9, none⟩ = some (.int .u8 0) ∧ w.cell? ⟨p, 10, none⟩ = some (.int .u8 0) ∧ w.cell? ⟨p, 11, none⟩ = some (.int .u8 0) ∧ w.cell? ⟨p, 12, none⟩ = some (.int .u8 0) ∧ w.cell? ⟨p, 13, none⟩ = some (.int .u8 0) ∧ w.cell? ⟨p, 14, none⟩ = some (.int .u8 0) ∧ w.cell? ⟨p, 15, none⟩ = some (.int .u8 0) ∧ w.frozen? ⟨p, 0, none⟩ = false ∧ w.frozen? ⟨p, 1, none⟩ = false ∧ w.frozen? ⟨p, 2, none⟩ = false ∧ w.frozen? ⟨p, 3, none⟩ = false ∧ w.frozen? ⟨p, 4, none⟩ = false ∧ w.frozen? ⟨p, 5, none⟩ = false ∧ w.frozen? ⟨p, 6, none⟩ = false ∧ w.frozen? ⟨p, 7, none⟩ = false ∧ w.frozen? ⟨p, 8, none⟩ = false ∧ w.frozen? ⟨p, 9, none⟩ = false ∧ w.frozen? ⟨p, 10, none⟩ = false ∧ w.frozen? ⟨p, 11, none⟩ = false ∧ w.frozen? ⟨p, 12, none⟩ = false ∧ w.frozen? ⟨p, 13, none⟩ = false ∧ w.frozen? ⟨p, 14, none⟩ = false ∧ w.frozen? ⟨p, 15, none⟩ = false :=
  ⟨by rw [blkS_cell h]; rfl, by rw [blkS_cell h]; rfl, by rw [blkS_cell h]; rfl, by rw [blkS_cell h]; rfl, by rw [blkS_cell h]; rfl, by rw [blkS_cell h]; rfl, by rw [blkS_cell h]; rfl, by rw [blkS_cell h]; rfl, by rw [blkS_cell h]; rfl, by rw [blkS_cell h]; rfl, by rw [blkS_cell h]; rfl, by rw [blkS_cell h]; rfl, by rw [blkS_cell h]; rfl, by rw [blkS_cell h]; rfl, by rw [blkS_cell h]; rfl, by rw [blkS_cell h]; rfl, blkS_free h 0, blkS_free h 1, blkS_free h 2, blkS_free h 3, blkS_free h 4, blkS_free h 5, blkS_free h 6, blkS_free h 7, blkS_free h 8, blkS_free h 9, blkS_free h 10, blkS_free h 11, blkS_free h 12, blkS_free h 13, blkS_free h 14, blkS_free h 15⟩
theorem z16_store {w : World} {p : Nat} (h : w.heap[p]? = some Z16e) (d0 d1 d2 d3 d4 d5 d6 d7 d8 d9 d10 d11 d12 d13 d14 d15 : Int) : ((((((((((((((((w.setCell ⟨p, 0, none⟩ (.int .u8 d0)).setCell ⟨p, 1, none⟩ (.int .u8 d1)).setCell ⟨p, 2, none⟩ (.int .u8 d2)).setCell ⟨p, 3, none⟩ (.int .u8 d3)).setCell ⟨p, 4, none⟩ (.int .u8 d4)).setCell ⟨p, 5, none⟩ (.int .u8 d5)).setCell ⟨p, 6, none⟩ (.int .u8 d6)).setCell ⟨p, 7, none⟩ (.int .u8 d7)).setCell ⟨p, 8, none⟩ (.int .u8 d8)).setCell ⟨p, 9, none⟩ (.int .u8 d9)).setCell ⟨p, 10, none⟩ (.int .u8 d10)).setCell ⟨p, 11, none⟩ (.int .u8 d11)).setCell ⟨p, 12, none⟩ (.int .u8 d12)).setCell ⟨p, 13, none⟩ (.int .u8 d13)).setCell ⟨p, 14, none⟩ (.int .u8 d14)).setCell ⟨p, 15, none⟩ (.int .u8 d15)).heap[p]? = some (.cells (u8s [d0, d1, d2, d3, d4, d5, d6, d7, d8, d9, d10, d11, d12, d13, d14, d15]).toArray 74 (0, 0)) ∧ Only (some p) w ((((((((((((((((w.setCell ⟨p, 0, none⟩ (.int .u8 d0)).setCell ⟨p, 1, none⟩ (.int .u8 d1)).setCell ⟨p, 2, none⟩ (.int .u8 d2)).setCell ⟨p, 3, none⟩ (.int .u8 d3)).setCell ⟨p, 4, none⟩ (.int .u8 d4)).setCell ⟨p, 5, none⟩ (.int .u8 d5)).setCell ⟨p, 6, none⟩ (.int .u8 d6)).setCell ⟨p, 7, none⟩ (.int .u8 d7)).setCell ⟨p, 8, none⟩ (.int .u8 d8)).setCell ⟨p, 9, none⟩ (.int .u8 d9)).setCell ⟨p, 10, none⟩ (.int .u8 d10)).setCell ⟨p, 11, none⟩ (.int .u8 d11)).setCell ⟨p, 12, none⟩ (.int .u8 d12)).setCell ⟨p, 13, none⟩ (.int .u8 d13)).setCell ⟨p, 14, none⟩ (.int .u8 d14)).setCell ⟨p, 15, none⟩ (.int .u8 d15)) := by
  have n0 := Only.refl (some p) w
  have h0 := h
  obtain ⟨w1, e1⟩ : ∃ x, x = w.setCell ⟨p, 0, none⟩ (.int .u8 d0) := ⟨_, rfl⟩
  have h1 : w1.heap[p]? = some (.cells #[.int .u8 d0, .int .u8 0, .int .u8 0, .int .u8 0, .int .u8 0, .int .u8 0, .int .u8 0, .int .u8 0, .int .u8 0, .int .u8 0, .int .u8 0, .int .u8 0, .int .u8 0, .int .u8 0, .int .u8 0, .int .u8 0] 74 (0, 0)) := by rw [e1]; exact blkS_setCell h0 0 _
  have n1 : Only (some p) w w1 := by rw [e1]; exact n0.trans (Only.setCell ⟨p, 0, none⟩ _)
  rw [← e1]
  clear h0 e1 n0
  obtain ⟨w2, e2⟩ : ∃ x, x = w1.setCell ⟨p, 1, none⟩ (.int .u8 d1) := ⟨_, rfl⟩
  have h2 : w2.heap[p]? = some (.cells #[.int .u8 d0, .int .u8 d1, .int .u8 0, .int .u8 0, .int .u8 0, .int .u8 0, .int .u8 0, .int .u8 0, .int .u8 0, .int .u8 0, .int .u8 0, .int .u8 0, .int .u8 0, .int .u8 0, .int .u8 0, .int .u8 0] 74 (0, 0)) := by rw [e2]; exact blkS_setCell h1 1 _
  have n2 : Only (some p) w w2 := by rw [e2]; exact n1.trans (Only.setCell ⟨p, 1, none⟩ _)
  rw [← e2]
  clear h1 e2 n1
  obtain ⟨w3, e3⟩ : ∃ x, x = w2.setCell ⟨p, 2, none⟩ (.int .u8 d2) := ⟨_, rfl⟩
  have h3 : w3.heap[p]? = some (.cells #[.int .u8 d0, .int .u8 d1, .int .u8 d2, .int .u8 0, .int .u8 0, .int .u8 0, .int .u8 0, .int .u8 0, .int .u8 0, .int .u8 0, .int .u8 0, .int .u8 0, .int .u8 0, .int .u8 0, .int .u8 0, .int .u8 0] 74 (0, 0)) := by rw [e3]; exact blkS_setCell h2 2 _
  have n3 : Only (some p) w w3 := by rw [e3]; exact n2.trans (Only.setCell ⟨p, 2, none⟩ _)
  rw [← e3]
  clear h2 e3 n2
  obtain ⟨w4, e4⟩ : ∃ x, x = w3.setCell ⟨p, 3, none⟩ (.int .u8 d3) := ⟨_, rfl⟩
  have h4 : w4.heap[p]? = some (.cells #[.int .u8 d0, .int .u8 d1, .int .u8 d2, .int .u8 d3, .int .u8 0, .int .u8 0, .int .u8 0, .int .u8 0, .int .u8 0, .int .u8 0, .int .u8 0, .int .u8 0, .int .u8 0, .int .u8 0, .int .u8 0, .int .u8 0] 74 (0, 0)) := by rw [e4]; exact blkS_setCell h3 3 _
  have n4 : Only (some p) w w4 := by rw [e4]; exact n3.trans (Only.setCell ⟨p, 3, none⟩ _)
  rw [← e4]
  clear h3 e4 n3
  obtain ⟨w5, e5⟩ : ∃ x, x = w4.setCell ⟨p, 4, none⟩ (.int .u8 d4) := ⟨_, rfl⟩
  have h5 : w5.heap[p]? = some (.cells #[.int .u8 d0, .int .u8 d1, .int .u8 d2, .int .u8 d3, .int .u8 d4, .int .u8 0, .int .u8 0, .int .u8 0, .int .u8 0, .int .u8 0, .int .u8 0, .int .u8 0, .int .u8 0, .int .u8 0, .int .u8 0, .int .u8 0] 74 (0, 0)) := by rw [e5]; exact blkS_setCell h4 4 _
  have n5 : Only (some p) w w5 := by rw [e5]; exact n4.trans (Only.setCell ⟨p, 4, none⟩ _)
  rw [← e5]
  clear h4 e5 n4
  obtain ⟨w6, e6⟩ : ∃ x, x = w5.setCell ⟨p, 5, none⟩ (.int .u8 d5) := ⟨_, rfl⟩
  have h6 : w6.heap[p]? = some (.cells #[.int .u8 d0, .int .u8 d1, .int .u8 d2, .int .u8 d3, .int .u8 d4, .int .u8 d5, .int .u8 0, .int .u8 0, .int .u8 0, .int .u8 0, .int .u8 0, .int .u8 0, .int .u8 0, .int .u8 0, .int .u8 0, .int .u8 0] 74 (0, 0)) := by rw [e6]; exact blkS_setCell h5 5 _
  have n6 : Only (some p) w w6 := by rw [e6]; exact n5.trans (Only.setCell ⟨p, 5, none⟩ _)
  rw [← e6]
  clear h5 e6 n5
  obtain ⟨w7, e7⟩ : ∃ x, x = w6.setCell ⟨p, 6, none⟩ (.int .u8 d6) := ⟨_, rfl⟩
  have h7 : w7.heap[p]? = some (.cells #[.int .u8 d0, .int .u8 d1, .int .u8 d2, .int .u8 d3, .int .u8 d4, .int .u8 d5, .int .u8 d6, .int .u8 0, .int .u8 0, .int .u8 0, .int .u8 0, .int .u8 0, .int .u8 0, .int .u8 0, .int .u8 0, .int .u8 0] 74 (0, 0)) := by rw [e7]; exact blkS_setCell h6 6 _
  have n7 : Only (some p) w w7 := by rw [e7]; exact n6.trans (Only.setCell ⟨p, 6, none⟩ _)
  rw [← e7]
  clear h6 e7 n6
  obtain ⟨w8, e8⟩ : ∃ x, x = w7.setCell ⟨p, 7, none⟩ (.int .u8 d7) := ⟨_, rfl⟩
  have h8 : w8.heap[p]? = some (.cells #[.int .u8 d0, .int .u8 d1, .int .u8 d2, .int .u8 d3, .int .u8 d4, .int .u8 d5, .int .u8 d6, .int .u8 d7, .int .u8 0, .int .u8 0, .int .u8 0, .int .u8 0, .int .u8 0, .int .u8 0, .int .u8 0, .int .u8 0] 74 (0, 0)) := by rw [e8]; exact blkS_setCell h7 7 _
  have n8 : Only (some p) w w8 := by rw [e8]; exact n7.trans (Only.setCell ⟨p, 7, none⟩ _)
  rw [← e8]
  clear h7 e8 n7
  obtain ⟨w9, e9⟩ : ∃ x, x = w8.setCell ⟨p, 8, none⟩ (.int .u8 d8) := ⟨_, rfl⟩
  have h9 : w9.heap[p]? = some (.cells #[.int .u8 d0, .int .u8 d1, .int .u8 d2, .int .u8 d3, .int .u8 d4, .int .u8 d5, .int .u8 d6, .int .u8 d7, .int .u8 d8, .int .u8 0, .int .u8 0, .int .u8 0, .int .u8 0, .int .u8 0, .int .u8 0, .int .u8 0] 74 (0, 0)) := by rw [e9]; exact blkS_setCell h8 8 _
  have n9 : Only (some p) w w9 := by rw [e9]; exact n8.trans (Only.setCell ⟨p, 8, none⟩ _)
  rw [← e9]
  clear h8 e9 n8
  obtain ⟨w10, e10⟩ : ∃ x, x = w9.setCell ⟨p, 9, none⟩ (.int .u8 d9) := ⟨_, rfl⟩
  have h10 : w10.heap[p]? = some (.cells #[.int .u8 d0, .int .u8 d1, .int .u8 d2, .int .u8 d3, .int .u8 d4, .int .u8 d5, .int .u8 d6, .int .u8 d7, .int .u8 d8, .int .u8 d9, .int .u8 0, .int .u8 0, .int .u8 0, .int .u8 0, .int .u8 0, .int .u8 0] 74 (0, 0)) := by rw [e10]; exact blkS_setCell h9 9 _
  have n10 : Only (some p) w w10 := by rw [e10]; exact n9.trans (Only.setCell ⟨p, 9, none⟩ _)
  rw [← e10]
  clear h9 e10 n9
  obtain ⟨w11, e11⟩ : ∃ x, x = w10.setCell ⟨p, 10, none⟩ (.int .u8 d10) := ⟨_, rfl⟩
  have h11 : w11.heap[p]? = some (.cells #[.int .u8 d0, .int .u8 d1, .int .u8 d2, .int .u8 d3, .int .u8 d4, .int .u8 d5, .int .u8 d6, .int .u8 d7, .int .u8 d8, .int .u8 d9, .int .u8 d10, .int .u8 0, .int .u8 0, .int .u8 0, .int .u8 0, .int .u8 0] 74 (0, 0)) := by rw [e11]; exact blkS_setCell h10 10 _
  have n11 : Only (some p) w w11 := by rw [e11]; exact n10.trans (Only.setCell ⟨p, 10, none⟩ _)
  rw [← e11]
  clear h10 e11 n10
  obtain ⟨w12, e12⟩ : ∃ x, x = w11.setCell ⟨p, 11, none⟩ (.int .u8 d11) := ⟨_, rfl⟩
  have h12 : w12.heap[p]? = some (.cells #[.int .u8 d0, .int .u8 d1, .int .u8 d2, .int .u8 d3, .int .u8 d4, .int .u8 d5, .int .u8 d6, .int .u8 d7, .int .u8 d8, .int .u8 d9, .int .u8 d10, .int .u8 d11, .int .u8 0, .int .u8 0, .int .u8 0, .int .u8 0] 74 (0, 0)) := by rw [e12]; exact blkS_setCell h11 11 _
  have n12 : Only (some p) w w12 := by rw [e12]; exact n11.trans (Only.setCell ⟨p, 11, none⟩ _)
  rw [← e12]
  clear h11 e12 n11
  obtain ⟨w13, e13⟩ : ∃ x, x = w12.setCell ⟨p, 12, none⟩ (.int .u8 d12) := ⟨_, rfl⟩
  have h13 : w13.heap[p]? = some (.cells #[.int .u8 d0, .int .u8 d1, .int .u8 d2, .int .u8 d3, .int .u8 d4, .int .u8 d5, .int .u8 d6, .int .u8 d7, .int .u8 d8, .int .u8 d9, .int .u8 d10, .int .u8 d11, .int .u8 d12, .int .u8 0, .int .u8 0, .int .u8 0] 74 (0, 0)) := by rw [e13]; exact blkS_setCell h12 12 _
  have n13 : Only (some p) w w13 := by rw [e13]; exact n12.trans (Only.setCell ⟨p, 12, none⟩ _)
  rw [← e13]
  clear h12 e13 n12
  obtain ⟨w14, e14⟩ : ∃ x, x = w13.setCell ⟨p, 13, none⟩ (.int .u8 d13) := ⟨_, rfl⟩
  have h14 : w14.heap[p]? = some (.cells #[.int .u8 d0, .int .u8 d1, .int .u8 d2, .int .u8 d3, .int .u8 d4, .int .u8 d5, .int .u8 d6, .int .u8 d7, .int .u8 d8, .int .u8 d9, .int .u8 d10, .int .u8 d11, .int .u8 d12, .int .u8 d13, .int .u8 0, .int .u8 0] 74 (0, 0)) := by rw [e14]; exact blkS_setCell h13 13 _
  have n14 : Only (some p) w w14 := by rw [e14]; exact n13.trans (Only.setCell ⟨p, 13, none⟩ _)
  rw [← e14]
  clear h13 e14 n13
  obtain ⟨w15, e15⟩ : ∃ x, x = w14.setCell ⟨p, 14, none⟩ (.int .u8 d14) := ⟨_, rfl⟩
  have h15 : w15.heap[p]? = some (.cells #[.int .u8 d0, .int .u8 d1, .int .u8 d2, .int .u8 d3, .int .u8 d4, .int .u8 d5, .int .u8 d6, .int .u8 d7, .int .u8 d8, .int .u8 d9, .int .u8 d10, .int .u8 d11, .int .u8 d12, .int .u8 d13, .int .u8 d14, .int .u8 0] 74 (0, 0)) := by rw [e15]; exact blkS_setCell h14 14 _
  have n15 : Only (some p) w w15 := by rw [e15]; exact n14.trans (Only.setCell ⟨p, 14, none⟩ _)
  rw [← e15]
  clear h14 e15 n14
  obtain ⟨w16, e16⟩ : ∃ x, x = w15.setCell ⟨p, 15, none⟩ (.int .u8 d15) := ⟨_, rfl⟩
  have h16 : w16.heap[p]? = some (.cells #[.int .u8 d0, .int .u8 d1, .int .u8 d2, .int .u8 d3, .int .u8 d4, .int .u8 d5, .int .u8 d6, .int .u8 d7, .int .u8 d8, .int .u8 d9, .int .u8 d10, .int .u8 d11, .int .u8 d12, .int .u8 d13, .int .u8 d14, .int .u8 d15] 74 (0, 0)) := by rw [e16]; exact blkS_setCell h15 15 _
  have n16 : Only (some p) w w16 := by rw [e16]; exact n15.trans (Only.setCell ⟨p, 15, none⟩ _)
  rw [← e16]
  clear h15 e16 n15
  exact ⟨h16, n16⟩

theorem tag_call {Z : World} {kb nn hd cp : List Int} {v3 : Value} {pS pP pF nh nc cph cpc : Nat} {aoh aoc : Option Addr} (hS : Z.heap[pS]? = some (.cells (u8s (kb ++ nn)).toArray 59 (0, 0)))
    (hP : Z.heap[pP]? = some (.cells #[.slice (some ⟨pS, 16, none⟩) 8 8, .slice (some ⟨pF, 0, none⟩) 4 4, v3, .slice aoh nh cph, .slice aoc nc cpc] 22 (0, 0))) (hF : Z.heap[pF]? = some FF4)
    (h3 : Row Z .u8 v3 (be (nh : Int) 4)) (hh : Row Z .u8 (.slice aoh nh cph) hd) (hc : Row Z .u8 (.slice aoc nc cpc) cp) (lk : kb.length = 16) (ln : nn.length = 8) (bk : Bytes kb) (bn : Bytes nn) (bh : Bytes hd) (bc : Bytes cp) (eh : nh = hd.length) (ec : nc = cp.length) (lh : nh ≤ 1048576) (lc : nc ≤ 1048576) :
    Calls Try.prog 49 #[.slice (some ⟨pS, 0, none⟩) 16 16, .slice (some ⟨pP, 0, none⟩) 5 5] Z fun e w' => e = .returned (.agg (u8s (digV kb (nn ++ ff4 ++ be (nh : Int) 4 ++ hd ++ cp))).toArray) ∧ Below Z.heap.size Z w' := by
  have := iparts _ _ kb [nn, ff4, be (nh : Int) 4, hd, cp] Z (pack_rows hS lk ln).1 bk (by omega) (parts5B hP (pack_rows hS lk ln).2 (ff4_of hF) h3 hh hc) (bytes_getD5 bn ff4_bytes (be_bytes _ _) bh bc) (by simp [be_length, ff4]; omega) (by simp)
  have ef : [nn, ff4, be (nh : Int) 4, hd, cp].flatten = nn ++ ff4 ++ be (nh : Int) 4 ++ hd ++ cp := by simp
  rwa [ef] at this

/-- The digest of a key and parts, the answer stored in a new variable p. -/
structure SumAt (w wx : World) (D : List Int) (o : Obj) (h : Nat) (v : Value) : Prop where
  at' : ∃ p, v = .pointer (some ⟨p, 0, none⟩) ∧ wx.heap[p]? = some (.cells (u8s D).toArray 74 (0, 0)) ∧ h < p ∧ w.heap.size ≤ p
  bel : Below w.heap.size w wx
  res : wx.heap[h]? = some o

theorem st16 {W : World} {p : Nat} {D : List Int} (h : W.heap[p]? = some Z16e) (hl : D.length = 16) : (storeCells ⟨p, 0, none⟩ (u8s D)).run Try.prog W = .ok () (W.setRow p (u8s D).toArray) := by
  have := run_storeCells_at (P := Try.prog) p 0 74 (u8s D) 0 _ W h (by rw [u8s_length, hl]; decide) (u8s_one D)
  rw [this]
  congr 2
  simp [u8s_length, hl]
theorem sum_setR {w w3 : World} {D : List Int} {o : Obj} {h p : Nat} (hp : w3.heap[p]? = some Z16e) (C : Below w.heap.size w w3) (r : w3.heap[h]? = some o) (hl : h < p) (hw : w.heap.size ≤ p) :
    SumAt w (w3.setRow p (u8s D).toArray) D o h (.pointer (some ⟨p, 0, none⟩)) :=
  ⟨⟨p, rfl, setRow_heap w3 p _ _ _ _ hp, hl, hw⟩, C.trans ((only_setRow w3 p _).below hw), ((only_setRow w3 p _).block h (fun e => by cases e; omega)).trans r⟩
theorem sum_freshR {w w3 : World} {D : List Int} {o : Obj} {h : Nat} (C : Below w.heap.size w w3) (r : w3.heap[h]? = some o) :
    SumAt w ((w3.alloc Z16e).setRow w3.heap.size (u8s D).toArray) D o h (.pointer (some ⟨w3.heap.size, 0, none⟩)) := by
  have hl : h < w3.heap.size := (Array.getElem?_eq_some_iff.1 r).1
  exact sum_setR (MapKept.heap_alloc w3 _).1 (C.alloc C.size _) ((Below.heap_alloc w3 _ _ hl).trans r) hl C.size
theorem u8s16 (d0 d1 d2 d3 d4 d5 d6 d7 d8 d9 d10 d11 d12 d13 d14 d15 : Int) : (u8s [d0, d1, d2, d3, d4, d5, d6, d7, d8, d9, d10, d11, d12, d13, d14, d15]).toArray = #[.int .u8 d0, .int .u8 d1, .int .u8 d2, .int .u8 d3, .int .u8 d4, .int .u8 d5, .int .u8 d6, .int .u8 d7, .int .u8 d8, .int .u8 d9, .int .u8 d10, .int .u8 d11, .int .u8 d12, .int .u8 d13, .int .u8 d14, .int .u8 d15] := rfl
theorem sum_fresh {w w3 : World} {D : List Int} {o : Obj} {h : Nat} {d0 d1 d2 d3 d4 d5 d6 d7 d8 d9 d10 d11 d12 d13 d14 d15 : Int} (C : Below w.heap.size w w3) (r : w3.heap[h]? = some o) (e : D = [d0, d1, d2, d3, d4, d5, d6, d7, d8, d9, d10, d11, d12, d13, d14, d15]) :
    SumAt w (w3.alloc (.cells #[.int .u8 d0, .int .u8 d1, .int .u8 d2, .int .u8 d3, .int .u8 d4, .int .u8 d5, .int .u8 d6, .int .u8 d7, .int .u8 d8, .int .u8 d9, .int .u8 d10, .int .u8 d11, .int .u8 d12, .int .u8 d13, .int .u8 d14, .int .u8 d15] 74)) D o h (.pointer (some ⟨w3.heap.size, 0, none⟩)) := by
  have hl : h < w3.heap.size := (Array.getElem?_eq_some_iff.1 r).1
  subst e
  exact ⟨⟨w3.heap.size, rfl, (MapKept.heap_alloc w3 _).1, hl, C.size⟩, C.alloc C.size _, (Below.heap_alloc w3 _ _ hl).trans r⟩
theorem sum_set {w w3 : World} {D : List Int} {o : Obj} {h p : Nat} {d0 d1 d2 d3 d4 d5 d6 d7 d8 d9 d10 d11 d12 d13 d14 d15 : Int} (hp : w3.heap[p]? = some Z16e) (C : Below w.heap.size w w3) (r : w3.heap[h]? = some o) (hl : h < p) (hw : w.heap.size ≤ p) (e : D = [d0, d1, d2, d3, d4, d5, d6, d7, d8, d9, d10, d11, d12, d13, d14, d15]) :
    SumAt w ((((((((((((((((w3.setCell ⟨p, 0, none⟩ (.int .u8 d0)).setCell ⟨p, 1, none⟩ (.int .u8 d1)).setCell ⟨p, 2, none⟩ (.int .u8 d2)).setCell ⟨p, 3, none⟩ (.int .u8 d3)).setCell ⟨p, 4, none⟩ (.int .u8 d4)).setCell ⟨p, 5, none⟩ (.int .u8 d5)).setCell ⟨p, 6, none⟩ (.int .u8 d6)).setCell ⟨p, 7, none⟩ (.int .u8 d7)).setCell ⟨p, 8, none⟩ (.int .u8 d8)).setCell ⟨p, 9, none⟩ (.int .u8 d9)).setCell ⟨p, 10, none⟩ (.int .u8 d10)).setCell ⟨p, 11, none⟩ (.int .u8 d11)).setCell ⟨p, 12, none⟩ (.int .u8 d12)).setCell ⟨p, 13, none⟩ (.int .u8 d13)).setCell ⟨p, 14, none⟩ (.int .u8 d14)).setCell ⟨p, 15, none⟩ (.int .u8 d15)) D o h (.pointer (some ⟨p, 0, none⟩)) := by
  obtain ⟨h1, h2⟩ := z16_store hp d0 d1 d2 d3 d4 d5 d6 d7 d8 d9 d10 d11 d12 d13 d14 d15
  subst e
  exact ⟨⟨p, rfl, h1, hl, hw⟩, C.trans (h2.below hw), (h2.block h (fun e => by cases e; omega)).trans r⟩

end Go.Proofs.Ytkpmdcmgcdnpfaa
