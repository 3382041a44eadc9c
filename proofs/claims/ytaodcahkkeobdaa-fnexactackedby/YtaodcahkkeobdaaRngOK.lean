import Derived.Test.YtaodcahkkeobdaaRng
import Derived.BigQuiet
namespace Go.Proofs.Ytaodcahkkeobdaa
open Go.RowKit
set_option linter.unusedVariables false

/-- The place j of a list of ranges is good. -/
def rgood (R : List (Int × Int)) (j : Nat) : Prop := 0 ≤ rlo R j ∧ rlo R j ≤ rhi R j ∧ rhi R j ≤ 4611686018427387903 ∧ (0 < j → rhi R (j - 1) + 1 < rlo R j)
def rgoodB (R : List (Int × Int)) (j : Nat) : Bool := decide (0 ≤ rlo R j) && decide (rlo R j ≤ rhi R j) && decide (rhi R j ≤ 4611686018427387903) && (decide (j = 0) || decide (rhi R (j - 1) + 1 < rlo R j))
theorem rgoodB_iff (R : List (Int × Int)) (j : Nat) : rgoodB R j = true ↔ rgood R j := by
  unfold rgoodB rgood
  simp only [Bool.and_eq_true, Bool.or_eq_true, decide_eq_true_eq]
  constructor
  · rintro ⟨⟨⟨h0, h1⟩, h2⟩, h3⟩
    exact ⟨h0, h1, h2, fun hj => by rcases h3 with h | h; exact absurd h (by omega); exact h⟩
  · rintro ⟨h0, h1, h2, h3⟩
    exact ⟨⟨⟨h0, h1⟩, h2⟩, by by_cases hj : j = 0; exact Or.inl hj; exact Or.inr (h3 (by omega))⟩
def rokV (R : List (Int × Int)) : Bool := decide (R.length ≤ 64) && (List.range R.length).all (rgoodB R)
theorem rok_iff (R : List (Int × Int)) : rokV R = true ↔ (R.length ≤ 64 ∧ ∀ j, j < R.length → rgood R j) := by
  unfold rokV
  simp only [Bool.and_eq_true, decide_eq_true_eq, List.all_eq_true, List.mem_range, rgoodB_iff]
theorem rok_long (R : List (Int × Int)) (h : 64 < R.length) : rokV R = false := by
  cases e : rokV R
  · rfl
  · have := ((rok_iff R).1 e).1; omega
theorem rok_bad (R : List (Int × Int)) (j : Nat) (hj : j < R.length) (h : ¬ rgood R j) : rokV R = false := by
  cases e : rokV R
  · rfl
  · exact absurd (((rok_iff R).1 e).2 j hj) h
theorem rok_all (R : List (Int × Int)) (h : R.length ≤ 64) (hg : ∀ j, j < R.length → rgood R j) : rokV R = true := (rok_iff R).2 ⟨h, hg⟩
theorem cell_alloc {w : World} {o : Obj} {p : Addr} {v : Value} (h : w.cell? p = some v) (hl : p.block < w.heap.size) : (w.alloc o).cell? p = some v := (((Below.refl w.heap.size w).alloc (Nat.le_refl _) o).cell hl).trans h

theorem rokS_long (ao : Option Addr) (n cp : Nat) (w : World) (h : 64 < n) (hn : n ≤ 9223372036854775807) : Calls Try.prog 22 #[.slice ao n cp] w fun e w' => e = .returned (.bool false) ∧ Below w.heap.size w w' := by
  have hd : (64 : Int) < (n : Int) := by omega
  go_enter Try.func22, Try.ntmps22
  go_wp2
  go_ret
  exact ⟨rfl, Below.refl _ _⟩
theorem rokS_nil (ao : Option Addr) (cp : Nat) (w : World) : Calls Try.prog 22 #[.slice ao 0 cp] w fun e w' => e = .returned (.bool true) ∧ Below w.heap.size w w' := by
  go_enter Try.func22, Try.ntmps22
  go_wp2_with fail
  refine wp_loop_rounds 1 ?_
  rw [rounds_succ]
  go_wp2
  go_ret
  exact ⟨rfl, Below.refl _ _⟩
set_option maxRecDepth 20000 in
set_option maxHeartbeats 4000000 in
theorem rokS_core (R : List (Int × Int)) (m b off cp : Nat) (w : World) (em : R.length = m) (hm : m ≤ 64) (hbl : b < w.heap.size) (hc : ∀ j, j < m → w.cell? ⟨b, off + j * 2, none⟩ = some (.int .i64 (rlo R j)) ∧ w.cell? ⟨b, off + j * 2 + 1, none⟩ = some (.int .i64 (rhi R j))) :
    Calls Try.prog 22 #[.slice (some ⟨b, off, none⟩) m cp] w fun e w' => e = .returned (.bool (rokV R)) ∧ Below w.heap.size w w' := by
  have HH : Hid _ := And.intro hc em
  clear hc em
  have hm6 : decide ((64 : Int) < (m : Int)) = false := decide_eq_false (by omega)
  go_enter Try.func22, Try.ntmps22
  go_wp2_with fail
  clear hm6
  go_loopg [3] m (fun q i wr => ∃ k : Nat, k ≤ m ∧ q = m - k ∧ i = .int .i64 (k : Int) ∧ Below w.heap.size w wr ∧ ∀ j, j < k → rgood R j)
  case atStart => exact ⟨0, by omega, by omega, rfl, Below.refl _ _, fun j hj => by omega⟩
  case round =>
    obtain ⟨k, hk, hq, rfl, bw, hg⟩ := hrel
    by_cases hlt : k < m
    · obtain ⟨x, ex⟩ : ∃ x, x = rlo R k := ⟨_, rfl⟩
      obtain ⟨y, ey⟩ : ∃ y, y = rhi R k := ⟨_, rfl⟩
      have c0 := (bw.cell (p := ⟨b, off + k * 2, none⟩) hbl).trans (HH.out.1 k hlt).1
      have c1 := (bw.cell (p := ⟨b, off + k * 2 + 1, none⟩) hbl).trans (HH.out.1 k hlt).2
      rw [← ex] at c0
      rw [← ey] at c1
      have hbr : b < wr.heap.size := by have := bw.size; omega
      have ba : Below w.heap.size w (wr.alloc (.cells #[.int .i64 x, .int .i64 y] 50)) := bw.alloc bw.size _
      have H2 : Hid _ := And.intro (And.intro ex ey) (And.intro bw (And.intro hg ba))
      clear ex ey bw hg ba
      by_cases h1 : x < 0
      · go_wp2_with fail
        go_quiet (fail)
        go_wp2
        go_ret
        rw [rok_bad R k (by rw [HH.out.2]; exact hlt) (fun hgd => by have h1 := H2.out.1.1; have h2 := H2.out.1.2; unfold rgood at hgd; rw [← h1, ← h2] at hgd; omega)]
        exact ⟨rfl, below_drewN H2.out.2.2.2 _⟩
      have d1 : decide (x < 0) = false := decide_eq_false h1
      by_cases h2 : 4611686018427387903 < y
      · go_wp2_with fail
        go_quiet (fail)
        go_wp2
        go_ret
        rw [rok_bad R k (by rw [HH.out.2]; exact hlt) (fun hgd => by have h1 := H2.out.1.1; have h2 := H2.out.1.2; unfold rgood at hgd; rw [← h1, ← h2] at hgd; omega)]
        exact ⟨rfl, below_drewN H2.out.2.2.2 _⟩
      have d2 : decide (4611686018427387903 < y) = false := decide_eq_false h2
      by_cases h3 : y < x
      · go_wp2_with fail
        go_quiet (fail)
        go_wp2
        go_ret
        rw [rok_bad R k (by rw [HH.out.2]; exact hlt) (fun hgd => by have h1 := H2.out.1.1; have h2 := H2.out.1.2; unfold rgood at hgd; rw [← h1, ← h2] at hgd; omega)]
        exact ⟨rfl, below_drewN H2.out.2.2.2 _⟩
      have d3 : decide (y < x) = false := decide_eq_false h3
      cases k with
      | zero =>
        simp only [Nat.zero_mul, Nat.add_zero] at c0 c1
        have d4 : decide ((0 : Int) < 0) = false := rfl
        go_wp2_with fail
        go_quiet (fail)
        go_wp2
        go_roundg (m - (0 + 1))
        case measure => omega
        case rel =>
          refine ⟨0 + 1, by omega, rfl, by go_num, below_drewN H2.out.2.2.2 _, fun j hj => ?_⟩
          by_cases hjk : j = 0
          · subst hjk
            refine ⟨?_, ?_, ?_, ?_⟩
            · rw [← H2.out.1.1]; omega
            · rw [← H2.out.1.1, ← H2.out.1.2]; omega
            · rw [← H2.out.1.2]; omega
            · intro hz; omega
          · exact H2.out.2.2.1 j (by omega)
      | succ k =>
        have ek : ((k + 1 : Nat) : Int) = (k : Int) + 1 := by simp
        rw [ek]
        obtain ⟨z, ez⟩ : ∃ z, z = rhi R k := ⟨_, rfl⟩
        have gk := H2.out.2.2.1 k (by omega)
        have hz1 : z ≤ 4611686018427387903 := by rw [ez]; exact gk.2.2.1
        have hz0 : 0 ≤ z := by rw [ez]; exact Int.le_trans gk.1 gk.2.1
        have c3 := (H2.out.2.2.2.cell (p := ⟨b, off + k * 2 + 1, none⟩) hbl).trans (HH.out.1 k (by omega)).2
        rw [← ez] at c3
        have hw : IntKind.i64.wrap (z + 1) = z + 1 := by rw [IntKind.wrap_i64]; omega
        have EZ : Hid _ := And.intro ez (And.intro hz0 hz1)
        clear ez gk
        by_cases h4 : x ≤ z + 1
        · go_wp2_with fail
          go_quiet (fail)
          go_wp2
          go_ret
          rw [rok_bad R (k + 1) (by rw [HH.out.2]; exact hlt) (fun hgd => by have h1 := H2.out.1.1; have h5 := EZ.out.1; have h6 := hgd.2.2.2 (by omega); rw [Nat.add_sub_cancel] at h6; rw [← h1, ← h5] at h6; omega)]
          exact ⟨rfl, below_drewN H2.out.2.2.2 _⟩
        have d4 : decide (x ≤ z + 1) = false := decide_eq_false h4
        go_wp2_with fail
        go_quiet (fail)
        go_wp2
        go_roundg (m - ((k + 1) + 1))
        case measure => omega
        case rel =>
          refine ⟨(k + 1) + 1, by omega, rfl, by go_num, below_drewN H2.out.2.2.2 _, fun j hj => ?_⟩
          by_cases hjk : j = (k + 1)
          · subst hjk
            refine ⟨?_, ?_, ?_, ?_⟩
            · rw [← H2.out.1.1]; omega
            · rw [← H2.out.1.1, ← H2.out.1.2]; omega
            · rw [← H2.out.1.2]; omega
            · intro _; rw [Nat.add_sub_cancel, ← H2.out.1.1]; have h5 := EZ.out.1; rw [← h5]; omega
          · exact H2.out.2.2.1 j (by omega)
    · have H2 : Hid _ := And.intro bw hg
      clear bw hg
      go_wp2
      go_ret
      rw [rok_all R (by rw [HH.out.2]; exact hm) (fun j hj => H2.out.2 j (by have := HH.out.2; omega))]
      exact ⟨rfl, H2.out.1⟩
theorem rokI_long (ao : Option Addr) (n cp : Nat) (w : World) (h : 64 < n) (hn : n ≤ 9223372036854775807) : Calls Try.prog 56 #[.slice ao n cp] w fun e w' => e = .returned (.bool false) ∧ Below w.heap.size w w' := by
  have hd : (64 : Int) < (n : Int) := by omega
  go_enter Try.func56, Try.ntmps56
  go_wp2
  go_ret
  exact ⟨rfl, Below.refl _ _⟩
theorem rokI_nil (ao : Option Addr) (cp : Nat) (w : World) : Calls Try.prog 56 #[.slice ao 0 cp] w fun e w' => e = .returned (.bool true) ∧ Below w.heap.size w w' := by
  go_enter Try.func56, Try.ntmps56
  go_wp2_with fail
  refine wp_loop_rounds 1 ?_
  rw [rounds_succ]
  go_wp2
  go_ret
  exact ⟨rfl, Below.refl _ _⟩
set_option maxRecDepth 20000 in
set_option maxHeartbeats 4000000 in
theorem rokI_core (R : List (Int × Int)) (m b off cp : Nat) (w : World) (em : R.length = m) (hm : m ≤ 64) (hbl : b < w.heap.size) (hc : ∀ j, j < m → w.cell? ⟨b, off + j * 2, none⟩ = some (.int .i64 (rlo R j)) ∧ w.cell? ⟨b, off + j * 2 + 1, none⟩ = some (.int .i64 (rhi R j))) :
    Calls Try.prog 56 #[.slice (some ⟨b, off, none⟩) m cp] w fun e w' => e = .returned (.bool (rokV R)) ∧ Below w.heap.size w w' := by
  have HH : Hid _ := And.intro hc em
  clear hc em
  have hm6 : decide ((64 : Int) < (m : Int)) = false := decide_eq_false (by omega)
  go_enter Try.func56, Try.ntmps56
  go_wp2_with fail
  clear hm6
  go_loopg [10] m (fun q i wr => ∃ k : Nat, k ≤ m ∧ q = m - k ∧ i = .int .i64 (k : Int) ∧ Below w.heap.size w wr ∧ ∀ j, j < k → rgood R j)
  case atStart => exact ⟨0, by omega, by omega, rfl, Below.refl _ _, fun j hj => by omega⟩
  case round =>
    obtain ⟨k, hk, hq, rfl, bw, hg⟩ := hrel
    by_cases hlt : k < m
    · obtain ⟨x, ex⟩ : ∃ x, x = rlo R k := ⟨_, rfl⟩
      obtain ⟨y, ey⟩ : ∃ y, y = rhi R k := ⟨_, rfl⟩
      have c0 := (bw.cell (p := ⟨b, off + k * 2, none⟩) hbl).trans (HH.out.1 k hlt).1
      have c1 := (bw.cell (p := ⟨b, off + k * 2 + 1, none⟩) hbl).trans (HH.out.1 k hlt).2
      rw [← ex] at c0
      rw [← ey] at c1
      have hbr : b < wr.heap.size := by have := bw.size; omega
      have ba : Below w.heap.size w (wr.alloc (.cells #[.int .i64 x, .int .i64 y] 50)) := bw.alloc bw.size _
      have H2 : Hid _ := And.intro (And.intro ex ey) (And.intro bw (And.intro hg ba))
      clear ex ey bw hg ba
      by_cases h1 : x < 0
      · go_wp2
        go_ret
        rw [rok_bad R k (by rw [HH.out.2]; exact hlt) (fun hgd => by have h1 := H2.out.1.1; have h2 := H2.out.1.2; unfold rgood at hgd; rw [← h1, ← h2] at hgd; omega)]
        exact ⟨rfl, H2.out.2.2.2⟩
      have d1 : decide (x < 0) = false := decide_eq_false h1
      by_cases h3 : y < x
      · go_wp2
        go_ret
        rw [rok_bad R k (by rw [HH.out.2]; exact hlt) (fun hgd => by have h1 := H2.out.1.1; have h2 := H2.out.1.2; unfold rgood at hgd; rw [← h1, ← h2] at hgd; omega)]
        exact ⟨rfl, H2.out.2.2.2⟩
      have d3 : decide (y < x) = false := decide_eq_false h3
      by_cases h2 : 4611686018427387903 < y
      · go_wp2
        go_ret
        rw [rok_bad R k (by rw [HH.out.2]; exact hlt) (fun hgd => by have h1 := H2.out.1.1; have h2 := H2.out.1.2; unfold rgood at hgd; rw [← h1, ← h2] at hgd; omega)]
        exact ⟨rfl, H2.out.2.2.2⟩
      have d2 : decide (4611686018427387903 < y) = false := decide_eq_false h2
      cases k with
      | zero =>
        simp only [Nat.zero_mul, Nat.add_zero] at c0 c1
        have d4 : decide ((0 : Int) < 0) = false := rfl
        go_wp2_with fail
        go_quiet (fail)
        go_wp2
        go_roundg (m - (0 + 1))
        case measure => omega
        case rel =>
          refine ⟨0 + 1, by omega, rfl, by go_num, below_drewN H2.out.2.2.2 _, fun j hj => ?_⟩
          by_cases hjk : j = 0
          · subst hjk
            refine ⟨?_, ?_, ?_, ?_⟩
            · rw [← H2.out.1.1]; omega
            · rw [← H2.out.1.1, ← H2.out.1.2]; omega
            · rw [← H2.out.1.2]; omega
            · intro hz; omega
          · exact H2.out.2.2.1 j (by omega)
      | succ k =>
        have ek : ((k + 1 : Nat) : Int) = (k : Int) + 1 := by simp
        rw [ek]
        obtain ⟨z, ez⟩ : ∃ z, z = rhi R k := ⟨_, rfl⟩
        have gk := H2.out.2.2.1 k (by omega)
        have hz1 : z ≤ 4611686018427387903 := by rw [ez]; exact gk.2.2.1
        have hz0 : 0 ≤ z := by rw [ez]; exact Int.le_trans gk.1 gk.2.1
        have c3 := (H2.out.2.2.2.cell (p := ⟨b, off + k * 2 + 1, none⟩) hbl).trans (HH.out.1 k (by omega)).2
        rw [← ez] at c3
        have hw : IntKind.i64.wrap (z + 1) = z + 1 := by rw [IntKind.wrap_i64]; omega
        have EZ : Hid _ := And.intro ez (And.intro hz0 hz1)
        clear ez gk
        by_cases h4 : x ≤ z + 1
        · go_wp2_with fail
          go_quiet (fail)
          go_wp2
          go_ret
          rw [rok_bad R (k + 1) (by rw [HH.out.2]; exact hlt) (fun hgd => by have h1 := H2.out.1.1; have h5 := EZ.out.1; have h6 := hgd.2.2.2 (by omega); rw [Nat.add_sub_cancel] at h6; rw [← h1, ← h5] at h6; omega)]
          exact ⟨rfl, below_drewN H2.out.2.2.2 _⟩
        have d4 : decide (x ≤ z + 1) = false := decide_eq_false h4
        go_wp2_with fail
        go_quiet (fail)
        go_wp2
        go_roundg (m - ((k + 1) + 1))
        case measure => omega
        case rel =>
          refine ⟨(k + 1) + 1, by omega, rfl, by go_num, below_drewN H2.out.2.2.2 _, fun j hj => ?_⟩
          by_cases hjk : j = (k + 1)
          · subst hjk
            refine ⟨?_, ?_, ?_, ?_⟩
            · rw [← H2.out.1.1]; omega
            · rw [← H2.out.1.1, ← H2.out.1.2]; omega
            · rw [← H2.out.1.2]; omega
            · intro _; rw [Nat.add_sub_cancel, ← H2.out.1.1]; have h5 := EZ.out.1; rw [← h5]; omega
          · exact H2.out.2.2.1 j (by omega)
    · have H2 : Hid _ := And.intro bw hg
      clear bw hg
      go_wp2
      go_ret
      rw [rok_all R (by rw [HH.out.2]; exact hm) (fun j hj => H2.out.2 j (by have := HH.out.2; omega))]
      exact ⟨rfl, H2.out.1⟩
theorem rokS (v : Value) (R : List (Int × Int)) (w : World) (h : RRow w v R) (hR : R.length ≤ 9223372036854775807) : Calls Try.prog 22 #[v] w fun e w' => e = .returned (.bool (rokV R)) ∧ Below w.heap.size w w' := by
  by_cases h6 : R.length ≤ 64
  · by_cases h0 : 0 < R.length
    · obtain ⟨b, off, cp, rfl, hbl, hc⟩ := h.at' h0
      exact rokS_core R _ b off cp w rfl h6 hbl hc
    · obtain rfl : R = [] := List.eq_nil_of_length_eq_zero (by omega)
      obtain ⟨ao, cp, rfl⟩ := h.form
      rw [rok_all [] (by simp) (fun j hj => by simp at hj)]
      exact rokS_nil ao cp w
  · obtain ⟨ao, cp, rfl⟩ := h.form
    rw [rok_long R (by omega)]
    exact rokS_long ao _ cp w (by omega) hR
theorem rokI (v : Value) (R : List (Int × Int)) (w : World) (h : RRow w v R) (hR : R.length ≤ 9223372036854775807) : Calls Try.prog 56 #[v] w fun e w' => e = .returned (.bool (rokV R)) ∧ Below w.heap.size w w' := by
  by_cases h6 : R.length ≤ 64
  · by_cases h0 : 0 < R.length
    · obtain ⟨b, off, cp, rfl, hbl, hc⟩ := h.at' h0
      exact rokI_core R _ b off cp w rfl h6 hbl hc
    · obtain rfl : R = [] := List.eq_nil_of_length_eq_zero (by omega)
      obtain ⟨ao, cp, rfl⟩ := h.form
      rw [rok_all [] (by simp) (fun j hj => by simp at hj)]
      exact rokI_nil ao cp w
  · obtain ⟨ao, cp, rfl⟩ := h.form
    rw [rok_long R (by omega)]
    exact rokI_long ao _ cp w (by omega) hR
end Go.Proofs.Ytaodcahkkeobdaa
