import Derived.Test.YtocinjcbkolnhaaTbS
namespace Go.Proofs.Ytocinjcbkolnhaa
open Go.RowKit
set_option linter.unusedVariables false

set_option maxHeartbeats 4000000 in
theorem tokI_bad (mo ca ad : Int) (ao : Option Addr) (n cp : Nat) (w : World) (hn : n ≤ 1048576) (h : ¬ (0 ≤ mo ∧ mo ≤ 4096 ∧ 0 ≤ ca ∧ ca ≤ mo ∧ (n : Int) ≤ ad ∧ ad ≤ 4611686018427387902)) :
    Calls Try.prog 26 #[.agg #[.int .i64 mo, .int .i64 ca, .int .i64 ad, .slice ao n cp]] w fun e w' => e = .returned (.bool false) ∧ Below w.heap.size w w' := by
  have h' : mo < 0 ∨ (0 ≤ mo ∧ 4096 < mo) ∨ (0 ≤ mo ∧ mo ≤ 4096 ∧ ca < 0) ∨ (0 ≤ mo ∧ mo ≤ 4096 ∧ 0 ≤ ca ∧ mo < ca) ∨ (0 ≤ mo ∧ mo ≤ 4096 ∧ 0 ≤ ca ∧ ca ≤ mo ∧ ad < n) ∨ (0 ≤ mo ∧ mo ≤ 4096 ∧ 0 ≤ ca ∧ ca ≤ mo ∧ (n : Int) ≤ ad ∧ 4611686018427387903 ≤ ad) := by omega
  clear h
  rcases h' with h1 | ⟨h1, h2⟩ | ⟨h1, h2, h3⟩ | ⟨h1, h2, h3, h4⟩ | ⟨h1, h2, h3, h4, h5⟩ | ⟨h1, h2, h3, h4, h5, h6⟩
  all_goals
    go_enter Try.func26, Try.ntmps26
    go_wp2
    go_ret
    exact ⟨rfl, (Below.refl _ _).alloc (Nat.le_refl _) _⟩
theorem fd_cells {w w1 : World} {a c : ByteArray} {t : TypeId} (hb : Below (w.heap.size + 1) (w.alloc (.cells #[.string a, .string c] t)) w1) :
    w1.cell? ⟨w.heap.size, 0, none⟩ = some (.string a) ∧ w1.cell? ⟨w.heap.size, 1, none⟩ = some (.string c) := by
  have k := (hb.block w.heap.size (by omega)).trans (MapKept.heap_alloc w (.cells #[.string a, .string c] t)).1
  simp only [World.cell?, k]
  exact ⟨rfl, rfl⟩
set_option maxHeartbeats 2000000 in
theorem tokI_ok (mo ca ad : Int) (ao : Option Addr) (n cp : Nat) (L : List SField) (w : World) (en : L.length = n) (hn : n ≤ 1048576) (ht : txs L ≤ 1048576) (h1 : 0 ≤ mo) (h2 : mo ≤ 4096) (h3 : 0 ≤ ca) (h4 : ca ≤ mo) (h5 : (n : Int) ≤ ad) (h6 : ad ≤ 4611686018427387902)
    (hr : GRow 2 w (.slice ao n cp) (SField.L L)) :
    Calls Try.prog 26 #[.agg #[.int .i64 mo, .int .i64 ca, .int .i64 ad, .slice ao n cp]] w fun e w' => e = .returned (.bool (fsOK L && decide (csts L ≤ ca))) ∧ Below w.heap.size w w' := by
  obtain ⟨N, eN⟩ : ∃ N, N = (fsOK L && decide (csts L ≤ ca)) := ⟨_, rfl⟩
  rw [← eN]
  have h7 : ad < 4611686018427387903 := by omega
  have HH : Hid _ := And.intro hr (And.intro en (And.intro ht eN))
  clear hr en ht eN
  go_enter Try.func26, Try.ntmps26
  go_wp2
  go_loopw [44, 3] (fun i l wr => ∃ k : Nat, k ≤ n ∧ i = .int .i64 (k : Int) ∧ l = .int .i64 (ca - csts (L.take k)) ∧ csts (L.take k) ≤ ca ∧ fsOK (L.take k) = true ∧ Below (w.heap.size + 1) (w.alloc (.cells #[.int .i64 mo, .int .i64 ca, .int .i64 ad, .slice ao n cp] 31)) wr) (fun i _ _ => n - (intOf i).toNat)
  case atStart => exact ⟨0, by omega, rfl, by simp [csts], by simpa [csts] using h3, by simp [fsOK], Below.refl _ _⟩
  case round =>
    obtain ⟨k, hk, rfl, rfl, hS, hA, bw⟩ := hrel
    have B := tb_below bw
    by_cases hlt : k < n
    · have hkL : k < L.length := by rw [HH.out.2.1]; exact hlt
      have hsu := fsOK_succ L k hkL
      have hsc := csts_succ L k hkL
      have hno := fsOK_no L k hkL
      have hle := csts_take L (k + 1)
      have hta := txs_at L k hkL
      have hlo := cst_lo (L.getD k default)
      have hnn := csts_nn (L.take k)
      obtain ⟨b, off, cap, ev, hb, hc⟩ := frow_at (HH.out.1.below B) (by omega)
      rw [HH.out.2.1] at ev
      simp only [Value.slice.injEq] at ev
      obtain ⟨rfl, em2, rfl⟩ := ev
      clear em2
      obtain ⟨c0, c1⟩ := row_field hc k hkL
      have hbd : ((L.getD k default).f0.size : Int) + (L.getD k default).f1.size ≤ 1048576 := by have := HH.out.2.2.1; omega
      have CV : ∀ u, _ := fun u => fieldI (L.getD k default).f0 (L.getD k default).f1 u (by omega) (by omega)
      have CC : ∀ u, _ := fun u => costI (L.getD k default) u hbd
      have hch : cst (L.getD k default) ≤ 2000000 := by unfold cst; omega
      obtain ⟨F, eF⟩ : ∃ F, F = L.getD k default := ⟨_, rfl⟩
      rw [← eF] at hsu hno c0 c1 CC CV hsc hlo hch
      obtain ⟨a, c⟩ := F
      simp only at c0 c1 CC CV hsu hno
      obtain ⟨C, eC⟩ : ∃ C, C = fOK a c := ⟨_, rfl⟩
      obtain ⟨D, eD⟩ : ∃ D, D = cst ⟨a, c⟩ := ⟨_, rfl⟩
      obtain ⟨S, eS⟩ : ∃ S, S = csts (L.take k) := ⟨_, rfl⟩
      rw [← eC] at hsu hno CV
      rw [← eD] at CC hsc hlo hch
      rw [← eS] at hsc hS hnn ⊢
      rw [hA, Bool.true_and] at hsu
      have s0 : 0 ≤ S := by omega
      have KK : Hid (∀ w2 : World, Below (wr.heap.size + 1) (wr.alloc (.cells #[.string a, .string c] 35)) w2 → Below (w.heap.size + 1) (w.alloc (.cells #[.int .i64 mo, .int .i64 ca, .int .i64 ad, .slice (some ⟨b, off, none⟩) n cp] 31)) w2 ∧ w2.cell? ⟨wr.heap.size, 0, none⟩ = some (.string a) ∧ w2.cell? ⟨wr.heap.size, 1, none⟩ = some (.string c)) := fun w2 h => ⟨bw.trans ((tb_below h).mono (by have := bw.size; simpa using this)), (fd_cells h).1, (fd_cells h).2⟩
      have H1 : Hid _ := And.intro bw (And.intro CV (And.intro CC (And.intro hsu (And.intro hno (And.intro hsc (And.intro hle trivial))))))
      clear hsu hno hta bw CC CV eF eC eD eS hc hA B hsc hle hbd
      have hd1 : -9223372036854775808 ≤ ca - S - D := by omega
      by_cases hneg : ca - S - D < 0
      · have hF0 : N = false := by
          have : ¬ csts L ≤ ca := by have := H1.out.2.2.2.2.2.1; have := H1.out.2.2.2.2.2.2.1; omega
          rw [HH.out.2.2.2, decide_eq_false this, Bool.and_false]
        have HF : Hid (N = false) := hF0
        clear hF0
        go_wp2_with (go_at_call 31; refine (H1.out.2.2.1 _).mono ?_; rintro e w2 ⟨rfl, b2⟩; obtain ⟨q1, q2, q3⟩ := KK.out w2 (by simpa using b2); have H2 : Hid _ := And.intro (tb_below q1) True.intro; clear b2 q1)
        go_ret
        exact ⟨by rw [HF.out]; rfl, H2.out.1⟩
      · have hneg' : decide (ca - S - D < 0) = false := decide_eq_false hneg
        cases C
        · have hF0 : N = false := by rw [HH.out.2.2.2, H1.out.2.2.2.2.1 rfl]; rfl
          have HF : Hid (N = false) := hF0
          clear hF0
          go_wp2_with (first
            | (go_at_call 31; refine (H1.out.2.2.1 _).mono ?_; rintro e w2 ⟨rfl, b2⟩; obtain ⟨q1, q2, q3⟩ := KK.out w2 (by simpa using b2); have H2 : Hid _ := And.intro q1 True.intro; clear b2 q1)
            | (go_at_call 29; refine (H1.out.2.1 _).mono ?_; rintro e w3 ⟨rfl, b3⟩; have H3 : Hid _ := And.intro (tb_below (H2.out.1.trans (b3.mono (by have := H2.out.1.size; simpa using this)))) True.intro; clear b3))
          go_ret
          exact ⟨by rw [HF.out]; rfl, H3.out.1⟩
        · go_wp2_with (first
            | (go_at_call 31; refine (H1.out.2.2.1 _).mono ?_; rintro e w2 ⟨rfl, b2⟩; obtain ⟨q1, q2, q3⟩ := KK.out w2 (by simpa using b2); have H2 : Hid _ := And.intro q1 True.intro; clear b2 q1)
            | (go_at_call 29; refine (H1.out.2.1 _).mono ?_; rintro e w3 ⟨rfl, b3⟩; have H3 : Hid _ := And.intro (H2.out.1.trans (b3.mono (by have := H2.out.1.size; simpa using this))) True.intro; clear b3))
          go_roundw
          case rel => exact ⟨k + 1, by omega, by go_num, by rw [H1.out.2.2.2.2.2.1]; congr 1; omega, by rw [H1.out.2.2.2.2.2.1]; omega, H1.out.2.2.2.1, H3.out.1⟩
          case measure => simp [intOf]; omega
    · obtain rfl : k = n := by omega
      have e1 : L.take k = L := List.take_of_length_le (by rw [HH.out.2.1]; exact Nat.le_refl _)
      rw [e1] at hA hS
      have hF0 : N = true := by rw [HH.out.2.2.2, hA, decide_eq_true hS]; rfl
      have HF : Hid (N = true) := hF0
      have H1 : Hid _ := And.intro B True.intro
      clear bw e1 hA B hlt hk hF0
      go_wp2
      go_ret
      exact ⟨by rw [HF.out]; rfl, H1.out.1⟩
theorem tokI (t : TB) (v : Value) (w : World) (hr : GRow 2 w v (SField.L t.es)) (hn : t.es.length ≤ 1048576) (ht : txs t.es ≤ 1048576) :
    Calls Try.prog 26 #[.agg #[.int .i64 t.mo, .int .i64 t.ca, .int .i64 t.ad, v]] w fun e w' => e = .returned (.bool (tOK t)) ∧ Below w.heap.size w w' := by
  obtain ⟨ao, cp, rfl⟩ := frow_form hr
  by_cases h : t.nums
  · have e : tOK t = (fsOK t.es && decide (csts t.es ≤ t.ca)) := by simp [tOK, h]
    rw [e]
    obtain ⟨a1, a2, a3, a4, a5, a6⟩ := h
    exact tokI_ok _ _ _ ao _ cp t.es w rfl hn ht a1 a2 a3 a4 a5 a6 hr
  · have e : tOK t = false := by simp [tOK, h]
    rw [e]
    exact tokI_bad _ _ _ ao _ cp w hn (by unfold TB.nums at h; omega)
end Go.Proofs.Ytocinjcbkolnhaa
