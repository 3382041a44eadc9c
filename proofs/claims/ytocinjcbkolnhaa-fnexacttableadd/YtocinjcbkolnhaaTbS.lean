import Derived.Test.YtocinjcbkolnhaaTbA
namespace Go.Proofs.Ytocinjcbkolnhaa
open Go.RowKit
set_option linter.unusedVariables false

def tC (mo ca ad : Int) (s : Value) : Array Value := #[.int .i64 mo, .int .i64 ca, .int .i64 ad, s]
set_option maxHeartbeats 4000000 in
theorem tokS_bad (mo ca ad : Int) (ao : Option Addr) (n cp : Nat) (w : World) (hn : n ≤ 1048576) (h : ¬ (0 ≤ mo ∧ mo ≤ 4096 ∧ 0 ≤ ca ∧ ca ≤ mo ∧ (n : Int) ≤ ad ∧ ad ≤ 4611686018427387902 ∧ n ≤ 4096)) :
    Calls Try.prog 14 #[.agg #[.int .i64 mo, .int .i64 ca, .int .i64 ad, .slice ao n cp]] w fun e w' => e = .returned (.bool false) ∧ Below w.heap.size w w' := by
  have h' : mo < 0 ∨ (0 ≤ mo ∧ 4096 < mo) ∨ (0 ≤ mo ∧ mo ≤ 4096 ∧ ca < 0) ∨ (0 ≤ mo ∧ mo ≤ 4096 ∧ 0 ≤ ca ∧ mo < ca) ∨ (0 ≤ mo ∧ mo ≤ 4096 ∧ 0 ≤ ca ∧ ca ≤ mo ∧ ad < n) ∨ (0 ≤ mo ∧ mo ≤ 4096 ∧ 0 ≤ ca ∧ ca ≤ mo ∧ (n : Int) ≤ ad ∧ 4611686018427387902 < ad) ∨ (0 ≤ mo ∧ mo ≤ 4096 ∧ 0 ≤ ca ∧ ca ≤ mo ∧ (n : Int) ≤ ad ∧ ad ≤ 4611686018427387902 ∧ 4096 < n) := by omega
  clear h
  rcases h' with h1 | ⟨h1, h2⟩ | ⟨h1, h2, h3⟩ | ⟨h1, h2, h3, h4⟩ | ⟨h1, h2, h3, h4, h5⟩ | ⟨h1, h2, h3, h4, h5, h6⟩ | ⟨h1, h2, h3, h4, h5, h6, h7⟩
  all_goals
    go_enter Try.func14, Try.ntmps14
    go_wp2
    go_ret
    exact ⟨rfl, (Below.refl _ _).alloc (Nat.le_refl _) _⟩
theorem tb_cells {w w1 : World} {mo ca ad : Int} {s : Value} {t : TypeId} (hb : Below (w.heap.size + 1) (w.alloc (.cells #[.int .i64 mo, .int .i64 ca, .int .i64 ad, s] t)) w1) :
    w1.cell? ⟨w.heap.size, 0, none⟩ = some (.int .i64 mo) ∧ w1.cell? ⟨w.heap.size, 1, none⟩ = some (.int .i64 ca) ∧ w1.cell? ⟨w.heap.size, 2, none⟩ = some (.int .i64 ad) ∧ w1.cell? ⟨w.heap.size, 3, none⟩ = some s := by
  have k := (hb.block w.heap.size (by omega)).trans (MapKept.heap_alloc w (.cells #[.int .i64 mo, .int .i64 ca, .int .i64 ad, s] t)).1
  simp only [World.cell?, k]
  exact ⟨rfl, rfl, rfl, rfl⟩
theorem tb_below {w w1 : World} {o : Obj} (hb : Below (w.heap.size + 1) (w.alloc o) w1) : Below w.heap.size w w1 :=
  ((Below.refl _ _).alloc (Nat.le_refl _) o).trans (hb.mono (by omega))
set_option maxHeartbeats 2000000 in
theorem tokS_ok (mo ca ad : Int) (ao : Option Addr) (n cp : Nat) (L : List SField) (w : World) (en : L.length = n) (hn : n ≤ 4096) (ht : txs L ≤ 1048576) (h1 : 0 ≤ mo) (h2 : mo ≤ 4096) (h3 : 0 ≤ ca) (h4 : ca ≤ mo) (h5 : (n : Int) ≤ ad) (h6 : ad ≤ 4611686018427387902)
    (hr : GRow 2 w (.slice ao n cp) (SField.L L)) :
    Calls Try.prog 14 #[.agg #[.int .i64 mo, .int .i64 ca, .int .i64 ad, .slice ao n cp]] w fun e w' => e = .returned (.bool (fsOK L && decide (csts L ≤ ca))) ∧ Below w.heap.size w w' := by
  obtain ⟨N, eN⟩ : ∃ N, N = (fsOK L && decide (csts L ≤ ca)) := ⟨_, rfl⟩
  rw [← eN]
  have HH : Hid _ := And.intro hr (And.intro en (And.intro ht eN))
  clear hr en ht eN
  go_enter Try.func14, Try.ntmps14
  go_wp2
  go_loopw [3] (fun i wr => ∃ k : Nat, k ≤ n ∧ i = .int .i64 (k : Int) ∧ fsOK (L.take k) = true ∧ Below (w.heap.size + 1) (w.alloc (.cells #[.int .i64 mo, .int .i64 ca, .int .i64 ad, .slice ao n cp] 31)) wr) (fun i _ => n - (intOf i).toNat)
  case atStart => exact ⟨0, by omega, rfl, by simp [fsOK], Below.refl _ _⟩
  case round =>
    obtain ⟨k, hk, rfl, hA, bw⟩ := hrel
    obtain ⟨d0, d1, d2, d3⟩ := tb_cells bw
    have B := tb_below bw
    by_cases hlt : k < n
    · have hkL : k < L.length := by rw [HH.out.2.1]; exact hlt
      have hsu := fsOK_succ L k hkL
      have hno := fsOK_no L k hkL
      have hta := txs_at L k hkL
      obtain ⟨b, off, cap, ev, hb, hc⟩ := frow_at (HH.out.1.below B) (by omega)
      rw [HH.out.2.1] at ev
      simp only [Value.slice.injEq] at ev
      obtain ⟨rfl, em2, rfl⟩ := ev
      clear em2
      obtain ⟨c0, c1⟩ := row_field hc k hkL
      have CC := fieldS (L.getD k default).f0 (L.getD k default).f1 wr (by have := HH.out.2.2.1; omega) (by have := HH.out.2.2.1; omega)
      obtain ⟨F, eF⟩ : ∃ F, F = L.getD k default := ⟨_, rfl⟩
      rw [← eF] at hsu hno c0 c1 CC
      obtain ⟨a, c⟩ := F
      simp only at c0 c1 CC hsu hno
      obtain ⟨C, eC⟩ : ∃ C, C = fOK a c := ⟨_, rfl⟩
      rw [← eC] at hsu hno CC
      rw [hA, Bool.true_and] at hsu
      have H1 : Hid _ := And.intro bw (And.intro CC (And.intro hsu hno))
      clear hsu hno hta bw CC eF eC hc hA B
      cases C
      · have hF0 : N = false := by rw [HH.out.2.2.2, H1.out.2.2.2 rfl]; rfl
        have HF : Hid (N = false) := hF0
        clear hF0
        go_wp2_with (go_at_call 15; refine H1.out.2.1.mono ?_; rintro e w2 ⟨rfl, b2⟩; have H2 : Hid _ := And.intro (tb_below (H1.out.1.trans (b2.mono (by have := H1.out.1.size; simpa using this)))) True.intro; clear b2)
        go_ret
        exact ⟨by rw [HF.out]; rfl, H2.out.1⟩
      · go_wp2_with (go_at_call 15; refine H1.out.2.1.mono ?_; rintro e w2 ⟨rfl, b2⟩; have H2 : Hid _ := And.intro (H1.out.1.trans (b2.mono (by have := H1.out.1.size; simpa using this))) True.intro; clear b2)
        go_roundw
        case rel => exact ⟨k + 1, by omega, by go_num, H1.out.2.2.1, H2.out.1⟩
        case measure => simp [intOf]; omega
    · obtain rfl : k = n := by omega
      have e1 : L.take k = L := List.take_of_length_le (by rw [HH.out.2.1]; exact Nat.le_refl _)
      rw [e1] at hA
      have CC := costsS (.slice ao k cp) L wr.drew (HH.out.1.below (below_drewN B 1)) (by rw [HH.out.2.1]; omega) HH.out.2.2.1
      have hN : N = decide (csts L ≤ ca) := by rw [HH.out.2.2.2, hA, Bool.true_and]
      obtain ⟨C, eC⟩ : ∃ C, C = csts L := ⟨_, rfl⟩
      rw [← eC] at CC hN
      have e0 : wr.drew.cell? ⟨w.heap.size, 1, none⟩ = some (.int .i64 ca) := d1
      have e3 : wr.drew.cell? ⟨w.heap.size, 3, none⟩ = some (.slice ao k cp) := d3
      have H1 : Hid _ := And.intro CC (And.intro hN (And.intro bw B))
      clear bw e1 hA CC eC hN B hlt hk
      go_wp2_with fail
      go_region_with (go_at_call 25; refine H1.out.1.mono ?_; rintro e wz ⟨rfl, bz⟩; have H2 : Hid _ := And.intro (H1.out.2.2.2.trans ((below_drewN (Below.refl _ _) 1).trans (bz.mono (Nat.le_refl _)) |>.mono H1.out.2.2.2.size)) True.intro; have e1 : wz.cell? ⟨w.heap.size, 1, none⟩ = some (.int .i64 ca) := (bz.cell (p := ⟨w.heap.size, 1, none⟩) (by have := H1.out.2.2.1.size; simp at this; exact this)).trans e0; clear bz)
      all_goals
        go_wp2
        go_ret
        exact ⟨by rw [H1.out.2.1]; rfl, H2.out.1⟩
theorem tokS (t : TB) (v : Value) (w : World) (hr : GRow 2 w v (SField.L t.es)) (hn : t.es.length ≤ 1048576) (ht : txs t.es ≤ 1048576) :
    Calls Try.prog 14 #[.agg #[.int .i64 t.mo, .int .i64 t.ca, .int .i64 t.ad, v]] w fun e w' => e = .returned (.bool (tOK t)) ∧ Below w.heap.size w w' := by
  obtain ⟨ao, cp, rfl⟩ := frow_form hr
  by_cases h : t.nums
  · by_cases h40 : t.es.length ≤ 4096
    · have e : tOK t = (fsOK t.es && decide (csts t.es ≤ t.ca)) := by simp [tOK, h]
      rw [e]
      obtain ⟨a1, a2, a3, a4, a5, a6⟩ := h
      exact tokS_ok _ _ _ ao _ cp t.es w rfl h40 ht a1 a2 a3 a4 a5 a6 hr
    · have e : tOK t = false := by
        have h1 := csts_nn t.es
        obtain ⟨a1, a2, a3, a4, a5, a6⟩ := h
        have : ¬ csts t.es ≤ t.ca := by omega
        simp [tOK, this]
      rw [e]
      exact tokS_bad _ _ _ ao _ cp w hn (by omega)
  · have e : tOK t = false := by simp [tOK, h]
    rw [e]
    exact tokS_bad _ _ _ ao _ cp w hn (by unfold TB.nums at h; omega)
end Go.Proofs.Ytocinjcbkolnhaa
