import Derived.Test.YtdjflbanbhhniaaDoorTbA
namespace Go.Proofs.YtdjflbanbhhniaaDoor
open Go.RowKit
set_option linter.unusedVariables false

theorem szFld (a c : ByteArray) (l r : Int) (w : World) (h0 : 0 ≤ l) (h1 : l ≤ 1048576) (ha : a.size ≤ 9223372036854775807) (hc : c.size ≤ 9223372036854775807) (hr : r = if (a.size : Int) + c.size ≤ l then l - (a.size + c.size) else -1) :
    Calls Tryd.prog 24 #[.agg #[.string a, .string c], .int .i64 l] w fun e w' => e = .returned (.int .i64 r) ∧ Below w.heap.size w w' := by
  by_cases g : (a.size : Int) + c.size ≤ l
  · rw [if_pos g] at hr
    have g1 : 0 ≤ l - (a.size : Int) := by omega
    have g2 : 0 ≤ l - (a.size : Int) - (c.size : Int) := by omega
    have e : r = l - (a.size : Int) - (c.size : Int) := by omega
    rw [e]
    clear g hr e
    go_enter Tryd.func24, Tryd.ntmps24
    go_wp2
    go_ret
    exact ⟨rfl, (Below.refl _ _).alloc (Nat.le_refl _) _⟩
  · rw [if_neg g] at hr
    subst hr
    by_cases g1 : l - (a.size : Int) < 0
    · clear g
      go_enter Tryd.func24, Tryd.ntmps24
      go_wp2
      go_ret
      exact ⟨rfl, (Below.refl _ _).alloc (Nat.le_refl _) _⟩
    · have g2 : l - (a.size : Int) - (c.size : Int) < 0 := by omega
      have g3 : 0 ≤ l - (a.size : Int) := by omega
      clear g g1
      go_enter Tryd.func24, Tryd.ntmps24
      go_wp2
      go_ret
      exact ⟨rfl, (Below.refl _ _).alloc (Nat.le_refl _) _⟩
/-- All texts are of sizes that a program of 64 bits can hold. -/
def fin (L : List SField) : Prop := ∀ j, j < L.length → (L.getD j default).f0.size ≤ 9223372036854775807 ∧ (L.getD j default).f1.size ≤ 9223372036854775807
set_option maxHeartbeats 1000000 in
theorem szFldS_core (b off n cap : Nat) (L : List SField) (l r : Int) (w : World) (en : L.length = n) (h0 : 0 ≤ l) (h1 : l ≤ 1048576) (hf : fin L) (hn : (n : Int) ≤ l) (hb : b < w.heap.size) (hc : ∀ j, j < n → ∀ f, f < 2 → w.cell? ⟨b, off + (j * 2 + f), none⟩ = (L.getD j default).c[f]?)
    (hr : r = if (n : Int) + txs L ≤ l then l - (n + txs L) else -1) :
    Calls Tryd.prog 14 #[.slice (some ⟨b, off, none⟩) n cap, .int .i64 l] w fun e w' => e = .returned (.int .i64 r) ∧ Below w.heap.size w w' := by
  have HH : Hid _ := And.intro hc (And.intro en (And.intro hf hr))
  have hn2 : n ≤ 1048576 := by omega
  have hd0 : 0 ≤ l - (n : Int) := by omega
  clear hc en hf hr
  go_enter Tryd.func14, Tryd.ntmps14
  go_wp2
  go_loopw [1, 5] (fun s i wr => ∃ k : Nat, k ≤ n ∧ i = .int .i64 (k : Int) ∧ s = .int .i64 (l - n - txs (L.take k)) ∧ (n : Int) + txs (L.take k) ≤ l ∧ Below w.heap.size w wr) (fun _ i _ => n - (intOf i).toNat)
  case atStart => exact ⟨0, by omega, rfl, by simp [txs], by simpa [txs] using hn, Below.refl _ _⟩
  case round =>
    obtain ⟨k, hk, rfl, rfl, hS, bw⟩ := hrel
    by_cases hlt : k < n
    · have hkL : k < L.length := by rw [HH.out.2.1]; exact hlt
      have hsu := txs_succ L k hkL
      have hle := txs_take L (k + 1)
      have h0' := txs_nn (L.take k)
      have hfk := HH.out.2.2.1 k hkL
      obtain ⟨c0, c1⟩ := row_field HH.out.1 k hlt
      have c0' := (bw.cell (p := ⟨b, off + k * 2, none⟩) hb).trans c0
      have c1' := (bw.cell (p := ⟨b, off + k * 2 + 1, none⟩) hb).trans c1
      obtain ⟨F, eF⟩ : ∃ F, F = L.getD k default := ⟨_, rfl⟩
      obtain ⟨S, eS⟩ : ∃ S, S = txs (L.take k) := ⟨_, rfl⟩
      rw [← eF] at hsu c0' c1' hfk
      rw [← eS] at hsu h0' hS ⊢
      obtain ⟨a, c⟩ := F
      simp only at c0' c1' hfk hsu
      have CC := szFld a c (l - n - S) _ wr (by omega) (by omega) hfk.1 hfk.2 rfl
      by_cases g : (a.size : Int) + c.size ≤ l - n - S
      · rw [if_pos g] at CC
        obtain ⟨V, eV⟩ : ∃ V, V = l - n - S - ((a.size : Int) + c.size) := ⟨_, rfl⟩
        rw [← eV] at CC
        have v0 : 0 ≤ V := by omega
        have H1 : Hid _ := And.intro bw (And.intro CC (And.intro hsu eV))
        clear c0 c1 hsu hle bw CC eF eS hkL hfk eV
        go_wp2_with (go_at_call 24; refine H1.out.2.1.mono ?_; rintro e w2 ⟨rfl, b2⟩; have H2 : Hid _ := And.intro (H1.out.1.trans (b2.mono H1.out.1.size)) True.intro; clear b2)
        go_roundw
        case rel => exact ⟨k + 1, by omega, by go_num, by have := H1.out.2.2.1; have := H1.out.2.2.2; congr 1; omega, by have := H1.out.2.2.1; omega, H2.out.1⟩
        case measure => simp [intOf]; omega
      · rw [if_neg g] at CC
        have hR : r = -1 := by
          rw [HH.out.2.2.2, if_neg]
          omega
        have H1 : Hid _ := And.intro bw (And.intro CC hR)
        clear c0 c1 hsu hle bw CC eF eS hkL hfk hR g
        go_wp2_with (go_at_call 24; refine H1.out.2.1.mono ?_; rintro e w2 ⟨rfl, b2⟩; have H2 : Hid _ := And.intro (H1.out.1.trans (b2.mono H1.out.1.size)) True.intro; clear b2)
        go_ret
        exact ⟨by rw [H1.out.2.2]; rfl, H2.out.1⟩
    · obtain rfl : k = n := by omega
      have e1 : L.take k = L := List.take_of_length_le (by rw [HH.out.2.1]; exact Nat.le_refl _)
      rw [e1] at hS ⊢
      have hR : r = l - k - txs L := by rw [HH.out.2.2.2, if_pos hS]; omega
      have H1 : Hid _ := And.intro bw hR
      obtain ⟨T, eT⟩ : ∃ T, T = txs L := ⟨_, rfl⟩
      have ET : Hid (T = txs L) := eT
      rw [← eT] at hS ⊢
      clear bw e1 hR eT
      go_wp2
      go_ret
      exact ⟨by rw [H1.out.2, ← ET.out]; rfl, H1.out.1⟩
theorem szFldS_nil (ao : Option Addr) (cap : Nat) (l : Int) (w : World) (h0 : 0 ≤ l) (h1 : l ≤ 1048576) :
    Calls Tryd.prog 14 #[.slice ao 0 cap, .int .i64 l] w fun e w' => e = .returned (.int .i64 l) ∧ Below w.heap.size w w' := by
  go_enter Tryd.func14, Tryd.ntmps14
  go_wp2
  refine wp_loop_rounds 1 ?_
  rw [rounds_succ]
  go_wp2
  go_ret
  exact ⟨by simp, Below.refl _ _⟩
theorem szFldS_over (ao : Option Addr) (n cap : Nat) (l : Int) (w : World) (h0 : 0 ≤ l) (h1 : l ≤ 1048576) (hm : n ≤ 9223372036854775807) (hn : l < (n : Int)) :
    Calls Tryd.prog 14 #[.slice ao n cap, .int .i64 l] w fun e w' => e = .returned (.int .i64 (-1)) ∧ Below w.heap.size w w' := by
  have hd : l - (n : Int) < 0 := by omega
  go_enter Tryd.func14, Tryd.ntmps14
  go_wp2
  go_ret
  exact ⟨rfl, Below.refl _ _⟩
theorem szFldS (v : Value) (L : List SField) (l r : Int) (w : World) (h : GRow 2 w v (SField.L L)) (hm : L.length ≤ 9223372036854775807) (h0 : 0 ≤ l) (h1 : l ≤ 1048576) (hf : fin L) (hr : r = if (L.length : Int) + txs L ≤ l then l - (L.length + txs L) else -1) :
    Calls Tryd.prog 14 #[v, .int .i64 l] w fun e w' => e = .returned (.int .i64 r) ∧ Below w.heap.size w w' := by
  by_cases hn : (L.length : Int) ≤ l
  · by_cases hz : 0 < L.length
    · obtain ⟨b, off, cap, rfl, hb, hc⟩ := frow_at h hz
      exact szFldS_core b off _ cap L l r w rfl h0 h1 hf hn hb hc hr
    · obtain ⟨ao, cap, rfl⟩ := frow_form h
      obtain rfl : L = [] := List.eq_nil_of_length_eq_zero (by omega)
      have e : r = l := by rw [hr]; simp [txs, h0]
      rw [e]
      exact szFldS_nil ao cap l w h0 h1
  · obtain ⟨ao, cap, rfl⟩ := frow_form h
    have e : r = -1 := by rw [hr, if_neg]; have := txs_nn L; omega
    rw [e]
    exact szFldS_over ao _ cap l w h0 h1 hm (by omega)
/-- A table's value; one of one's own. -/
def tV (t : TB) (s : Value) : Value := .agg #[.int .i64 t.mo, .int .i64 t.ca, .int .i64 t.ad, s]
end Go.Proofs.YtdjflbanbhhniaaDoor
