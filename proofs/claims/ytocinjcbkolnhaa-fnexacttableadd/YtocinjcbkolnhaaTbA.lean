import Derived.Test.YtocinjcbkolnhaaFlField
import Derived.Test.YtocinjcbkolnhaaFdS
namespace Go.Proofs.Ytocinjcbkolnhaa
open Go.RowKit
set_option linter.unusedVariables false

/-- What an entry costs, what all do. -/
def cst (f : SField) : Int := 32 + (f.f0.size : Int) + (f.f1.size : Int)
def csts : List SField → Int
  | [] => 0
  | f :: l => cst f + csts l
/-- The bytes of all texts. -/
def txs : List SField → Int
  | [] => 0
  | f :: l => (f.f0.size : Int) + (f.f1.size : Int) + txs l
theorem cst_lo (f : SField) : 32 ≤ cst f := by unfold cst; omega
theorem csts_nn : ∀ L : List SField, 32 * (L.length : Int) ≤ csts L
  | [] => by simp [csts]
  | f :: l => by have := csts_nn l; have := cst_lo f; simp only [csts, List.length_cons]; omega
theorem txs_nn : ∀ L : List SField, 0 ≤ txs L
  | [] => by simp [txs]
  | f :: l => by have := txs_nn l; simp only [txs]; omega
theorem csts_txs : ∀ L : List SField, csts L = 32 * (L.length : Int) + txs L
  | [] => by simp [csts, txs]
  | f :: l => by have := csts_txs l; simp only [csts, txs, cst, List.length_cons]; omega
theorem csts_app : ∀ (L M : List SField), csts (L ++ M) = csts L + csts M
  | [], M => by simp [csts]
  | f :: l, M => by have := csts_app l M; simp only [csts, List.cons_append]; omega
theorem txs_app : ∀ (L M : List SField), txs (L ++ M) = txs L + txs M
  | [], M => by simp [txs]
  | f :: l, M => by have := txs_app l M; simp only [txs, List.cons_append]; omega
theorem take_succ (L : List SField) (k : Nat) (h : k < L.length) : L.take (k + 1) = L.take k ++ [L.getD k default] := by
  rw [List.take_add_one]; simp [List.getD, h]
theorem csts_succ (L : List SField) (k : Nat) (h : k < L.length) : csts (L.take (k + 1)) = csts (L.take k) + cst (L.getD k default) := by
  rw [take_succ L k h, csts_app]; simp [csts]
theorem txs_succ (L : List SField) (k : Nat) (h : k < L.length) : txs (L.take (k + 1)) = txs (L.take k) + ((L.getD k default).f0.size + (L.getD k default).f1.size) := by
  rw [take_succ L k h, txs_app]; simp [txs]
theorem csts_take (L : List SField) (k : Nat) : csts (L.take k) ≤ csts L := by
  have h := csts_app (L.take k) (L.drop k)
  rw [List.take_append_drop] at h
  have := csts_nn (L.drop k)
  omega
theorem txs_take (L : List SField) (k : Nat) : txs (L.take k) ≤ txs L := by
  have h := txs_app (L.take k) (L.drop k)
  rw [List.take_append_drop] at h
  have := txs_nn (L.drop k)
  omega
theorem txs_at (L : List SField) (k : Nat) (h : k < L.length) : ((L.getD k default).f0.size : Int) + (L.getD k default).f1.size ≤ txs L := by
  have h1 := txs_succ L k h
  have h2 := txs_take L (k + 1)
  have h3 := txs_nn (L.take k)
  omega
def fsOK (L : List SField) : Bool := L.all fun f => fOK f.f0 f.f1
theorem fsOK_succ (L : List SField) (k : Nat) (h : k < L.length) : fsOK (L.take (k + 1)) = (fsOK (L.take k) && fOK (L.getD k default).f0 (L.getD k default).f1) := by
  rw [take_succ L k h]; simp [fsOK, List.all_append]
theorem fsOK_no (L : List SField) (k : Nat) (h : k < L.length) (hb : fOK (L.getD k default).f0 (L.getD k default).f1 = false) : fsOK L = false := by
  cases e : fsOK L with
  | false => rfl
  | true =>
    rw [fsOK, List.all_eq_true] at e
    have := e (L.getD k default) (by simp [List.getD, h])
    rw [hb] at this; cases this
/-- A table: Most, Cap, Added, its entries. -/
structure TB where
  mo : Int
  ca : Int
  ad : Int
  es : List SField
def TB.nums (t : TB) : Prop := 0 ≤ t.mo ∧ t.mo ≤ 4096 ∧ 0 ≤ t.ca ∧ t.ca ≤ t.mo ∧ (t.es.length : Int) ≤ t.ad ∧ t.ad ≤ 4611686018427387902
instance (t : TB) : Decidable t.nums := by unfold TB.nums; infer_instance
def tOK (t : TB) : Bool := decide t.nums && fsOK t.es && decide (csts t.es ≤ t.ca)
theorem costI (f : SField) (w : World) (h : (f.f0.size : Int) + f.f1.size ≤ 1048576) : Calls Try.prog 31 #[.agg #[.string f.f0, .string f.f1]] w fun e w' => e = .returned (.int .i64 (cst f)) ∧ Below w.heap.size w w' := by
  unfold cst
  obtain ⟨a, b⟩ := f
  simp only at h ⊢
  have h1 : a.size ≤ 1048576 := by omega
  have h2 : b.size ≤ 1048576 := by omega
  go_enter Try.func31, Try.ntmps31
  go_wp2
  go_ret
  exact ⟨rfl, (Below.refl _ _).alloc (Nat.le_refl _) _⟩
theorem costS (f : SField) (w : World) (h : (f.f0.size : Int) + f.f1.size ≤ 1048576) : Calls Try.prog 16 #[.agg #[.string f.f0, .string f.f1]] w fun e w' => e = .returned (.int .i64 (cst f)) ∧ Below w.heap.size w w' := by
  unfold cst
  obtain ⟨a, b⟩ := f
  simp only at h ⊢
  have h1 : a.size ≤ 1048576 := by omega
  have h2 : b.size ≤ 1048576 := by omega
  go_enter Try.func16, Try.ntmps16
  go_wp2
  go_ret
  exact ⟨rfl, (Below.refl _ _).alloc (Nat.le_refl _) _⟩
/-- The two cells of an entry. -/
theorem row_field {w : World} {b off m : Nat} {L : List SField} (hc : ∀ j, j < m → ∀ f, f < 2 → w.cell? ⟨b, off + (j * 2 + f), none⟩ = (L.getD j default).c[f]?) (k : Nat) (hk : k < m) :
    w.cell? ⟨b, off + k * 2, none⟩ = some (.string (L.getD k default).f0) ∧ w.cell? ⟨b, off + k * 2 + 1, none⟩ = some (.string (L.getD k default).f1) := ⟨hc k hk 0 (by decide), hc k hk 1 (by decide)⟩
theorem frow_at {w : World} {v : Value} {L : List SField} (h : GRow 2 w v (SField.L L)) (h0 : 0 < L.length) : ∃ b off cap, v = .slice (some ⟨b, off, none⟩) L.length cap ∧ b < w.heap.size ∧ ∀ j, j < L.length → ∀ f, f < 2 → w.cell? ⟨b, off + (j * 2 + f), none⟩ = (L.getD j default).c[f]? := by
  obtain ⟨b, off, cap, e, hb, hc⟩ := h.at' (by rw [List.length_map]; exact h0)
  rw [List.length_map] at e hc
  exact ⟨b, off, cap, e, hb, fun j hj f hf => by rw [← SField.at L j hj]; exact hc j hj f hf⟩
theorem frow_form {w : World} {v : Value} {L : List SField} (h : GRow 2 w v (SField.L L)) : ∃ ao cap, v = .slice ao L.length cap := by
  obtain ⟨ao, cap, e⟩ := h.form
  rw [List.length_map] at e
  exact ⟨ao, cap, e⟩
set_option maxHeartbeats 1000000 in
theorem costsS_core (b off n cap : Nat) (L : List SField) (w : World) (en : L.length = n) (hn : n ≤ 1048576) (ht : txs L ≤ 1048576) (hb : b < w.heap.size) (hc : ∀ j, j < n → ∀ f, f < 2 → w.cell? ⟨b, off + (j * 2 + f), none⟩ = (L.getD j default).c[f]?) :
    Calls Try.prog 25 #[.slice (some ⟨b, off, none⟩) n cap] w fun e w' => e = .returned (.int .i64 (csts L)) ∧ Below w.heap.size w w' := by
  have HH : Hid _ := And.intro hc (And.intro en ht)
  have hC : csts L ≤ 1000000000 := by rw [csts_txs]; omega
  clear hc en ht
  go_enter Try.func25, Try.ntmps25
  go_wp2
  go_loopw [3, 4] (fun s i wr => ∃ k : Nat, k ≤ n ∧ i = .int .i64 (k : Int) ∧ s = .int .i64 (csts (L.take k)) ∧ Below w.heap.size w wr) (fun _ i _ => n - (intOf i).toNat)
  case atStart => exact ⟨0, by omega, rfl, by simp [csts], Below.refl _ _⟩
  case round =>
    obtain ⟨k, hk, rfl, rfl, bw⟩ := hrel
    by_cases hlt : k < n
    · have hkL : k < L.length := by rw [HH.out.2.1]; exact hlt
      have hsu := csts_succ L k hkL
      have hle := csts_take L (k + 1)
      have h0 := csts_nn (L.take k)
      have hlo := cst_lo (L.getD k default)
      have hta := txs_at L k hkL
      obtain ⟨c0, c1⟩ := row_field HH.out.1 k hlt
      have c0' := (bw.cell (p := ⟨b, off + k * 2, none⟩) hb).trans c0
      have c1' := (bw.cell (p := ⟨b, off + k * 2 + 1, none⟩) hb).trans c1
      have CC := costS (L.getD k default) wr (by have := HH.out.2.2; omega)
      obtain ⟨F, eF⟩ : ∃ F, F = L.getD k default := ⟨_, rfl⟩
      obtain ⟨S, eS⟩ : ∃ S, S = csts (L.take k) := ⟨_, rfl⟩
      rw [← eF] at hsu c0' c1' CC hlo
      rw [← eS] at hsu h0 ⊢
      obtain ⟨a, c⟩ := F
      simp only at c0' c1' CC
      obtain ⟨C, eC⟩ : ∃ C, C = cst ⟨a, c⟩ := ⟨_, rfl⟩
      rw [← eC] at hsu CC hlo
      have h00 : 0 ≤ S := by omega
      have hSC : S + C ≤ 1000000000 := by omega
      have H1 : Hid _ := And.intro bw (And.intro CC hsu)
      clear c0 c1 hsu hle h0 hta bw CC eF eS eC hkL
      go_wp2_with (go_at_call 16; refine H1.out.2.1.mono ?_; rintro e w2 ⟨rfl, b2⟩; have H2 : Hid _ := And.intro (H1.out.1.trans (b2.mono H1.out.1.size)) True.intro; clear b2)
      go_roundw
      case rel => exact ⟨k + 1, by omega, by go_num, by rw [H1.out.2.2], H2.out.1⟩
      case measure => simp [intOf]; omega
    · obtain rfl : k = n := by omega
      have e1 : L.take k = L := List.take_of_length_le (by rw [HH.out.2.1]; exact Nat.le_refl _)
      rw [e1]
      have H1 : Hid _ := And.intro bw True.intro
      clear bw e1
      go_wp2
      go_ret
      exact ⟨rfl, H1.out.1⟩
theorem costsS_nil (ao : Option Addr) (cap : Nat) (w : World) :
    Calls Try.prog 25 #[.slice ao 0 cap] w fun e w' => e = .returned (.int .i64 0) ∧ Below w.heap.size w w' := by
  go_enter Try.func25, Try.ntmps25
  go_wp2
  refine wp_loop_rounds 1 ?_
  rw [rounds_succ]
  go_wp2
  go_ret
  exact ⟨rfl, Below.refl _ _⟩
theorem costsS (v : Value) (L : List SField) (w : World) (h : GRow 2 w v (SField.L L)) (hn : L.length ≤ 1048576) (ht : txs L ≤ 1048576) :
    Calls Try.prog 25 #[v] w fun e w' => e = .returned (.int .i64 (csts L)) ∧ Below w.heap.size w w' := by
  by_cases h0 : 0 < L.length
  · obtain ⟨b, off, cap, rfl, hb, hc⟩ := frow_at h h0
    exact costsS_core b off _ cap L w rfl hn ht hb hc
  · obtain ⟨ao, cap, rfl⟩ := frow_form h
    obtain rfl : L = [] := List.eq_nil_of_length_eq_zero (by omega)
    exact costsS_nil ao cap w
end Go.Proofs.Ytocinjcbkolnhaa
