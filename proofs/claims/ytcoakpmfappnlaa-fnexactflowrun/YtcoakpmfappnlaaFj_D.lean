import Derived.Test.YtcoakpmfappnlaaFuU
import Derived.Test.YtcoakpmfappnlaaEqBytes
import Derived.Test.YtcoakpmfappnlaaMarkBytes
import Derived.Deep.LoopGhost
import Derived.Deep.Cut
import Derived.Deep.CutRange
import Derived.Deep.RegionWith
import Derived.Deep.RegionLaw
import Derived.Test.YtcoakpmfappnlaaFvC
namespace Go.Proofs.Ytcoakpmfappnlaa
open Go.RowKit
set_option linter.unusedVariables false

theorem row_nil8 (w : World) : Row w .u8 (.slice none 0 0) [] := Or.inl ⟨rfl, none, 0, rfl⟩
theorem eqRange_nil (w : World) : Calls Try.prog 67 #[.slice none 0 0, .slice none 0 0] w fun e w' => e = .returned (.bool true) ∧ Below w.heap.size w w' := by
  go_enter Try.func67, Try.ntmps67
  go_wp2_with fail
  refine wp_loop_rounds 1 ?_
  rw [rounds_succ]
  go_wp2
  go_ret
  exact ⟨rfl, Below.refl _ _⟩
theorem markRange_nil (k : Int) (w : World) : Calls Try.prog 45 #[.slice none 0 0, .int .i64 k] w fun e w' => e = .returned (.int .i64 k) ∧ w' = w := by
  go_enter Try.func45, Try.ntmps45
  go_wp2
  refine wp_loop_rounds 1 ?_
  rw [rounds_succ]
  go_wp2
  go_ret
  exact ⟨rfl, rfl⟩
theorem heldRange_nil (k : Int) (w : World) : Calls Try.prog 47 #[.slice none 0 0, .int .i64 k] w fun e w' => e = .returned (.int .i64 k) ∧ w' = w := by
  go_enter Try.func47, Try.ntmps47
  go_wp2
  refine wp_loop_rounds 1 ?_
  rw [rounds_succ]
  go_wp2
  go_ret
  exact ⟨rfl, rfl⟩
set_option maxRecDepth 20000 in
set_option maxHeartbeats 4000000 in
theorem eqFrm (x0 x1 x2 : Int) (w : World) : Calls Try.prog 64 #[(.agg #[.int .i64 x0, .int .i64 x1, .int .i64 x2, .int .i64 0, .bool false, .slice none 0 0, .slice none 0 0, .slice none 0 0]), (.agg #[.int .i64 x0, .int .i64 x1, .int .i64 x2, .int .i64 0, .bool false, .slice none 0 0, .slice none 0 0, .slice none 0 0])] w fun e w' => e = .returned (.bool true) ∧ Below w.heap.size w w' := by
  have h0 : (x0 != x0) = false := by simp
  have h1 : (x1 != x1) = false := by simp
  have h2 : (x2 != x2) = false := by simp
  have hB : Below w.heap.size w ((w.alloc (.cells #[.int .i64 x0, .int .i64 x1, .int .i64 x2, .int .i64 0, .bool false, .slice none 0 0, .slice none 0 0, .slice none 0 0] 87)).alloc (.cells #[.int .i64 x0, .int .i64 x1, .int .i64 x2, .int .i64 0, .bool false, .slice none 0 0, .slice none 0 0, .slice none 0 0] 87)) := ((Below.refl _ _).alloc (Nat.le_refl _) _).alloc (by simp) _
  have bA := fun u => eqBytes_nil (.slice none 0 0) (.slice none 0 0) u (row_nil8 u) (row_nil8 u)
  have bR := fun u => eqRange_nil u
  have HH : Hid _ := And.intro hB (And.intro bA bR)
  clear hB bA bR
  go_enter Try.func64, Try.ntmps64
  go_wp2_with (first
    | (go_at_call 66; refine (HH.out.2.1 _).mono ?_; rintro e wz ⟨rfl, mz, hz⟩; subst hz)
    | (go_at_call 67; refine (HH.out.2.2 _).mono ?_; rintro e wz ⟨rfl, hz⟩; have HZ : Hid _ := hz; clear hz))
  go_ret
  exact ⟨rfl, (below_drewN HH.out.1 _).trans (HZ.out.mono HH.out.1.size)⟩
instance : Inhabited (Int × Int × Int) := ⟨(0, 0, 0)⟩
theorem frC_at (L : List (Int × Int × Int)) (j : Nat) (h : j < L.length) : (L.map frC).getD j [] = frC (L.getD j default) := map_at _ L default j h
theorem eqFrameS_nil (va vb : Value) (w : World) (ha : GRow 8 w va []) (hb : GRow 8 w vb []) :
    Calls Try.prog 43 #[va, vb] w fun e w' => e = .returned (.bool true) ∧ Below w.heap.size w w' := by
  obtain ⟨ao, ca, rfl⟩ := ha.form
  obtain ⟨bo, cb, rfl⟩ := hb.form
  clear ha hb
  go_enter Try.func43, Try.ntmps43
  go_wp2_with fail
  refine wp_loop_rounds 1 ?_
  rw [rounds_succ]
  go_wp2
  go_ret
  exact ⟨rfl, Below.refl _ _⟩
set_option maxRecDepth 20000 in
set_option maxHeartbeats 4000000 in
theorem eqFrameS_core (L : List (Int × Int × Int)) (m b off ca b' off' cb : Nat) (w : World) (hm : m ≤ 1048576) (hbl : b < w.heap.size) (hbl' : b' < w.heap.size)
    (hc : ∀ j, j < m → ∀ f, f < 8 → w.cell? ⟨b, off + (j * 8 + f), none⟩ = (frC (L.getD j default))[f]?) (hc' : ∀ j, j < m → ∀ f, f < 8 → w.cell? ⟨b', off' + (j * 8 + f), none⟩ = (frC (L.getD j default))[f]?) :
    Calls Try.prog 43 #[.slice (some ⟨b, off, none⟩) m ca, .slice (some ⟨b', off', none⟩) m cb] w fun e w' => e = .returned (.bool true) ∧ Below w.heap.size w w' := by
  have HH : Hid _ := And.intro hc hc'
  clear hc hc'
  have hmm : ((m : Int) != (m : Int)) = false := by simp
  go_enter Try.func43, Try.ntmps43
  go_wp2_with fail
  go_loopg [5] m (fun q i wr => ∃ k : Nat, k ≤ m ∧ q = m - k ∧ i = .int .i64 (k : Int) ∧ Below w.heap.size w wr)
  case atStart => exact ⟨0, by omega, by omega, rfl, Below.refl _ _⟩
  case round =>
    obtain ⟨k, hk, hq, rfl, bw⟩ := hrel
    by_cases hlt : k < m
    · have bd : Below w.heap.size w wr.drew := below_drewN bw 1
      obtain ⟨x0, ex0⟩ : ∃ x, x = (L.getD k default).1 := ⟨_, rfl⟩
      obtain ⟨x1, ex1⟩ : ∃ x, x = (L.getD k default).2.1 := ⟨_, rfl⟩
      obtain ⟨x2, ex2⟩ : ∃ x, x = (L.getD k default).2.2 := ⟨_, rfl⟩
      have c0 : wr.drew.cell? ⟨b, off + k * 8, none⟩ = some (.int .i64 x0) := by have t := (bd.cell (p := ⟨b, off + (k * 8 + 0), none⟩) hbl).trans (HH.out.1 k hlt 0 (by omega)); rw [ex0]; exact t
      have d0 : wr.drew.cell? ⟨b', off' + k * 8, none⟩ = some (.int .i64 x0) := by have t := (bd.cell (p := ⟨b', off' + (k * 8 + 0), none⟩) hbl').trans (HH.out.2 k hlt 0 (by omega)); rw [ex0]; exact t
      have c1 : wr.drew.cell? ⟨b, off + k * 8 + 1, none⟩ = some (.int .i64 x1) := by have t := (bd.cell (p := ⟨b, off + (k * 8 + 1), none⟩) hbl).trans (HH.out.1 k hlt 1 (by omega)); rw [ex1]; exact t
      have d1 : wr.drew.cell? ⟨b', off' + k * 8 + 1, none⟩ = some (.int .i64 x1) := by have t := (bd.cell (p := ⟨b', off' + (k * 8 + 1), none⟩) hbl').trans (HH.out.2 k hlt 1 (by omega)); rw [ex1]; exact t
      have c2 : wr.drew.cell? ⟨b, off + k * 8 + 2, none⟩ = some (.int .i64 x2) := by have t := (bd.cell (p := ⟨b, off + (k * 8 + 2), none⟩) hbl).trans (HH.out.1 k hlt 2 (by omega)); rw [ex2]; exact t
      have d2 : wr.drew.cell? ⟨b', off' + k * 8 + 2, none⟩ = some (.int .i64 x2) := by have t := (bd.cell (p := ⟨b', off' + (k * 8 + 2), none⟩) hbl').trans (HH.out.2 k hlt 2 (by omega)); rw [ex2]; exact t
      have c3 : wr.drew.cell? ⟨b, off + k * 8 + 3, none⟩ = some (.int .i64 0) := by have t := (bd.cell (p := ⟨b, off + (k * 8 + 3), none⟩) hbl).trans (HH.out.1 k hlt 3 (by omega)); exact t
      have d3 : wr.drew.cell? ⟨b', off' + k * 8 + 3, none⟩ = some (.int .i64 0) := by have t := (bd.cell (p := ⟨b', off' + (k * 8 + 3), none⟩) hbl').trans (HH.out.2 k hlt 3 (by omega)); exact t
      have c4 : wr.drew.cell? ⟨b, off + k * 8 + 4, none⟩ = some (.bool false) := by have t := (bd.cell (p := ⟨b, off + (k * 8 + 4), none⟩) hbl).trans (HH.out.1 k hlt 4 (by omega)); exact t
      have d4 : wr.drew.cell? ⟨b', off' + k * 8 + 4, none⟩ = some (.bool false) := by have t := (bd.cell (p := ⟨b', off' + (k * 8 + 4), none⟩) hbl').trans (HH.out.2 k hlt 4 (by omega)); exact t
      have c5 : wr.drew.cell? ⟨b, off + k * 8 + 5, none⟩ = some (.slice none 0 0) := by have t := (bd.cell (p := ⟨b, off + (k * 8 + 5), none⟩) hbl).trans (HH.out.1 k hlt 5 (by omega)); exact t
      have d5 : wr.drew.cell? ⟨b', off' + k * 8 + 5, none⟩ = some (.slice none 0 0) := by have t := (bd.cell (p := ⟨b', off' + (k * 8 + 5), none⟩) hbl').trans (HH.out.2 k hlt 5 (by omega)); exact t
      have c6 : wr.drew.cell? ⟨b, off + k * 8 + 6, none⟩ = some (.slice none 0 0) := by have t := (bd.cell (p := ⟨b, off + (k * 8 + 6), none⟩) hbl).trans (HH.out.1 k hlt 6 (by omega)); exact t
      have d6 : wr.drew.cell? ⟨b', off' + k * 8 + 6, none⟩ = some (.slice none 0 0) := by have t := (bd.cell (p := ⟨b', off' + (k * 8 + 6), none⟩) hbl').trans (HH.out.2 k hlt 6 (by omega)); exact t
      have c7 : wr.drew.cell? ⟨b, off + k * 8 + 7, none⟩ = some (.slice none 0 0) := by have t := (bd.cell (p := ⟨b, off + (k * 8 + 7), none⟩) hbl).trans (HH.out.1 k hlt 7 (by omega)); exact t
      have d7 : wr.drew.cell? ⟨b', off' + k * 8 + 7, none⟩ = some (.slice none 0 0) := by have t := (bd.cell (p := ⟨b', off' + (k * 8 + 7), none⟩) hbl').trans (HH.out.2 k hlt 7 (by omega)); exact t
      have H4 : Hid _ := And.intro (eqFrm x0 x1 x2 wr.drew) bd
      clear bd ex0 ex1 ex2
      go_upto_region 6 with fail
      go_cut [26] from 11 to 26 (fun cv wx => cv = .bool false ∧ Below w.heap.size w wx)
      case first =>
        go_region_with (go_at_call 64; refine H4.out.1.mono ?_; rintro e wz ⟨rfl, hz⟩)
        all_goals (go_wp2_with fail; go_meet; exact ⟨rfl, H4.out.2.trans (hz.mono H4.out.2.size)⟩)
      case rest =>
      obtain ⟨rfl, bc⟩ := hcut
      have H5 : Hid _ := And.intro bc True.intro
      clear bc bw c0 d0 c1 d1 c2 d2 c3 d3 c4 d4 c5 d5 c6 d6 c7 d7
      go_wp2
      go_roundg (m - (k + 1))
      case measure => omega
      case rel => exact ⟨k + 1, by omega, rfl, by go_num, H5.out.1⟩
    · have H4 : Hid _ := And.intro bw True.intro
      clear bw
      go_wp2
      go_ret
      exact ⟨rfl, H4.out.1⟩
theorem eqFrameS (va vb : Value) (L : List (Int × Int × Int)) (w : World) (ha : GRow 8 w va (L.map frC)) (hb : GRow 8 w vb (L.map frC)) (hm : L.length ≤ 1048576) :
    Calls Try.prog 43 #[va, vb] w fun e w' => e = .returned (.bool true) ∧ Below w.heap.size w w' := by
  by_cases h0 : 0 < L.length
  · obtain ⟨b, off, ca, rfl, hbl, hc⟩ := ha.at' (by rw [List.length_map]; exact h0)
    obtain ⟨b', off', cb, rfl, hbl', hc'⟩ := hb.at' (by rw [List.length_map]; exact h0)
    rw [List.length_map] at hc hc' ⊢
    exact eqFrameS_core L _ b off ca b' off' cb w hm hbl hbl' (fun j hj f hf => by rw [← frC_at L j hj]; exact hc j hj f hf) (fun j hj f hf => by rw [← frC_at L j hj]; exact hc' j hj f hf)
  · obtain rfl : L = [] := List.eq_nil_of_length_eq_zero (by omega)
    exact eqFrameS_nil va vb w ha hb
end Go.Proofs.Ytcoakpmfappnlaa

namespace Go.Proofs.Ytcoakpmfappnlaa
open Go.RowKit
set_option linter.unusedVariables false

/-- What markFrameS writes. -/
def marksFrm (q : Int) (n : Nat) : List (List Value) := (List.range n).map fun (j : Nat) => [.int .i64 (q + 5 * (j : Int)), .int .i64 (q + 5 * (j : Int) + 1), .int .i64 (q + 5 * (j : Int) + 2), .int .i64 (q + 5 * (j : Int) + 3), .bool ((q + 5 * (j : Int) + 4) % 3 == 0), .slice none 0 0, .slice none 0 0, .slice none 0 0]
theorem marksFrm_length (q : Int) (n : Nat) : (marksFrm q n).length = n := by simp [marksFrm]
theorem marksFrm_at (q : Int) (n j : Nat) (h : j < n) : (marksFrm q n).getD j [] = [.int .i64 (q + 5 * (j : Int)), .int .i64 (q + 5 * (j : Int) + 1), .int .i64 (q + 5 * (j : Int) + 2), .int .i64 (q + 5 * (j : Int) + 3), .bool ((q + 5 * (j : Int) + 4) % 3 == 0), .slice none 0 0, .slice none 0 0, .slice none 0 0] := by simp [marksFrm, List.getD, h]
theorem markFrameS_nil (q : Int) (ao : Option Addr) (cp : Nat) (w : World) :
    Calls Try.prog 24 #[.slice ao 0 cp, .int .i64 q] w fun e w' => e = .returned (.int .i64 q) ∧ w' = w := by
  go_enter Try.func24, Try.ntmps24
  go_wp2
  refine wp_loop_rounds 1 ?_
  rw [rounds_succ]
  go_wp2
  go_ret
  exact ⟨rfl, rfl⟩
set_option maxRecDepth 20000 in
set_option maxHeartbeats 4000000 in
theorem markFrameS_core (q : Int) (n base g cap : Nat) (zs0 : List Value) (w : World) (hn : n ≤ 140737488355328) (hq0 : 0 ≤ q) (hq1 : q ≤ 140737488355328) (hg : base ≤ g)
    (hown0 : w.ownsRow base 87 8 (.slice (some ⟨g, 0, none⟩) n cap) n zs0) (hl0 : zs0.length = n * 8) (hnil : ∀ j : Nat, j < n → zs0[j * 8 + 5]? = some (.slice none 0 0) ∧ zs0[j * 8 + 6]? = some (.slice none 0 0) ∧ zs0[j * 8 + 7]? = some (.slice none 0 0)) :
    Calls Try.prog 24 #[.slice (some ⟨g, 0, none⟩) n cap, .int .i64 q] w fun e w' => e = .returned (.int .i64 (q + 5 * (n : Int))) ∧
      (∃ zs : List Value, (∀ j : Nat, j < n → ∀ f, f < 8 → zs[j * 8 + f]? = ([.int .i64 (q + 5 * (j : Int)), .int .i64 (q + 5 * (j : Int) + 1), .int .i64 (q + 5 * (j : Int) + 2), .int .i64 (q + 5 * (j : Int) + 3), .bool ((q + 5 * (j : Int) + 4) % 3 == 0), .slice none 0 0, .slice none 0 0, .slice none 0 0] : List Value)[f]?) ∧ w'.ownsRow base 87 8 (.slice (some ⟨g, 0, none⟩) n cap) n zs) ∧ Below base w w' ∧ w'.heap.size = w.heap.size ∧ Only (some g) w w' := by
  have MB := fun (k : Int) (u : World) => mark_nil k (.slice none 0 0) u (row_nil8 u)
  have MRg := fun (k : Int) (u : World) => markRange_nil k u
  have H0 : Hid _ := And.intro hown0 (And.intro hl0 (And.intro hnil (And.intro MB MRg)))
  clear hown0 hl0 hnil MB MRg
  go_enter Try.func24, Try.ntmps24
  go_wp2
  go_loopg [1, 5] n (fun qq s i wr => ∃ k : Nat, k ≤ n ∧ qq = n - k ∧ i = .int .i64 k ∧ s = .int .i64 (q + 5 * (k : Int)) ∧ ∃ zs : List Value, zs.length = n * 8 ∧ (∀ j : Nat, j < k → ∀ f, f < 8 → zs[j * 8 + f]? = ([.int .i64 (q + 5 * (j : Int)), .int .i64 (q + 5 * (j : Int) + 1), .int .i64 (q + 5 * (j : Int) + 2), .int .i64 (q + 5 * (j : Int) + 3), .bool ((q + 5 * (j : Int) + 4) % 3 == 0), .slice none 0 0, .slice none 0 0, .slice none 0 0] : List Value)[f]?) ∧ (∀ j : Nat, k ≤ j → j < n → zs[j * 8 + 5]? = some (.slice none 0 0) ∧ zs[j * 8 + 6]? = some (.slice none 0 0) ∧ zs[j * 8 + 7]? = some (.slice none 0 0)) ∧
      wr.ownsRow base 87 8 (.slice (some ⟨g, 0, none⟩) n cap) n zs ∧ Below base w wr ∧ wr.heap.size = w.heap.size ∧ Only (some g) w wr)
  case atStart => exact ⟨0, Nat.zero_le _, by omega, rfl, by simp, zs0, H0.out.2.1, fun j h => by omega, fun j _ hj => H0.out.2.2.1 j hj, H0.out.1, Below.refl _ _, rfl, Only.refl _ _⟩
  case round =>
    obtain ⟨k, hk, hqq, rfl, rfl, zs, hl, hm, hv, hown, hb, hz, ho⟩ := hrel
    by_cases hlt : k < n
    · have hgl : g < wr.heap.size := (hown.lt g rfl).2
      obtain ⟨v5, v6, v7⟩ := hv k (Nat.le_refl _) hlt
      have d0 : k * 8 < n * 8 := by omega
      obtain ⟨z0, hz0'⟩ : ∃ z, zs[k * 8]? = some z := ⟨zs[k * 8]'(by omega), by simp [hl, d0]⟩
      have r0 := hown.cellAt (k * 8) d0
      rw [hz0'] at r0
      have p0 := hown.frozenAt (k * 8)
      have d1 : k * 8 + 1 < n * 8 := by omega
      obtain ⟨z1, hz1'⟩ : ∃ z, zs[k * 8 + 1]? = some z := ⟨zs[k * 8 + 1]'(by omega), by simp [hl, d1]⟩
      have r1 := hown.cellAt (k * 8 + 1) d1
      rw [hz1'] at r1
      have p1 := hown.frozenAt (k * 8 + 1)
      have d2 : k * 8 + 2 < n * 8 := by omega
      obtain ⟨z2, hz2'⟩ : ∃ z, zs[k * 8 + 2]? = some z := ⟨zs[k * 8 + 2]'(by omega), by simp [hl, d2]⟩
      have r2 := hown.cellAt (k * 8 + 2) d2
      rw [hz2'] at r2
      have p2 := hown.frozenAt (k * 8 + 2)
      have d3 : k * 8 + 3 < n * 8 := by omega
      obtain ⟨z3, hz3'⟩ : ∃ z, zs[k * 8 + 3]? = some z := ⟨zs[k * 8 + 3]'(by omega), by simp [hl, d3]⟩
      have r3 := hown.cellAt (k * 8 + 3) d3
      rw [hz3'] at r3
      have p3 := hown.frozenAt (k * 8 + 3)
      have d4 : k * 8 + 4 < n * 8 := by omega
      obtain ⟨z4, hz4'⟩ : ∃ z, zs[k * 8 + 4]? = some z := ⟨zs[k * 8 + 4]'(by omega), by simp [hl, d4]⟩
      have r4 := hown.cellAt (k * 8 + 4) d4
      rw [hz4'] at r4
      have p4 := hown.frozenAt (k * 8 + 4)
      have d5 : k * 8 + 5 < n * 8 := by omega
      have r5 := hown.cellAt (k * 8 + 5) d5
      rw [v5] at r5
      have d6 : k * 8 + 6 < n * 8 := by omega
      have r6 := hown.cellAt (k * 8 + 6) d6
      rw [v6] at r6
      have d7 : k * 8 + 7 < n * 8 := by omega
      have r7 := hown.cellAt (k * 8 + 7) d7
      rw [v7] at r7
      obtain ⟨s, es⟩ : ∃ s, s = q + 5 * (k : Int) := ⟨_, rfl⟩
      have hs0 : 0 ≤ s := by omega
      rw [← es]
      obtain ⟨tb4, etb4⟩ : ∃ tb : Bool, tb = ((s + 4) % 3 == 0) := ⟨_, rfl⟩
      have htb4 : ((s + 1 + 1 + 1 + 1).tmod 3 == 0) = tb4 := by rw [etb4, show s + 1 + 1 + 1 + 1 = s + 4 by omega, Int.tmod_eq_emod_of_nonneg (by omega)]
      have htc4 : ((s + 1 + 1 + 1 + 1) % 3 == 0) = tb4 := by rw [etb4, show s + 1 + 1 + 1 + 1 = s + 4 by omega]
      have HT4 : Hid _ := And.intro etb4 True.intro
      clear etb4
      have w1 : IntKind.i64.wrap (s + 1) = s + 1 := by rw [IntKind.wrap_i64]; omega
      have w2 : IntKind.i64.wrap (s + 1 + 1) = s + 1 + 1 := by rw [IntKind.wrap_i64]; omega
      have w3 : IntKind.i64.wrap (s + 1 + 1 + 1) = s + 1 + 1 + 1 := by rw [IntKind.wrap_i64]; omega
      have w4 : IntKind.i64.wrap (s + 1 + 1 + 1 + 1) = s + 1 + 1 + 1 + 1 := by rw [IntKind.wrap_i64]; omega
      have w5 : IntKind.i64.wrap (s + 1 + 1 + 1 + 1 + 1) = s + 1 + 1 + 1 + 1 + 1 := by rw [IntKind.wrap_i64]; omega
      have H2 : Hid _ := And.intro es (And.intro hl (And.intro hm (And.intro hown (And.intro hb (And.intro hz (And.intro ho hv))))))
      clear es hl hm hown hb hz ho hz0' hz1' hz2' hz3' hz4' hv v5 v6 v7
      go_wp2_with (first
        | (go_at_call 44; refine (H0.out.2.2.2.1 _ _).mono ?_; rintro e wz ⟨rfl, hz⟩; subst hz)
        | (go_at_call 45; refine (H0.out.2.2.2.2 _ _).mono ?_; rintro e wz ⟨rfl, hz⟩; subst hz))
      go_roundg (n - (k + 1))
      case measure => omega
      case rel =>
        obtain ⟨es, hl, hm, hown, hb, hz, ho, hv⟩ := H2.out
        refine ⟨k + 1, by omega, rfl, by go_num, by rw [es]; congr 1; omega, (((((zs.set (k * 8) (.int .i64 (s))).set (k * 8 + 1) (.int .i64 (s + 1))).set (k * 8 + 2) (.int .i64 (s + 1 + 1))).set (k * 8 + 3) (.int .i64 (s + 1 + 1 + 1))).set (k * 8 + 4) (.bool tb4)), by simp only [List.length_set]; exact hl, fun j hj f hf => ?_, fun j hj hjn => ?_, (((((hown.stored (k * 8) _).1.stored (k * 8 + 1) _).1.stored (k * 8 + 2) _).1.stored (k * 8 + 3) _).1.stored (k * 8 + 4) _).1, (((((hb.setCell (p := ⟨g, k * 8, none⟩) hg _).setCell (p := ⟨g, k * 8 + 1, none⟩) hg _).setCell (p := ⟨g, k * 8 + 2, none⟩) hg _).setCell (p := ⟨g, k * 8 + 3, none⟩) hg _).setCell (p := ⟨g, k * 8 + 4, none⟩) hg _), by simp [World.setCell, hz], (((((ho.trans (Only.setCell ⟨g, k * 8, none⟩ _)).trans (Only.setCell ⟨g, k * 8 + 1, none⟩ _)).trans (Only.setCell ⟨g, k * 8 + 2, none⟩ _)).trans (Only.setCell ⟨g, k * 8 + 3, none⟩ _)).trans (Only.setCell ⟨g, k * 8 + 4, none⟩ _))⟩
        · by_cases hjk : j = k
          · subst hjk
            rw [← es]
            obtain ⟨v5, v6, v7⟩ := hv j (Nat.le_refl _) hlt
            obtain rfl | rfl | rfl | rfl | rfl | rfl | rfl | rfl : f = 0 ∨ f = 1 ∨ f = 2 ∨ f = 3 ∨ f = 4 ∨ f = 5 ∨ f = 6 ∨ f = 7 := by omega
            · rw [show j * 8 + 0 = j * 8 from rfl, List.getElem?_set_ne (by omega), List.getElem?_set_ne (by omega), List.getElem?_set_ne (by omega), List.getElem?_set_ne (by omega), List.getElem?_set_self (by first | omega | (simp only [List.length_set]; omega))]; rfl
            · rw [List.getElem?_set_ne (by omega), List.getElem?_set_ne (by omega), List.getElem?_set_ne (by omega), List.getElem?_set_self (by first | omega | (simp only [List.length_set]; omega))]; simp <;> omega
            · rw [List.getElem?_set_ne (by omega), List.getElem?_set_ne (by omega), List.getElem?_set_self (by first | omega | (simp only [List.length_set]; omega))]; simp <;> omega
            · rw [List.getElem?_set_ne (by omega), List.getElem?_set_self (by first | omega | (simp only [List.length_set]; omega))]; simp <;> omega
            · rw [List.getElem?_set_self (by first | omega | (simp only [List.length_set]; omega))]; rw [HT4.out.1]; rfl
            · rw [List.getElem?_set_ne (by omega), List.getElem?_set_ne (by omega), List.getElem?_set_ne (by omega), List.getElem?_set_ne (by omega), List.getElem?_set_ne (by omega)]; rw [v5]; rfl
            · rw [List.getElem?_set_ne (by omega), List.getElem?_set_ne (by omega), List.getElem?_set_ne (by omega), List.getElem?_set_ne (by omega), List.getElem?_set_ne (by omega)]; rw [v6]; rfl
            · rw [List.getElem?_set_ne (by omega), List.getElem?_set_ne (by omega), List.getElem?_set_ne (by omega), List.getElem?_set_ne (by omega), List.getElem?_set_ne (by omega)]; rw [v7]; rfl
          · have u := hm j (by omega) f hf
            rw [List.getElem?_set_ne (by omega), List.getElem?_set_ne (by omega), List.getElem?_set_ne (by omega), List.getElem?_set_ne (by omega), List.getElem?_set_ne (by omega)]; exact u
        · obtain ⟨v5, v6, v7⟩ := hv j (by omega) hjn
          refine ⟨?_, ?_, ?_⟩
          · rw [List.getElem?_set_ne (by omega), List.getElem?_set_ne (by omega), List.getElem?_set_ne (by omega), List.getElem?_set_ne (by omega), List.getElem?_set_ne (by omega)]; exact v5
          · rw [List.getElem?_set_ne (by omega), List.getElem?_set_ne (by omega), List.getElem?_set_ne (by omega), List.getElem?_set_ne (by omega), List.getElem?_set_ne (by omega)]; exact v6
          · rw [List.getElem?_set_ne (by omega), List.getElem?_set_ne (by omega), List.getElem?_set_ne (by omega), List.getElem?_set_ne (by omega), List.getElem?_set_ne (by omega)]; exact v7
    · have HR : Hid _ := And.intro hm (And.intro hown (And.intro hb (And.intro hz ho)))
      clear hl hm hown hb hz ho hv
      go_wp2
      go_ret
      obtain rfl : k = n := by omega
      obtain ⟨r1, r2, r3, r4, r5⟩ := HR.out
      exact ⟨rfl, ⟨zs, r1, r2⟩, r3, r4, r5⟩
theorem markFrameS (q : Int) (base : Nat) (v : Value) (L : List (Int × Int × Int)) (w : World) (hn : L.length ≤ 140737488355328) (hq0 : 0 ≤ q) (hq1 : q ≤ 140737488355328) (h : GOwns 87 8 w base v (L.map frC)) :
    Calls Try.prog 24 #[v, .int .i64 q] w fun e w' => e = .returned (.int .i64 (q + 5 * (L.length : Int))) ∧ GOwns 87 8 w' base v (marksFrm q L.length) ∧ Below base w w' ∧ w'.heap.size = w.heap.size ∧ Only v.ownBlock w w' := by
  obtain ⟨zs, ho, hz⟩ := id h
  rw [List.length_map] at ho hz
  have hl : zs.length = L.length * 8 := ho.1
  rcases ho.2 with ⟨rfl, h0⟩ | ⟨g, cap, cur, rfl, hg, hh, r⟩
  · have hR : L = [] := List.eq_nil_of_length_eq_zero h0
    subst hR
    refine (markFrameS_nil q _ _ w).mono ?_
    rintro e w' ⟨rfl, rfl⟩
    exact ⟨by simp, h, Below.refl _ _, rfl, Only.refl _ _⟩
  · refine (markFrameS_core q L.length base g cap zs w hn hq0 hq1 hg ho hl (fun j hj => ?_)).mono ?_
    · have a := hz j hj
      rw [frC_at L j hj] at a
      exact ⟨(a 5 (by omega)).trans rfl, (a 6 (by omega)).trans rfl, (a 7 (by omega)).trans rfl⟩
    rintro e w' ⟨rfl, ⟨ys, hy, ho2⟩, hb, hz2, hon⟩
    refine ⟨rfl, ⟨ys, by rw [marksFrm_length]; exact ho2, fun j hj f hf => ?_⟩, hb, hz2, hon⟩
    rw [marksFrm_length] at hj
    rw [marksFrm_at _ _ _ hj]
    exact hy j hj f hf
theorem heldFrameS_nil (q : Int) (ao : Option Addr) (cp : Nat) (w : World) :
    Calls Try.prog 25 #[.slice ao 0 cp, .int .i64 q] w fun e w' => e = .returned (.int .i64 q) ∧ w' = w := by
  go_enter Try.func25, Try.ntmps25
  go_wp2
  refine wp_loop_rounds 1 ?_
  rw [rounds_succ]
  go_wp2
  go_ret
  exact ⟨rfl, rfl⟩
set_option maxRecDepth 20000 in
set_option maxHeartbeats 4000000 in
theorem heldFrameS_core (q : Int) (n : Nat) (b off ca : Nat) (w : World) (hn : n ≤ 140737488355328) (hq0 : 0 ≤ q) (hq1 : q ≤ 140737488355328)
    (hc : ∀ j : Nat, j < n → ∀ f, f < 8 → w.cell? ⟨b, off + (j * 8 + f), none⟩ = ([.int .i64 (q + 5 * (j : Int)), .int .i64 (q + 5 * (j : Int) + 1), .int .i64 (q + 5 * (j : Int) + 2), .int .i64 (q + 5 * (j : Int) + 3), .bool ((q + 5 * (j : Int) + 4) % 3 == 0), .slice none 0 0, .slice none 0 0, .slice none 0 0] : List Value)[f]?) :
    Calls Try.prog 25 #[.slice (some ⟨b, off, none⟩) n ca, .int .i64 q] w fun e w' => e = .returned (.int .i64 (q + 5 * (n : Int))) ∧ w' = w := by
  have MB := fun (k : Int) (u : World) => held_nil k (.slice none 0 0) u (row_nil8 u)
  have MRg := fun (k : Int) (u : World) => heldRange_nil k u
  have HC : Hid _ := And.intro hc (And.intro MB MRg)
  clear hc MB MRg
  go_enter Try.func25, Try.ntmps25
  go_wp2
  go_loopg [1, 5] n (fun qq s i wr => ∃ k : Nat, k ≤ n ∧ qq = n - k ∧ i = .int .i64 k ∧ s = .int .i64 (q + 5 * (k : Int)) ∧ wr = w)
  case atStart => exact ⟨0, Nat.zero_le _, by omega, rfl, by simp, rfl⟩
  case round =>
    obtain ⟨k, hk, hqq, rfl, rfl, rfl⟩ := hrel
    by_cases hlt : k < n
    · obtain ⟨s, es⟩ : ∃ s, s = q + 5 * (k : Int) := ⟨_, rfl⟩
      have hck := HC.out.1 k hlt
      have hs0 : 0 ≤ s := by omega
      rw [← es] at hck ⊢
      obtain ⟨tb4, etb4⟩ : ∃ tb : Bool, tb = ((s + 4) % 3 == 0) := ⟨_, rfl⟩
      have htb4 : ((s + 1 + 1 + 1 + 1).tmod 3 == 0) = tb4 := by rw [etb4, show s + 1 + 1 + 1 + 1 = s + 4 by omega, Int.tmod_eq_emod_of_nonneg (by omega)]
      have htc4 : ((s + 1 + 1 + 1 + 1) % 3 == 0) = tb4 := by rw [etb4, show s + 1 + 1 + 1 + 1 = s + 4 by omega]
      have hbb : (tb4 != tb4) = false := by simp
      have HT4 : Hid _ := And.intro etb4 True.intro
      clear etb4
      have c0 : wr.cell? ⟨b, off + k * 8, none⟩ = some (.int .i64 (s)) := by have t := hck 0 (by omega); rw [show (off + (k * 8 + 0)) = off + k * 8 by omega] at t; rw [t]; simp <;> omega
      have h0 : (s != s) = false := by simp
      have c1 : wr.cell? ⟨b, off + k * 8 + 1, none⟩ = some (.int .i64 (s + 1)) := by have t := hck 1 (by omega); rw [show (off + (k * 8 + 1)) = off + k * 8 + 1 by omega] at t; rw [t]; simp <;> omega
      have h1 : (s + 1 != s + 1) = false := by simp
      have c2 : wr.cell? ⟨b, off + k * 8 + 2, none⟩ = some (.int .i64 (s + 1 + 1)) := by have t := hck 2 (by omega); rw [show (off + (k * 8 + 2)) = off + k * 8 + 2 by omega] at t; rw [t]; simp <;> omega
      have h2 : (s + 1 + 1 != s + 1 + 1) = false := by simp
      have c3 : wr.cell? ⟨b, off + k * 8 + 3, none⟩ = some (.int .i64 (s + 1 + 1 + 1)) := by have t := hck 3 (by omega); rw [show (off + (k * 8 + 3)) = off + k * 8 + 3 by omega] at t; rw [t]; simp <;> omega
      have h3 : (s + 1 + 1 + 1 != s + 1 + 1 + 1) = false := by simp
      have c4 : wr.cell? ⟨b, off + k * 8 + 4, none⟩ = some (.bool tb4) := by have t := hck 4 (by omega); rw [show (off + (k * 8 + 4)) = off + k * 8 + 4 by omega] at t; rw [t]; rw [HT4.out.1]; rfl
      have c5 : wr.cell? ⟨b, off + k * 8 + 5, none⟩ = some (.slice none 0 0) := by have t := hck 5 (by omega); rw [show (off + (k * 8 + 5)) = off + k * 8 + 5 by omega] at t; rw [t]; rfl
      have c6 : wr.cell? ⟨b, off + k * 8 + 6, none⟩ = some (.slice none 0 0) := by have t := hck 6 (by omega); rw [show (off + (k * 8 + 6)) = off + k * 8 + 6 by omega] at t; rw [t]; rfl
      have c7 : wr.cell? ⟨b, off + k * 8 + 7, none⟩ = some (.slice none 0 0) := by have t := hck 7 (by omega); rw [show (off + (k * 8 + 7)) = off + k * 8 + 7 by omega] at t; rw [t]; rfl
      have w1 : IntKind.i64.wrap (s + 1) = s + 1 := by rw [IntKind.wrap_i64]; omega
      have w2 : IntKind.i64.wrap (s + 1 + 1) = s + 1 + 1 := by rw [IntKind.wrap_i64]; omega
      have w3 : IntKind.i64.wrap (s + 1 + 1 + 1) = s + 1 + 1 + 1 := by rw [IntKind.wrap_i64]; omega
      have w4 : IntKind.i64.wrap (s + 1 + 1 + 1 + 1) = s + 1 + 1 + 1 + 1 := by rw [IntKind.wrap_i64]; omega
      have w5 : IntKind.i64.wrap (s + 1 + 1 + 1 + 1 + 1) = s + 1 + 1 + 1 + 1 + 1 := by rw [IntKind.wrap_i64]; omega
      have hlt5 : ¬ (s + 1 + 1 + 1 + 1 + 1 < 0) := by omega
      have ES : Hid _ := And.intro es True.intro
      clear es hck
      go_wp2_with (first
        | (go_at_call 46; refine (HC.out.2.1 _ _).mono ?_; rintro e wz ⟨rfl, hz⟩; obtain rfl : wr = wz := hz.symm; clear hz)
        | (go_at_call 47; refine (HC.out.2.2 _ _).mono ?_; rintro e wz ⟨rfl, hz⟩; obtain rfl : wr = wz := hz.symm; clear hz))
      go_roundg (n - (k + 1))
      case measure => omega
      case rel => exact ⟨k + 1, by omega, rfl, by go_num, by rw [ES.out.1]; congr 1; omega, rfl⟩
    · go_wp2
      go_ret
      obtain rfl : k = n := by omega
      exact ⟨rfl, rfl⟩
theorem heldFrameS (q : Int) (n : Nat) (v : Value) (w : World) (h : GRow 8 w v (marksFrm q n)) (hn : n ≤ 140737488355328) (hq0 : 0 ≤ q) (hq1 : q ≤ 140737488355328) :
    Calls Try.prog 25 #[v, .int .i64 q] w fun e w' => e = .returned (.int .i64 (q + 5 * (n : Int))) ∧ w' = w := by
  by_cases h0 : 0 < n
  · obtain ⟨b, off, ca, rfl, _, hc⟩ := h.at' (by rw [marksFrm_length]; exact h0)
    rw [marksFrm_length] at hc ⊢
    exact heldFrameS_core q n b off ca w hn hq0 hq1 (fun j hj f hf => by rw [← marksFrm_at q n j hj]; exact hc j hj f hf)
  · obtain rfl : n = 0 := by omega
    obtain ⟨ao, cp, rfl⟩ := h.form
    have := heldFrameS_nil q ao cp w
    simpa [marksFrm] using this
end Go.Proofs.Ytcoakpmfappnlaa

namespace Go.Proofs.Ytcoakpmfappnlaa
open Go.RowKit
set_option linter.unusedVariables false

set_option maxRecDepth 20000 in
set_option maxHeartbeats 4000000 in
theorem eqObs (x0 x1 x2 : Int) (u u' : Value) (L : List (Int × Int × Int)) (w : World) (h1 : GRow 8 w u (L.map frC)) (h2 : GRow 8 w u' (L.map frC)) (hm : L.length ≤ 1048576) :
    Calls Try.prog 22 #[.agg #[.int .i64 x0, .int .i64 x1, .int .i64 x2, u], .agg #[.int .i64 x0, .int .i64 x1, .int .i64 x2, u']] w fun e w' => e = .returned (.bool true) ∧ Below w.heap.size w w' := by
  have b0 : (x0 != x0) = false := by simp
  have b1 : (x1 != x1) = false := by simp
  have b2 : (x2 != x2) = false := by simp
  have hB : Below w.heap.size w ((w.alloc (.cells #[.int .i64 x0, .int .i64 x1, .int .i64 x2, u] 43)).alloc (.cells #[.int .i64 x0, .int .i64 x1, .int .i64 x2, u'] 43)) := ((Below.refl _ _).alloc (Nat.le_refl _) _).alloc (by simp) _
  have C := eqFrameS u u' L _ (h1.below hB) (h2.below hB) hm
  obtain ⟨a1, c1, e1⟩ := h1.form
  obtain ⟨a2, c2, e2⟩ := h2.form
  obtain ⟨ln, el⟩ : ∃ ln, ln = (L.map frC).length := ⟨_, rfl⟩
  rw [← el] at e1 e2
  subst e1 e2
  have HH : Hid _ := And.intro hB C
  clear hB C h1 h2 el
  go_enter Try.func22, Try.ntmps22
  go_wp2_with (first
    | (go_at_call 43; refine HH.out.2.mono ?_; rintro e wz ⟨rfl, hz⟩; have HZ : Hid _ := hz; clear hz))
  go_ret
  exact ⟨rfl, HH.out.1.trans (HZ.out.mono HH.out.1.size)⟩
theorem eqObsS_nil (va vb : Value) (w : World) (ha : NRow w va []) (hb : NRow w vb []) :
    Calls Try.prog 9 #[va, vb] w fun e w' => e = .returned (.bool true) ∧ Below w.heap.size w w' := by
  obtain ⟨ao, ca, rfl⟩ := ha.form
  obtain ⟨bo, cb, rfl⟩ := hb.form
  clear ha hb
  go_enter Try.func9, Try.ntmps9
  go_wp2_with fail
  refine wp_loop_rounds 1 ?_
  rw [rounds_succ]
  go_wp2
  go_ret
  exact ⟨rfl, Below.refl _ _⟩
set_option maxRecDepth 20000 in
set_option maxHeartbeats 4000000 in
theorem eqObsS_core (Y : List FO) (U U' : Nat → Value) (m b off ca b' off' cb : Nat) (w : World) (hm : m ≤ 1048576) (hbl : b < w.heap.size) (hbl' : b' < w.heap.size) (hfl : ∀ j, (Y.getD j default).fr.length ≤ 1048576)
    (hc : ∀ j, j < m → ∀ f, f < 4 → w.cell? ⟨b, off + (j * 4 + f), none⟩ = (FO.c (Y.getD j default) (U j))[f]?) (hc' : ∀ j, j < m → ∀ f, f < 4 → w.cell? ⟨b', off' + (j * 4 + f), none⟩ = (FO.c (Y.getD j default) (U' j))[f]?)
    (hr : ∀ j, j < m → GRow 8 w (U j) ((Y.getD j default).fr.map frC)) (hr' : ∀ j, j < m → GRow 8 w (U' j) ((Y.getD j default).fr.map frC)) :
    Calls Try.prog 9 #[.slice (some ⟨b, off, none⟩) m ca, .slice (some ⟨b', off', none⟩) m cb] w fun e w' => e = .returned (.bool true) ∧ Below w.heap.size w w' := by
  have HH : Hid _ := And.intro hc (And.intro hc' (And.intro hr (And.intro hr' hfl)))
  clear hc hc' hr hr' hfl
  have hmm : ((m : Int) != (m : Int)) = false := by simp
  go_enter Try.func9, Try.ntmps9
  go_wp2_with fail
  go_loopg [5] m (fun q i wr => ∃ k : Nat, k ≤ m ∧ q = m - k ∧ i = .int .i64 (k : Int) ∧ Below w.heap.size w wr)
  case atStart => exact ⟨0, by omega, by omega, rfl, Below.refl _ _⟩
  case round =>
    obtain ⟨k, hk, hq, rfl, bw⟩ := hrel
    by_cases hlt : k < m
    · have bd : Below w.heap.size w wr.drew := below_drewN bw 1
      have E := eqObs (Y.getD k default).code (Y.getD k default).id (Y.getD k default).cnt (U k) (U' k) (Y.getD k default).fr wr.drew ((HH.out.2.2.1 k hlt).below bd) ((HH.out.2.2.2.1 k hlt).below bd) (HH.out.2.2.2.2 k)
      obtain ⟨a1, p1, eu⟩ := (HH.out.2.2.1 k hlt).form
      obtain ⟨a2, p2, eu'⟩ := (HH.out.2.2.2.1 k hlt).form
      obtain ⟨ln, eln⟩ : ∃ ln, ln = ((Y.getD k default).fr.map frC).length := ⟨_, rfl⟩
      rw [← eln] at eu eu'
      obtain ⟨x0, ex0⟩ : ∃ x, x = (Y.getD k default).code := ⟨_, rfl⟩
      obtain ⟨x1, ex1⟩ : ∃ x, x = (Y.getD k default).id := ⟨_, rfl⟩
      obtain ⟨x2, ex2⟩ : ∃ x, x = (Y.getD k default).cnt := ⟨_, rfl⟩
      rw [← ex0, ← ex1, ← ex2, eu, eu'] at E
      have c0 : wr.drew.cell? ⟨b, off + k * 4, none⟩ = some (.int .i64 x0) := by have t := (bd.cell (p := ⟨b, off + (k * 4 + 0), none⟩) hbl).trans (HH.out.1 k hlt 0 (by omega)); rw [ex0]; exact t
      have d0 : wr.drew.cell? ⟨b', off' + k * 4, none⟩ = some (.int .i64 x0) := by have t := (bd.cell (p := ⟨b', off' + (k * 4 + 0), none⟩) hbl').trans (HH.out.2.1 k hlt 0 (by omega)); rw [ex0]; exact t
      have c1 : wr.drew.cell? ⟨b, off + k * 4 + 1, none⟩ = some (.int .i64 x1) := by have t := (bd.cell (p := ⟨b, off + (k * 4 + 1), none⟩) hbl).trans (HH.out.1 k hlt 1 (by omega)); rw [ex1]; exact t
      have d1 : wr.drew.cell? ⟨b', off' + k * 4 + 1, none⟩ = some (.int .i64 x1) := by have t := (bd.cell (p := ⟨b', off' + (k * 4 + 1), none⟩) hbl').trans (HH.out.2.1 k hlt 1 (by omega)); rw [ex1]; exact t
      have c2 : wr.drew.cell? ⟨b, off + k * 4 + 2, none⟩ = some (.int .i64 x2) := by have t := (bd.cell (p := ⟨b, off + (k * 4 + 2), none⟩) hbl).trans (HH.out.1 k hlt 2 (by omega)); rw [ex2]; exact t
      have d2 : wr.drew.cell? ⟨b', off' + k * 4 + 2, none⟩ = some (.int .i64 x2) := by have t := (bd.cell (p := ⟨b', off' + (k * 4 + 2), none⟩) hbl').trans (HH.out.2.1 k hlt 2 (by omega)); rw [ex2]; exact t
      have c3 : wr.drew.cell? ⟨b, off + k * 4 + 3, none⟩ = some (.slice a1 ln p1) := by have t := (bd.cell (p := ⟨b, off + (k * 4 + 3), none⟩) hbl).trans (HH.out.1 k hlt 3 (by omega)); rw [← eu]; exact t
      have d3 : wr.drew.cell? ⟨b', off' + k * 4 + 3, none⟩ = some (.slice a2 ln p2) := by have t := (bd.cell (p := ⟨b', off' + (k * 4 + 3), none⟩) hbl').trans (HH.out.2.1 k hlt 3 (by omega)); rw [← eu']; exact t
      have H4 : Hid _ := And.intro E bd
      clear bd ex0 ex1 ex2 E eu eu' eln
      go_upto_region 6 with fail
      go_cut [26] from 11 to 26 (fun cv wx => cv = .bool false ∧ Below w.heap.size w wx)
      case first =>
        go_region_with (go_at_call 22; refine H4.out.1.mono ?_; rintro e wz ⟨rfl, hz⟩)
        all_goals (go_wp2_with fail; go_meet; exact ⟨rfl, H4.out.2.trans (hz.mono H4.out.2.size)⟩)
      case rest =>
      obtain ⟨rfl, bc⟩ := hcut
      have H5 : Hid _ := And.intro bc True.intro
      clear bc bw c0 d0 c1 d1 c2 d2 c3 d3
      go_wp2
      go_roundg (m - (k + 1))
      case measure => omega
      case rel => exact ⟨k + 1, by omega, rfl, by go_num, H5.out.1⟩
    · have H4 : Hid _ := And.intro bw True.intro
      clear bw
      go_wp2
      go_ret
      exact ⟨rfl, H4.out.1⟩
theorem eqObsS (va vb : Value) (Y : List FO) (w : World) (ha : NRow w va Y) (hb : NRow w vb Y) (hm : Y.length ≤ 1048576) (hfl : ∀ j, (Y.getD j default).fr.length ≤ 1048576) :
    Calls Try.prog 9 #[va, vb] w fun e w' => e = .returned (.bool true) ∧ Below w.heap.size w w' := by
  by_cases h0 : 0 < Y.length
  · obtain ⟨b, off, ca, rfl, hbl, U, hc, hr⟩ := ha.at' h0
    obtain ⟨b', off', cb, rfl, hbl', U', hc', hr'⟩ := hb.at' h0
    exact eqObsS_core Y U U' _ b off ca b' off' cb w hm hbl hbl' hfl hc hc' hr hr'
  · obtain rfl : Y = [] := List.eq_nil_of_length_eq_zero (by omega)
    exact eqObsS_nil va vb w ha hb
end Go.Proofs.Ytcoakpmfappnlaa

namespace Go.Proofs.Ytcoakpmfappnlaa
open Go.RowKit
set_option linter.unusedVariables false

/-- How many numbers the first k answers hold. -/
def sumO (Y : List FO) : Nat → Nat
  | 0 => 0
  | k + 1 => sumO Y k + (3 + 5 * (Y.getD k default).fr.length)
theorem sumO_mono (Y : List FO) : ∀ {a b : Nat}, a ≤ b → sumO Y a ≤ sumO Y b := by
  intro a b h
  induction b with
  | zero => rw [Nat.le_zero.1 h]; exact Nat.le_refl _
  | succ b ih =>
    by_cases e : a = b + 1
    · rw [e]; exact Nat.le_refl _
    · exact Nat.le_trans (ih (by omega)) (by show sumO Y b ≤ sumO Y b + _; omega)
/-- What a marked row is. -/
def MkRow (w : World) (v : Value) (q : Int) (Y : List FO) : Prop :=
  ∃ U : Nat → Value, GRow 4 w v ((List.range Y.length).map fun j => [.int .i64 (q + (sumO Y j : Int)), .int .i64 (q + (sumO Y j : Int) + 1), .int .i64 (q + (sumO Y j : Int) + 2), U j]) ∧ ∀ j, j < Y.length → GRow 8 w (U j) (marksFrm (q + (sumO Y j : Int) + 3) (Y.getD j default).fr.length)
theorem MkRow.below {w w' : World} {v : Value} {q : Int} {Y : List FO} (h : MkRow w v q Y) (hb : Below w.heap.size w w') : MkRow w' v q Y := by
  obtain ⟨U, g, r⟩ := h
  exact ⟨U, g.below hb, fun j hj => (r j hj).below hb⟩
theorem gfr_blk {w : World} {base : Nat} {v : Value} {L : List (List Value)} (h : GOwns 87 8 w base v L) {g : Nat} {c : Array Value} {fr : Nat × Nat} (hg : w.heap[g]? = some (.cells c 43 fr)) : ∀ k, v.ownBlock = some k → k ≠ g := by
  obtain ⟨zs, o, _⟩ := h
  intro k hk
  rcases o.2 with ⟨rfl, _⟩ | ⟨g', cap, cur, rfl, _, hh, _⟩
  · cases hk
  obtain rfl : g' = k := Option.some.inj hk
  exact bk_apart hh hg (by decide)
theorem markObsS_nil (q : Int) (ao : Option Addr) (cp : Nat) (w : World) :
    Calls Try.prog 12 #[.slice ao 0 cp, .int .i64 q] w fun e w' => e = .returned (.int .i64 q) ∧ w' = w := by
  go_enter Try.func12, Try.ntmps12
  go_wp2
  refine wp_loop_rounds 1 ?_
  rw [rounds_succ]
  go_wp2
  go_ret
  exact ⟨rfl, rfl⟩
set_option maxRecDepth 20000 in
set_option maxHeartbeats 4000000 in
theorem markObsS_core (q : Int) (Y : List FO) (U : Nat → Value) (n base g cap : Nat) (zs0 : List Value) (w : World) (en : n = Y.length) (hn : n ≤ 1048576) (hS : sumO Y n ≤ 1099511627776) (hq0 : 0 ≤ q) (hq1 : q ≤ 1099511627776) (hg : base ≤ g)
    (hown0 : w.ownsRow base 43 4 (.slice (some ⟨g, 0, none⟩) n cap) n zs0) (hl0 : zs0.length = n * 4) (hz0 : ∀ j, j < n → ∀ f, f < 4 → zs0[j * 4 + f]? = (FO.c (Y.getD j default) (U j))[f]?)
    (hi0 : ∀ j, j < n → GOwns 87 8 w base (U j) ((Y.getD j default).fr.map frC)) (hap : ∀ (i j : Nat), i < j → j < n → ∀ t, (U j).ownBlock = some t → some t ≠ (U i).ownBlock) :
    Calls Try.prog 12 #[.slice (some ⟨g, 0, none⟩) n cap, .int .i64 q] w fun e w' => e = .returned (.int .i64 (q + (sumO Y n : Int))) ∧
      (∃ zs : List Value, zs.length = n * 4 ∧ (∀ j : Nat, j < n → ∀ f, f < 4 → zs[j * 4 + f]? = ([.int .i64 (q + (sumO Y j : Int)), .int .i64 (q + (sumO Y j : Int) + 1), .int .i64 (q + (sumO Y j : Int) + 2), U j] : List Value)[f]?) ∧ w'.ownsRow base 43 4 (.slice (some ⟨g, 0, none⟩) n cap) n zs) ∧
      (∀ j, j < n → GOwns 87 8 w' base (U j) (marksFrm (q + (sumO Y j : Int) + 3) (Y.getD j default).fr.length)) ∧ Below base w w' ∧ w'.heap.size = w.heap.size := by
  have H0 : Hid _ := And.intro hown0 (And.intro hl0 (And.intro hz0 (And.intro hi0 (And.intro hap (And.intro en hS)))))
  clear hown0 hl0 hz0 hi0 hap en hS
  go_enter Try.func12, Try.ntmps12
  go_wp2
  go_loopg [1, 5] n (fun z s i wr => ∃ k : Nat, k ≤ n ∧ z = n - k ∧ i = .int .i64 k ∧ s = .int .i64 (q + (sumO Y k : Int)) ∧ ∃ zs : List Value, zs.length = n * 4 ∧ (∀ j : Nat, j < n → ∀ f, f < 4 → zs[j * 4 + f]? = (if j < k then [.int .i64 (q + (sumO Y j : Int)), .int .i64 (q + (sumO Y j : Int) + 1), .int .i64 (q + (sumO Y j : Int) + 2), U j] else FO.c (Y.getD j default) (U j))[f]?) ∧
      wr.ownsRow base 43 4 (.slice (some ⟨g, 0, none⟩) n cap) n zs ∧ (∀ j, j < n → (j < k → GOwns 87 8 wr base (U j) (marksFrm (q + (sumO Y j : Int) + 3) (Y.getD j default).fr.length)) ∧ (k ≤ j → GOwns 87 8 wr base (U j) ((Y.getD j default).fr.map frC))) ∧ Below base w wr ∧ wr.heap.size = w.heap.size)
  case atStart => exact ⟨0, Nat.zero_le _, by omega, rfl, by simp [sumO], zs0, H0.out.2.1, fun j hj f hf => by rw [if_neg (by omega)]; exact H0.out.2.2.1 j hj f hf, H0.out.1, fun j hj => ⟨fun h => by omega, fun _ => H0.out.2.2.2.1 j hj⟩, Below.refl _ _, rfl⟩
  case round =>
    obtain ⟨k, hk, hzz, rfl, rfl, zs, hl, hm, hown, hin, hb, hz⟩ := hrel
    by_cases hlt : k < n
    · have hgl : g < wr.heap.size := (hown.lt g rfl).2
      obtain ⟨uk, euk⟩ : ∃ u, u = U k := ⟨_, rfl⟩
      have hcz := hm k hlt
      rw [if_neg (by omega), ← euk] at hcz
      have hzB : zs[k * 4 + 3]? = some uk := hcz 3 (by omega)
      have ink := (hin k hlt).2 (Nat.le_refl _)
      rw [← euk] at ink
      obtain ⟨cur, hbo⟩ := own_blk4 hown
      have d0 : k * 4 < n * 4 := by omega
      obtain ⟨z0, hz0'⟩ : ∃ z, zs[k * 4]? = some z := ⟨zs[k * 4]'(by omega), by simp [hl, d0]⟩
      have r0 := hown.cellAt (k * 4) d0
      rw [hz0'] at r0
      have p0 := hown.frozenAt (k * 4)
      have d1 : k * 4 + 1 < n * 4 := by omega
      obtain ⟨z1, hz1'⟩ : ∃ z, zs[k * 4 + 1]? = some z := ⟨zs[k * 4 + 1]'(by omega), by simp [hl, d1]⟩
      have r1 := hown.cellAt (k * 4 + 1) d1
      rw [hz1'] at r1
      have p1 := hown.frozenAt (k * 4 + 1)
      have d2 : k * 4 + 2 < n * 4 := by omega
      obtain ⟨z2, hz2'⟩ : ∃ z, zs[k * 4 + 2]? = some z := ⟨zs[k * 4 + 2]'(by omega), by simp [hl, d2]⟩
      have r2 := hown.cellAt (k * 4 + 2) d2
      rw [hz2'] at r2
      have p2 := hown.frozenAt (k * 4 + 2)
      have d3 : k * 4 + 3 < n * 4 := by omega
      have r3 := hown.cellAt (k * 4 + 3) d3
      rw [hzB] at r3
      have hsk := sumO_mono Y (show k + 1 ≤ n by omega)
      have hs1 : sumO Y (k + 1) = sumO Y k + (3 + 5 * (Y.getD k default).fr.length) := rfl
      have hS := H0.out.2.2.2.2.2.2
      obtain ⟨s, es⟩ : ∃ s, s = q + (sumO Y k : Int) := ⟨_, rfl⟩
      obtain ⟨ln, eln⟩ : ∃ ln, ln = (Y.getD k default).fr.length := ⟨_, rfl⟩
      have hs0 : 0 ≤ s ∧ s + 3 + 5 * (ln : Int) ≤ 4398046511104 := by omega
      rw [← es]
      have w0 : IntKind.i64.wrap (s + 1) = s + 1 := by rw [IntKind.wrap_i64]; omega
      have w1 : IntKind.i64.wrap (s + 1 + 1) = s + 1 + 1 := by rw [IntKind.wrap_i64]; omega
      have w2 : IntKind.i64.wrap (s + 1 + 1 + 1) = s + 1 + 1 + 1 := by rw [IntKind.wrap_i64]; omega
      obtain ⟨wA, ewA⟩ : ∃ wA : World, wA = (((wr.setCell ⟨g, k * 4, none⟩ (.int .i64 s)).setCell ⟨g, k * 4 + 1, none⟩ (.int .i64 (s + 1))).setCell ⟨g, k * 4 + 2, none⟩ (.int .i64 (s + 1 + 1))) := ⟨_, rfl⟩
      obtain ⟨zA, ezA⟩ : ∃ zA : List Value, zA = (((zs.set (k * 4) (.int .i64 s)).set (k * 4 + 1) (.int .i64 (s + 1))).set (k * 4 + 2) (.int .i64 (s + 1 + 1))) := ⟨_, rfl⟩
      have ownA : wA.ownsRow base 43 4 (.slice (some ⟨g, 0, none⟩) n cap) n zA := by rw [ewA, ezA]; exact (((hown.stored (k * 4) (.int .i64 s)).1.stored (k * 4 + 1) (.int .i64 (s + 1))).1.stored (k * 4 + 2) (.int .i64 (s + 1 + 1))).1
      have innA : ∀ {L : List (List Value)} {u : Value}, GOwns 87 8 wr base u L → GOwns 87 8 wA base u L := fun {L u} t => by rw [ewA]; exact own_set_type (own_set_type (own_set_type t hbo (by decide)) (bk_set hbo (k * 4) (.int .i64 s)) (by decide)) (bk_set (bk_set hbo (k * 4) (.int .i64 s)) (k * 4 + 1) (.int .i64 (s + 1))) (by decide)
      have belA : Below base w wA := by rw [ewA]; exact (((hb.setCell (p := ⟨g, k * 4, none⟩) hg (.int .i64 s)).setCell (p := ⟨g, k * 4 + 1, none⟩) hg (.int .i64 (s + 1))).setCell (p := ⟨g, k * 4 + 2, none⟩) hg (.int .i64 (s + 1 + 1)))
      have szA : wA.heap.size = w.heap.size := by rw [ewA, ← hz]; simp [World.setCell]
      obtain ⟨cA, hbA⟩ := own_blk4 ownA
      have C := markFrameS (s + 1 + 1 + 1) base uk (Y.getD k default).fr wA (by omega) (by omega) (by omega) (innA ink)
      rw [← eln] at C
      obtain ⟨s2, es2⟩ : ∃ s2, s2 = s + 1 + 1 + 1 + 5 * (ln : Int) := ⟨_, rfl⟩
      rw [← es2] at C
      obtain ⟨ua, un, uc, euf, -⟩ := slice_form ink
      have H2 : Hid _ := And.intro es (And.intro es2 (And.intro eln (And.intro hl (And.intro hm (And.intro ownA (And.intro (fun {L} {u} => @innA L u) (And.intro belA (And.intro szA (And.intro hbA (And.intro hin (And.intro euk (And.intro ezA (And.intro C (And.intro ink (And.intro hs1 euf)))))))))))))))
      have hs2 : 0 ≤ s2 ∧ s2 ≤ 4398046511104 := by omega
      clear es es2 eln hl hm hown ownA innA belA szA hin C hb hz hcz ink hs1 hsk hS hbA hbo hz0' hz1' hz2' hzB ezA
      have HE : Hid _ := euk
      clear euk
      subst ewA
      subst euf
      go_wp2_with fail
      go_at_call 24
      refine (H2.out.2.2.2.2.2.2.2.2.2.2.2.2.2.1).mono ?_
      rintro e w3 ⟨rfl, o2, b2, z2, n2⟩
      have H3 : Hid _ := And.intro o2 (And.intro b2 (And.intro z2 n2))
      clear o2 b2 z2 n2
      go_wp2
      go_roundg (n - (k + 1))
      case measure => omega
      case rel =>
        obtain ⟨es, es2, eln, hl, hm, ownA, innA, belA, szA, hbA, hin, euk, ezA, C, ink, hs1, euf⟩ := H2.out
        obtain ⟨o2, b2, z2, n2⟩ := H3.out
        have own3 := n2.owns ownA (fun t ht e => by
          have ht2 : g = t := Option.some.inj ht
          exact gfr_blk (innA ink) hbA t e.symm ht2.symm)
        refine ⟨k + 1, by omega, rfl, by go_num, by rw [hs1, ← eln, es2, es]; congr 1; push_cast; omega, zA, by rw [ezA]; simp only [List.length_set]; exact hl, fun j hj f hf => ?_, own3, fun j hj => ?_, belA.trans b2, by rw [← szA, ← z2]⟩
        · rw [ezA]
          by_cases hjk : j = k
          · subst hjk
            have hc := hm j hj
            rw [if_neg (by omega)] at hc
            rw [if_pos (by omega), ← es]
            obtain rfl | rfl | rfl | rfl : f = 0 ∨ f = 1 ∨ f = 2 ∨ f = 3 := by omega
            · rw [show j * 4 + 0 = j * 4 from rfl, List.getElem?_set_ne (by omega), List.getElem?_set_ne (by omega), List.getElem?_set_self (by first | omega | (simp only [List.length_set]; omega))]; rfl
            · rw [List.getElem?_set_ne (by omega), List.getElem?_set_self (by first | omega | (simp only [List.length_set]; omega))]; rfl
            · rw [List.getElem?_set_self (by first | omega | (simp only [List.length_set]; omega))]; exact congrArg some (congrArg (Value.int .i64) (show s + 1 + 1 = s + 2 by omega))
            · rw [List.getElem?_set_ne (by omega), List.getElem?_set_ne (by omega), List.getElem?_set_ne (by omega)]; exact hc 3 (by omega)
          · rw [List.getElem?_set_ne (by omega), List.getElem?_set_ne (by omega), List.getElem?_set_ne (by omega)]
            have hc := hm j hj f hf
            by_cases hj2 : j < k
            · rw [if_pos hj2] at hc; rw [if_pos (by omega)]; exact hc
            · rw [if_neg hj2] at hc; rw [if_neg (by omega)]; exact hc
        · refine ⟨fun hjk => ?_, fun hkj => ?_⟩
          · by_cases e : j = k
            · have t := o2
              rw [e, ← eln, ← HE.out]
              rw [← es, show s + 3 = s + 1 + 1 + 1 by omega]
              exact t
            · exact GOwns.only n2 (innA ((hin j hj).1 (by omega))) (fun t ht e3 => H0.out.2.2.2.2.1 j k (by omega) hlt t (by rw [← HE.out]; exact e3.symm) ht.symm)
          · exact GOwns.only n2 (innA ((hin j hj).2 (by omega))) (fun t ht => by rw [HE.out]; exact H0.out.2.2.2.2.1 k j (by omega) hj t ht)
    · obtain rfl : k = n := by omega
      have HR : Hid _ := And.intro hl (And.intro hm (And.intro hown (And.intro hin (And.intro hb hz))))
      clear hl hm hown hin hb hz
      go_wp2
      go_ret
      obtain ⟨r1, r2, r3, r4, r5, r6⟩ := HR.out
      exact ⟨rfl, ⟨zs, r1, fun j hj f hf => by have t := r2 j hj f hf; rw [if_pos hj] at t; exact t, r3⟩, fun j hj => (r4 j hj).1 hj, r5, r6⟩
theorem markObsS (q : Int) (base : Nat) (v : Value) (Y : List FO) (w : World) (hn : Y.length ≤ 1048576) (hS : sumO Y Y.length ≤ 1099511627776) (hq0 : 0 ≤ q) (hq1 : q ≤ 1099511627776) (h : NOwns w base v Y) :
    Calls Try.prog 12 #[v, .int .i64 q] w fun e w' => e = .returned (.int .i64 (q + (sumO Y Y.length : Int))) ∧ MkRow w' v q Y ∧ Below base w w' ∧ w'.heap.size = w.heap.size := by
  obtain ⟨U, ⟨zs, ho, hz⟩, hi, hap⟩ := h
  rw [zl_length] at ho hz
  have hl : zs.length = Y.length * 4 := ho.1
  have hz' : ∀ j, j < Y.length → ∀ f, f < 4 → zs[j * 4 + f]? = (FO.c (Y.getD j default) (U j))[f]? := fun j hj f hf => by rw [← zl_at FO.c Y U j hj]; exact hz j hj f hf
  rcases ho.2 with ⟨rfl, h0⟩ | ⟨g, cap, cur, rfl, hg, hh, r⟩
  · have hR : Y = [] := List.eq_nil_of_length_eq_zero h0
    subst hR
    refine (markObsS_nil q _ _ w).mono ?_
    rintro e w' ⟨rfl, rfl⟩
    exact ⟨by simp [sumO], ⟨U, Or.inl ⟨rfl, _, _, rfl⟩, fun j hj => by simp at hj⟩, Below.refl _ _, rfl⟩
  · refine (markObsS_core q Y U Y.length base g cap zs w rfl hn hS hq0 hq1 hg ho hl hz' hi hap).mono ?_
    rintro e w' ⟨rfl, ⟨ys, hy0, hy, ho2⟩, hi2, hb, hz2⟩
    refine ⟨rfl, ⟨U, GOwns.row (T := 43) (base := base) ⟨ys, by rw [List.length_map, List.length_range]; exact ho2, fun j hj f hf => ?_⟩, fun j hj => (hi2 j hj).row⟩, hb, hz2⟩
    rw [List.length_map, List.length_range] at hj
    rw [hy j hj f hf]
    simp [List.getD, hj]
theorem heldObsS_nil (q : Int) (ao : Option Addr) (cp : Nat) (w : World) :
    Calls Try.prog 13 #[.slice ao 0 cp, .int .i64 q] w fun e w' => e = .returned (.int .i64 q) ∧ w' = w := by
  go_enter Try.func13, Try.ntmps13
  go_wp2
  refine wp_loop_rounds 1 ?_
  rw [rounds_succ]
  go_wp2
  go_ret
  exact ⟨rfl, rfl⟩
set_option maxRecDepth 20000 in
set_option maxHeartbeats 4000000 in
theorem heldObsS_core (q : Int) (Y : List FO) (U : Nat → Value) (n : Nat) (b off ca : Nat) (w : World) (en : n = Y.length) (hn : n ≤ 1048576) (hS : sumO Y n ≤ 1099511627776) (hq0 : 0 ≤ q) (hq1 : q ≤ 1099511627776)
    (hc : ∀ j : Nat, j < n → ∀ f, f < 4 → w.cell? ⟨b, off + (j * 4 + f), none⟩ = ([.int .i64 (q + (sumO Y j : Int)), .int .i64 (q + (sumO Y j : Int) + 1), .int .i64 (q + (sumO Y j : Int) + 2), U j] : List Value)[f]?) (hi : ∀ j, j < n → GRow 8 w (U j) (marksFrm (q + (sumO Y j : Int) + 3) (Y.getD j default).fr.length)) :
    Calls Try.prog 13 #[.slice (some ⟨b, off, none⟩) n ca, .int .i64 q] w fun e w' => e = .returned (.int .i64 (q + (sumO Y n : Int))) ∧ w' = w := by
  have HC : Hid _ := And.intro hc (And.intro hi hS)
  clear hc hi hS en
  go_enter Try.func13, Try.ntmps13
  go_wp2
  go_loopg [1, 5] n (fun z s i wr => ∃ k : Nat, k ≤ n ∧ z = n - k ∧ i = .int .i64 k ∧ s = .int .i64 (q + (sumO Y k : Int)) ∧ wr = w)
  case atStart => exact ⟨0, Nat.zero_le _, by omega, rfl, by simp [sumO], rfl⟩
  case round =>
    obtain ⟨k, hk, hzz, rfl, rfl, rfl⟩ := hrel
    by_cases hlt : k < n
    · have hck := HC.out.1 k hlt
      have hik := HC.out.2.1 k hlt
      have hsk := sumO_mono Y (show k + 1 ≤ n by omega)
      have hs1 : sumO Y (k + 1) = sumO Y k + (3 + 5 * (Y.getD k default).fr.length) := rfl
      have hS := HC.out.2.2
      obtain ⟨s, es⟩ : ∃ s, s = q + (sumO Y k : Int) := ⟨_, rfl⟩
      obtain ⟨ln, eln⟩ : ∃ ln, ln = (Y.getD k default).fr.length := ⟨_, rfl⟩
      rw [← es] at hck hik ⊢
      rw [← eln] at hik
      have hs0 : 0 ≤ s ∧ s + 3 + 5 * (ln : Int) ≤ 4398046511104 := by omega
      have C := heldFrameS (s + 3) ln (U k) wr hik (by omega) (by omega) (by omega)
      rw [show s + 3 = s + 1 + 1 + 1 by omega] at C
      obtain ⟨a1, p1, eu⟩ := hik.form
      rw [marksFrm_length] at eu
      have c0 : wr.cell? ⟨b, off + k * 4, none⟩ = some (.int .i64 s) := by have t := hck 0 (by omega); rw [show (off + (k * 4 + 0)) = off + k * 4 by omega] at t; rw [t]; rfl
      have c1 : wr.cell? ⟨b, off + k * 4 + 1, none⟩ = some (.int .i64 (s + 1)) := by have t := hck 1 (by omega); rw [show (off + (k * 4 + 1)) = off + k * 4 + 1 by omega] at t; rw [t]; rfl
      have c2 : wr.cell? ⟨b, off + k * 4 + 2, none⟩ = some (.int .i64 (s + 1 + 1)) := by have t := hck 2 (by omega); rw [show (off + (k * 4 + 2)) = off + k * 4 + 2 by omega] at t; rw [t]; exact congrArg some (congrArg (Value.int .i64) (show s + 2 = s + 1 + 1 by omega))
      have c3 : wr.cell? ⟨b, off + k * 4 + 3, none⟩ = some (.slice a1 ln p1) := by have t := hck 3 (by omega); rw [show (off + (k * 4 + 3)) = off + k * 4 + 3 by omega] at t; rw [t]; exact congrArg some eu
      rw [eu] at C
      obtain ⟨s2, es2⟩ : ∃ s2, s2 = s + 1 + 1 + 1 + 5 * (ln : Int) := ⟨_, rfl⟩
      rw [← es2] at C
      have h0 : (s != s) = false := by simp
      have h1 : (s + 1 != s + 1) = false := by simp
      have h2 : (s + 1 + 1 != s + 1 + 1) = false := by simp
      have w0 : IntKind.i64.wrap (s + 1) = s + 1 := by rw [IntKind.wrap_i64]; omega
      have w1 : IntKind.i64.wrap (s + 1 + 1) = s + 1 + 1 := by rw [IntKind.wrap_i64]; omega
      have w2 : IntKind.i64.wrap (s + 1 + 1 + 1) = s + 1 + 1 + 1 := by rw [IntKind.wrap_i64]; omega
      have hs2 : ¬ s2 < 0 := by omega
      have ES : Hid _ := And.intro es (And.intro es2 (And.intro eln (And.intro hs1 C)))
      clear es es2 eln hs1 C hck hik hS hsk eu
      go_wp2_with (first
        | (go_at_call 25; refine (ES.out.2.2.2.2).mono ?_; rintro e wz ⟨rfl, hz⟩; obtain rfl : wr = wz := hz.symm; clear hz))
      go_roundg (n - (k + 1))
      case measure => omega
      case rel => exact ⟨k + 1, by omega, rfl, by go_num, by rw [ES.out.2.2.2.1, ES.out.2.1, ES.out.1, ES.out.2.2.1]; congr 1; push_cast; omega, rfl⟩
    · go_wp2
      go_ret
      obtain rfl : k = n := by omega
      exact ⟨rfl, rfl⟩
theorem heldObsS (q : Int) (Y : List FO) (v : Value) (w : World) (h : MkRow w v q Y) (hn : Y.length ≤ 1048576) (hS : sumO Y Y.length ≤ 1099511627776) (hq0 : 0 ≤ q) (hq1 : q ≤ 1099511627776) :
    Calls Try.prog 13 #[v, .int .i64 q] w fun e w' => e = .returned (.int .i64 (q + (sumO Y Y.length : Int))) ∧ w' = w := by
  obtain ⟨U, g, r⟩ := h
  by_cases h0 : 0 < Y.length
  · obtain ⟨b, off, ca, rfl, _, hc⟩ := g.at' (by rw [List.length_map, List.length_range]; exact h0)
    rw [List.length_map, List.length_range] at hc ⊢
    exact heldObsS_core q Y U Y.length b off ca w rfl hn hS hq0 hq1 (fun j hj f hf => (hc j hj f hf).trans (by simp [List.getD, hj])) r
  · obtain rfl : Y = [] := List.eq_nil_of_length_eq_zero (by omega)
    obtain ⟨ao, cp, rfl⟩ := g.form
    have := heldObsS_nil q ao cp w
    simpa [sumO] using this
end Go.Proofs.Ytcoakpmfappnlaa

namespace Go.Proofs.Ytcoakpmfappnlaa
open Go.RowKit
set_option linter.unusedVariables false

set_option maxRecDepth 20000 in
set_option maxHeartbeats 4000000 in
theorem toSetup (F : FS) (w : World) : Calls Try.prog 6 #[fsV F] w fun e w' => e = .returned (fsV F) ∧ Below w.heap.size w w' := by
  unfold fsV
  go_enter Try.func6, Try.ntmps6
  go_wp2
  exact bodyPost_ret (v := .agg #[.bool F.sv, .int .i64 F.cw, .int .i64 F.sw, .int .i64 F.tw, .int .i64 F.ow, .int .i64 F.pc, .int .i64 F.ps, .int .i64 F.pt, .int .i64 F.po]) (by simp [results, Try.results6, go_sem]) rfl ⟨rfl, (((Below.refl _ _).alloc (Nat.le_refl _) _).alloc (by simp) _).alloc (by simp; omega) _⟩
theorem gop_blk {T : TypeId} {K : Nat} {w : World} {base : Nat} {v : Value} {L : List (List Value)} (h : GOwns T K w base v L) : ∀ k, v.ownBlock = some k → ∃ c fr, w.heap[k]? = some (.cells c T fr) := by
  obtain ⟨zs, o, _⟩ := h
  intro k hk
  rcases o.2 with ⟨rfl, _⟩ | ⟨g', cap, cur, rfl, _, hh, _⟩
  · cases hk
  obtain rfl : g' = k := Option.some.inj hk
  exact ⟨_, _, hh⟩
/-- What is marked in a row of operations leaves the answers be. -/
theorem NOwns.only {w w' : World} {base b : Nat} {v x : Value} {Y : List FO} {L : List (List Value)} (h : NOwns w base v Y) (hx : GOwns 46 4 w b x L) (ho : Only x.ownBlock w w') : NOwns w' base v Y := by
  have ap : ∀ {T : TypeId} {K b' : Nat} {u : Value} {M : List (List Value)}, T ≠ 46 → GOwns T K w b' u M → ∀ k, u.ownBlock = some k → some k ≠ x.ownBlock := fun {T K b' u M} hT hu k hk e => by
    obtain ⟨c, fr, h1⟩ := gop_blk hu k hk
    obtain ⟨c', fr', h2⟩ := gop_blk hx k e.symm
    exact bk_apart h1 h2 hT rfl
  obtain ⟨U, g, r, a⟩ := h
  exact ⟨U, GOwns.only ho g (ap (by decide) g), fun j hj => GOwns.only ho (r j hj) (ap (by decide) (r j hj)), a⟩
theorem fstep_fr (F : FS) (m : FX) (k id n : Int) (o : Bool) : (fstep F m k id n o).2.fr.length ≤ 2 := by
  unfold fstep
  split
  · unfold fopen; split <;> simp
  split
  · unfold fsend; split <;> (try split) <;> simp
  split
  · simp [cO]
  split
  · unfold fread
    split
    · split
      · simp
      · dsimp only
        rw [List.length_append]
        split <;> split <;> simp
    · simp
  split
  · unfold fend; split <;> (try split) <;> simp
  split
  · simp [cO]
  split
  · simp [cO]
  split
  · simp [cO]
  · simp
theorem flY_len (F : FS) (R : List SFlowOp) : (flY F R).length ≤ 400 := by
  unfold flY
  split
  · simp
  · rename_i h
    rw [List.length_map, List.length_range]
    omega
theorem flY_fr (F : FS) (R : List SFlowOp) (j : Nat) : ((flY F R).getD j default).fr.length ≤ 2 := by
  unfold flY
  split
  · simp [List.getD]; decide
  · by_cases hj : j < R.length
    · have e : ((List.range R.length).map (fobsAt F R)).getD j default = fobsAt F R j := by simp [List.getD, hj]
      rw [e]
      exact fstep_fr _ _ _ _ _ _
    · have e : ((List.range R.length).map (fobsAt F R)).getD j default = default := by simp [List.getD, hj]
      rw [e]; decide
theorem sumO_le (Y : List FO) (h : ∀ j, (Y.getD j default).fr.length ≤ 2) : ∀ k, sumO Y k ≤ 13 * k
  | 0 => Nat.le_refl _
  | k + 1 => by
    have := sumO_le Y h k
    have := h k
    show sumO Y k + (3 + 5 * _) ≤ _
    omega
set_option maxRecDepth 20000 in
set_option maxHeartbeats 4000000 in
theorem fnExactFlowRun_of (F : FS) (v : Value) (R : List SFlowOp) (sm : R.length ≤ maxLen) (wo : World) (row0 : GRow 4 wo v (SFlowOp.L R)) (both : R.length ≤ 1048576 → ∃ (Y : List FO) (c : Int), (Y.length ≤ 1048576 ∧ (∀ j, (Y.getD j default).fr.length ≤ 1048576) ∧ sumO Y Y.length ≤ 1099511627776) ∧ (∀ v w, GRow 4 w v (SFlowOp.L R) → Calls Try.prog 5 #[fsV F, v] w fun e w' => ∃ r, e = .returned (.tuple #[r, .int .i64 c]) ∧ NOwns w' w.heap.size r Y ∧ Below w.heap.size w w') ∧ (∀ v w, GRow 4 w v (SFlowOp.L R) → Calls Try.prog 8 #[fsV F, v] w fun e w' => ∃ r, e = .returned (.tuple #[r, .int .i64 c]) ∧ NOwns w' w.heap.size r Y ∧ Below w.heap.size w w')) :
    Calls Try.prog 3 #[fsV F, v] wo fun e w' => e = .returned (.bool true) ∧ Below wo.heap.size wo w' := by
  obtain ⟨w, ew⟩ : ∃ w, w = wo.alloc (.cells #[.bool F.sv, .int .i64 F.cw, .int .i64 F.sw, .int .i64 F.tw, .int .i64 F.ow, .int .i64 F.pc, .int .i64 F.ps, .int .i64 F.pt, .int .i64 F.po] 23) := ⟨_, rfl⟩
  have hB : Below wo.heap.size wo w := by rw [ew]; exact (Below.refl _ _).alloc (Nat.le_refl _) _
  have row : GRow 4 w v (SFlowOp.L R) := row0.below hB
  have hbx : w.heap[wo.heap.size]? = some (.cells #[.bool F.sv, .int .i64 F.cw, .int .i64 F.sw, .int .i64 F.tw, .int .i64 F.ow, .int .i64 F.pc, .int .i64 F.ps, .int .i64 F.pt, .int .i64 F.po] 23 (0, 0)) := by rw [ew]; exact heap_alloc_new _ _
  have LD : ∀ W : World, Below w.heap.size w W → W.cell? ⟨wo.heap.size, 0, none⟩ = some (.bool F.sv) ∧ W.cell? ⟨wo.heap.size, 1, none⟩ = some (.int .i64 F.cw) ∧ W.cell? ⟨wo.heap.size, 2, none⟩ = some (.int .i64 F.sw) ∧ W.cell? ⟨wo.heap.size, 3, none⟩ = some (.int .i64 F.tw) ∧ W.cell? ⟨wo.heap.size, 4, none⟩ = some (.int .i64 F.ow) ∧ W.cell? ⟨wo.heap.size, 5, none⟩ = some (.int .i64 F.pc) ∧ W.cell? ⟨wo.heap.size, 6, none⟩ = some (.int .i64 F.ps) ∧ W.cell? ⟨wo.heap.size, 7, none⟩ = some (.int .i64 F.pt) ∧ W.cell? ⟨wo.heap.size, 8, none⟩ = some (.int .i64 F.po) := fun W hb => by
    have k := (hb.block _ (Array.getElem?_eq_some_iff.1 hbx).1).trans hbx
    exact ⟨(bk_cell k 0).trans rfl, (bk_cell k 1).trans rfl, (bk_cell k 2).trans rfl, (bk_cell k 3).trans rfl, (bk_cell k 4).trans rfl, (bk_cell k 5).trans rfl, (bk_cell k 6).trans rfl, (bk_cell k 7).trans rfl, (bk_cell k 8).trans rfl⟩
  have EW : Hid _ := ew
  have HB : Hid _ := And.intro hB LD
  clear ew hB row0 hbx LD
  by_cases hf : R.length ≤ 1048576
  case neg =>
    have C := fun ao cp => szFlowOp_over ao R.length cp 1048576 w (by decide) (Nat.le_trans sm (by decide)) (by omega)
    obtain ⟨ao, cp, rfl⟩ := row.form
    rw [List.length_map] at *
    replace C := C ao cp
    have HC : Hid _ := And.intro C True.intro
    clear C row sm both hf
    unfold fsV
    go_enter Try.func3, Try.ntmps3
    go_wp2_with fail
    rw [← EW.out]
    go_at_call 4
    refine HC.out.1.mono ?_
    rintro e w1 ⟨rfl, hw⟩
    subst w1
    go_wp2
    go_ret
    exact ⟨rfl, HB.out.1⟩
  case pos =>
    obtain ⟨Y, c, hY, hS, hI⟩ := both hf
    obtain ⟨ao, cp, ev⟩ := row.form
    rw [List.length_map] at ev
    have C := szFlowOp_fit ao R.length cp 1048576 w (by decide) (by omega)
    obtain ⟨lt, el⟩ : ∃ lt : Int, lt = 1048576 - (R.length : Int) := ⟨_, rfl⟩
    rw [← el] at C
    have hl : ¬ (lt < 0) := by omega
    have hcc : (c != c) = false := by simp
    have SU : Hid _ := fun W => toSetup F W
    have HH : Hid _ := And.intro row (And.intro hf (And.intro hS (And.intro hI (And.intro C hY))))
    obtain ⟨K, eK⟩ : ∃ K : Int, K = 1 + 4 * (R.length : Int) := ⟨_, rfl⟩
    obtain ⟨M, eM⟩ : ∃ M : Int, M = 1 + (sumO Y Y.length : Int) := ⟨_, rfl⟩
    have hK : ¬ (K < 0) := by omega
    have hM : ¬ (M < 0) := by omega
    have hMM : (M != M) = false := by simp
    have EK : Hid _ := And.intro eK eM
    subst ev
    clear row sm both hf hS hI C el hY eK eM
    unfold fsV at SU HH ⊢
    go_enter Try.func3, Try.ntmps3
    go_wp2_with fail
    rw [← EW.out]
    go_at_call 4
    refine HH.out.2.2.2.2.1.mono ?_
    rintro e w0 ⟨rfl, hw⟩
    subst w0
    obtain ⟨l0, l1, l2, l3, l4, l5, l6, l7, l8⟩ := HB.out.2 w (Below.refl _ _)
    go_wp2_with fail
    go_at_call 6
    refine (SU.out _).mono ?_
    rintro e wa ⟨rfl, ba⟩
    clear l0 l1 l2 l3 l4 l5 l6 l7 l8
    have BA : Hid _ := ba
    clear ba
    go_wp2_with fail
    go_at_call 7
    refine (toFlowOpS _ R wa (HH.out.1.below BA.out) HH.out.2.1).mono ?_
    rintro e w1 ⟨r1, rfl, o1, b1⟩
    have B1 : Hid _ := And.intro (BA.out.trans (b1.mono BA.out.size)) o1.row
    clear b1 o1
    go_wp2_with fail
    go_at_call 5
    refine (HH.out.2.2.1 _ _ B1.out.2).mono ?_
    rintro e w2 ⟨rS, rfl, oS, b2⟩
    have B2 : Hid _ := And.intro (B1.out.1.trans (b2.mono B1.out.1.size)) oS.row
    clear b2 oS
    go_wp2_with fail
    go_at_call 7
    refine (toFlowOpS _ R w2 (HH.out.1.below B2.out.1) HH.out.2.1).mono ?_
    rintro e w3 ⟨x0, rfl, oX, b3⟩
    have B3 : Hid _ := And.intro (B2.out.1.trans (b3.mono B2.out.1.size)) (And.intro oX b3)
    clear b3 oX
    obtain ⟨l0, l1, l2, l3, l4, l5, l6, l7, l8⟩ := HB.out.2 w3 B3.out.1
    go_wp2_with fail
    go_at_call 6
    refine (SU.out _).mono ?_
    rintro e wb ⟨rfl, bb⟩
    clear l0 l1 l2 l3 l4 l5 l6 l7 l8
    have BB : Hid _ := And.intro (B3.out.2.2.trans (bb.mono B3.out.2.2.size)) (B3.out.2.1.below bb)
    clear bb
    go_wp2_with fail
    go_at_call 8
    refine (HH.out.2.2.2.1 _ _ BB.out.2.row).mono ?_
    rintro e w4 ⟨g0, rfl, oG, b4⟩
    have B4 : Hid _ := And.intro (BB.out.1.trans (b4.mono BB.out.1.size)) (And.intro oG (BB.out.2.below b4))
    clear b4 oG
    go_wp2_with fail
    go_at_call 9
    refine (eqObsS _ _ Y w4 B4.out.2.1.row (B2.out.2.below B4.out.1) HH.out.2.2.2.2.2.1 HH.out.2.2.2.2.2.2.1).mono ?_
    rintro e w5 ⟨rfl, b5⟩
    have B5 : Hid _ := And.intro (B4.out.1.trans (b5.mono B4.out.1.size)) (And.intro (B4.out.2.1.below b5) (B4.out.2.2.below b5))
    clear b5
    go_wp2_with fail
    go_at_call 7
    refine (toFlowOpS _ R w5 (HH.out.1.below (B2.out.1.trans (B5.out.1.mono B2.out.1.size))) HH.out.2.1).mono ?_
    rintro e w6 ⟨r6, rfl, o6, b6⟩
    have B6 : Hid _ := And.intro (B5.out.1.trans (b6.mono B5.out.1.size)) (And.intro (B5.out.2.1.below b6) (And.intro (B5.out.2.2.below b6) o6.row))
    clear b6 o6
    go_wp2_with fail
    go_at_call 10
    refine (eqFlowOpS _ _ R w6 B6.out.2.2.1.row B6.out.2.2.2 HH.out.2.1).mono ?_
    rintro e w7 ⟨rfl, b7⟩
    have B7 : Hid _ := And.intro (B6.out.1.trans (b7.mono B6.out.1.size)) (And.intro (B6.out.2.1.below b7) (B6.out.2.2.1.below b7))
    clear b7
    go_wp2_with fail
    go_at_call 11
    refine (markFlowOpS 1 w2.heap.size _ (SFlowOp.L R) w7 (by rw [List.length_map]; exact Nat.le_trans HH.out.2.1 (by decide)) (by decide) (by decide) B7.out.2.2).mono ?_
    rw [List.length_map]
    rintro e w8 ⟨rfl, oX8, b8, z8, n8⟩
    have B8 : Hid _ := And.intro (B7.out.1.trans b8) (NOwns.only B7.out.2.1 B7.out.2.2 n8)
    clear b8 oX8 z8 n8
    rw [← EK.out.1]
    go_wp2_with fail
    go_at_call 9
    refine (eqObsS _ _ Y w8 B8.out.2.row (B2.out.2.below B8.out.1) HH.out.2.2.2.2.2.1 HH.out.2.2.2.2.2.2.1).mono ?_
    rintro e w9 ⟨rfl, b9⟩
    have B9 : Hid _ := And.intro (B8.out.1.trans (b9.mono B8.out.1.size)) (B8.out.2.below b9)
    clear b9
    go_wp2_with fail
    go_at_call 12
    refine (markObsS 1 wb.heap.size _ Y w9 HH.out.2.2.2.2.2.1 HH.out.2.2.2.2.2.2.2 (by decide) (by decide) B9.out.2).mono ?_
    rintro e w10 ⟨rfl, oG10, b10, z10⟩
    have B10 : Hid _ := And.intro (B9.out.1.trans (b10.mono BB.out.1.size)) oG10
    clear b10 z10 oG10
    rw [← EK.out.2]
    go_wp2_with fail
    go_at_call 13
    refine (heldObsS 1 Y _ w10 B10.out.2 HH.out.2.2.2.2.2.1 HH.out.2.2.2.2.2.2.2 (by decide) (by decide)).mono ?_
    rintro e w11 ⟨rfl, hw⟩
    subst w11
    rw [← EK.out.2]
    obtain ⟨l0, l1, l2, l3, l4, l5, l6, l7, l8⟩ := HB.out.2 w10 (B2.out.1.trans (B10.out.1.mono B2.out.1.size))
    go_wp2_with fail
    go_at_call 6
    refine (SU.out _).mono ?_
    rintro e wc ⟨rfl, bc⟩
    clear l0 l1 l2 l3 l4 l5 l6 l7 l8
    have BC : Hid _ := And.intro (B10.out.1.trans (bc.mono B10.out.1.size)) (B10.out.2.below bc)
    clear bc
    go_wp2_with fail
    go_at_call 7
    refine (toFlowOpS _ R wc (HH.out.1.below (B2.out.1.trans (BC.out.1.mono B2.out.1.size))) HH.out.2.1).mono ?_
    rintro e w12 ⟨r12, rfl, o12, b12⟩
    have B12 : Hid _ := And.intro (BC.out.1.trans (b12.mono BC.out.1.size)) (And.intro (BC.out.2.below b12) o12.row)
    clear b12 o12
    go_wp2_with fail
    go_at_call 8
    refine (HH.out.2.2.2.1 _ _ B12.out.2.2).mono ?_
    rintro e w13 ⟨h0, rfl, oH, b13⟩
    have B13 : Hid _ := And.intro (B12.out.1.trans (b13.mono B12.out.1.size)) (And.intro (B12.out.2.1.below b13) oH.row)
    clear b13 oH
    go_wp2_with fail
    go_at_call 9
    refine (eqObsS _ _ Y w13 B13.out.2.2 (B2.out.2.below B13.out.1) HH.out.2.2.2.2.2.1 HH.out.2.2.2.2.2.2.1).mono ?_
    rintro e w14 ⟨rfl, b14⟩
    have B14 : Hid _ := And.intro (B13.out.1.trans (b14.mono B13.out.1.size)) (B13.out.2.1.below b14)
    clear b14
    go_wp2_with fail
    go_at_call 13
    refine (heldObsS 1 Y _ w14 B14.out.2 HH.out.2.2.2.2.2.1 HH.out.2.2.2.2.2.2.2 (by decide) (by decide)).mono ?_
    rintro e w15 ⟨rfl, hw⟩
    subst w15
    rw [← EK.out.2]
    go_wp2
    go_ret
    exact ⟨rfl, HB.out.1.trans ((B2.out.1.trans (B14.out.1.mono B2.out.1.size)).mono HB.out.1.size)⟩
theorem fnExactFlowRun_law (F : FS) (v : Value) (R : List SFlowOp) (sm : R.length ≤ maxLen) (hof : ∀ j, (Lit.int .i64 (R.getD j default).f1).wf = true) (w : World) (row : GRow 4 w v (SFlowOp.L R)) (impl : ∀ v w, GRow 4 w v (SFlowOp.L R) → R.length ≤ 1048576 → Calls Try.prog 8 #[fsV F, v] w fun e w' => ∃ r, e = .returned (.tuple #[r, .int .i64 (flC F R)]) ∧ NOwns w' w.heap.size r (flY F R) ∧ Below w.heap.size w w') (spec : ∀ v w, GRow 4 w v (SFlowOp.L R) → R.length ≤ 1048576 → Calls Try.prog 5 #[fsV F, v] w fun e w' => ∃ r, e = .returned (.tuple #[r, .int .i64 (flC F R)]) ∧ NOwns w' w.heap.size r (flY F R) ∧ Below w.heap.size w w') :
    Calls Try.prog 3 #[fsV F, v] w fun e w' => e = .returned (.bool true) ∧ Below w.heap.size w w' := by
  refine fnExactFlowRun_of F v R sm w row (fun hf => ⟨flY F R, flC F R, ⟨?_, ?_, ?_⟩, fun v w r => spec v w r hf, fun v w r => impl v w r hf⟩)
  · have := flY_len F R; omega
  · intro j; have := flY_fr F R j; omega
  · have := sumO_le (flY F R) (flY_fr F R) (flY F R).length
    have := flY_len F R
    omega
end Go.Proofs.Ytcoakpmfappnlaa
