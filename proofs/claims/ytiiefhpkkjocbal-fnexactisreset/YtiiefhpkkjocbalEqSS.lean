import Derived.Test.YtiiefhpkkjocbalSS
namespace Go.Proofs.Ytiiefhpkkjocbal
open Go.RowKit
set_option linter.unusedVariables false

theorem eqSS_nil (va vb : Value) (w : World) (ha : SRow w va []) (hb : SRow w vb []) :
    Calls Try.prog 18 #[va, vb] w fun e w' => e = .returned (.bool true) ∧ Below w.heap.size w w' := by
  obtain ⟨ao, ca, rfl⟩ := ha.form
  obtain ⟨bo, cb, rfl⟩ := hb.form
  clear ha hb
  go_enter Try.func18, Try.ntmps18
  go_wp2_with fail
  refine wp_loop_rounds 1 ?_
  rw [rounds_succ]
  go_wp2
  go_ret
  exact ⟨rfl, Below.refl _ _⟩
set_option maxRecDepth 20000 in
set_option maxHeartbeats 2000000 in
theorem eqSS_core (L : List (List Int)) (m b off ca b' off' cb : Nat) (w : World) (em : m = L.length) (hm : m ≤ 1048576) (hs : ∀ j, (L.getD j []).length ≤ 1048576) (hbl : b < w.heap.size) (hbl' : b' < w.heap.size)
    (hc : ∀ j, j < m → ∃ u, w.cell? ⟨b, off + j, none⟩ = some u ∧ Row w .u8 u (L.getD j [])) (hc' : ∀ j, j < m → ∃ u, w.cell? ⟨b', off' + j, none⟩ = some u ∧ Row w .u8 u (L.getD j [])) :
    Calls Try.prog 18 #[.slice (some ⟨b, off, none⟩) m ca, .slice (some ⟨b', off', none⟩) m cb] w fun e w' => e = .returned (.bool true) ∧ Below w.heap.size w w' := by
  have HH : Hid _ := And.intro hc (And.intro hc' (And.intro hs em))
  clear hc hc' hs em
  have hmm : ((m : Int) != (m : Int)) = false := by simp
  go_enter Try.func18, Try.ntmps18
  go_wp2_with fail
  go_loopg [5] m (fun q i wr => ∃ k : Nat, k ≤ m ∧ q = m - k ∧ i = .int .i64 (k : Int) ∧ Below w.heap.size w wr)
  case atStart => exact ⟨0, by omega, by omega, rfl, Below.refl _ _⟩
  case round =>
    obtain ⟨k, hk, hq, rfl, bw⟩ := hrel
    by_cases hlt : k < m
    · obtain ⟨u, hu, ru⟩ := HH.out.1 k hlt
      obtain ⟨u', hu', ru'⟩ := HH.out.2.1 k hlt
      have bd : Below w.heap.size w wr.drew := below_drewN bw 1
      have c0 := (bd.cell (p := ⟨b, off + k, none⟩) hbl).trans hu
      have c1 := (bd.cell (p := ⟨b', off' + k, none⟩) hbl').trans hu'
      have EQ := eqBytes_same u u' (L.getD k []) wr.drew (ru.below bd) (ru'.below bd) (by have := HH.out.2.2.1 k; omega)
      have H4 : Hid _ := And.intro EQ bd
      clear hu ru hu' ru' EQ bd
      go_upto_region 6 with fail
      go_cut [26] from 11 to 26 (fun cv wx => cv = .bool false ∧ Below w.heap.size w wx)
      case first =>
        go_region_with (go_at_call 9; refine H4.out.1.mono ?_; rintro e wz ⟨rfl, mz, hz⟩)
        all_goals (go_wp2_with fail; go_meet; exact ⟨rfl, below_drewN bw _⟩)
      case rest =>
      obtain ⟨rfl, bc⟩ := hcut
      have H5 : Hid _ := And.intro bc True.intro
      clear bc bw c0 c1
      go_wp2
      go_roundg (m - (k + 1))
      case measure => omega
      case rel => exact ⟨k + 1, by omega, rfl, by go_num, H5.out.1⟩
    · have H4 : Hid _ := And.intro bw True.intro
      clear bw
      go_wp2
      go_ret
      exact ⟨rfl, H4.out.1⟩
theorem eqSS_same (va vb : Value) (L : List (List Int)) (w : World) (ha : SRow w va L) (hb : SRow w vb L) (hm : L.length ≤ 1048576) (hs : ∀ j, (L.getD j []).length ≤ 1048576) :
    Calls Try.prog 18 #[va, vb] w fun e w' => e = .returned (.bool true) ∧ Below w.heap.size w w' := by
  by_cases h0 : 0 < L.length
  · obtain ⟨b, off, ca, rfl, hbl, hc⟩ := ha.at' h0
    obtain ⟨b', off', cb, rfl, hbl', hc'⟩ := hb.at' h0
    exact eqSS_core L _ b off ca b' off' cb w rfl hm hs hbl hbl' hc hc'
  · obtain rfl : L = [] := List.eq_nil_of_length_eq_zero (by omega)
    exact eqSS_nil va vb w ha hb
end Go.Proofs.Ytiiefhpkkjocbal
