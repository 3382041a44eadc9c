import Derived.Test.YtdkonhjbcgnfhaaDoorFbSendObsB
import Derived.Test.YtdkonhjbcgnfhaaDoorFlatB
import Derived.Test.YtdkonhjbcgnfhaaDoorToBytes
import Derived.Test.YtdkonhjbcgnfhaaDoorEqBytes
import Derived.Laws.Rows
namespace Go.Proofs.YtdkonhjbcgnfhaaDoor
open Go.RowKit
set_option linter.unusedVariables false

theorem infoSendObsSize : (Tryd.prog.info? 43).map (·.size) = some 7 := by kernel_rfl
set_option maxHeartbeats 1000000 in
theorem eqSendObs (x0 : Int) (x1 : Int) (x2 : Int) (x3 : Value) (x4 : Bool) (x5 : Bool) (x6 : Bool) (y3 : Value) (ys : List Int) (w : World) (ha : Row w .u8 x3 ys) (hb : Row w .u8 y3 ys) (hn : ys.length ≤ 140737488355328) :
    Calls Tryd.prog 19 #[(.agg #[.int .i64 x0, .int .i64 x1, .int .i64 x2, x3, .bool x4, .bool x5, .bool x6]), .agg #[.int .i64 x0, .int .i64 x1, .int .i64 x2, y3, .bool x4, .bool x5, .bool x6]] w fun e w' => e = .returned (.bool true) ∧ Below w.heap.size w w' := by
  have h0 : (x0 != x0) = false := by simp
  have h1 : (x1 != x1) = false := by simp
  have h2 : (x2 != x2) = false := by simp
  have h4 : (x4 != x4) = false := by simp
  have h5 : (x5 != x5) = false := by simp
  have h6 : (x6 != x6) = false := by simp
  have HH : Hid _ := And.intro ha (And.intro hb hn)
  clear ha hb hn
  have A2 : Hid (Below w.heap.size w ((w.alloc (.cells #[.int .i64 x0, .int .i64 x1, .int .i64 x2, x3, .bool x4, .bool x5, .bool x6] 43)).alloc (.cells #[.int .i64 x0, .int .i64 x1, .int .i64 x2, y3, .bool x4, .bool x5, .bool x6] 43))) := ((Below.refl _ _).alloc (Nat.le_refl _) _).alloc (by simp) _
  go_enter Tryd.func19, Tryd.ntmps19
  go_wp2_with (go_at_call 37; refine (eqBytes_same x3 y3 ys _ (HH.out.1.below A2.out) (HH.out.2.1.below A2.out) HH.out.2.2).mono ?_; rintro e w1 ⟨rfl, m, hw⟩; subst w1)
  go_ret
  exact ⟨rfl, below_drewN A2.out m⟩
theorem eqSendObsS_nil (ao bo : Option Addr) (ca cb : Nat) (w : World) :
    Calls Tryd.prog 8 #[.slice ao 0 ca, .slice bo 0 cb] w fun e w' => e = .returned (.bool true) ∧ Below w.heap.size w w' := by
  go_enter Tryd.func8, Tryd.ntmps8
  go_wp2_with fail
  refine wp_loop_rounds 1 ?_
  rw [rounds_succ]
  go_wp2
  go_ret
  exact ⟨rfl, Below.refl _ _⟩
set_option maxRecDepth 20000 in
set_option maxHeartbeats 4000000 in
theorem eqSendObsS_core (L : List SSendObs) (U U' : Nat → Value) (m b off ca b' off' cb : Nat) (w : World) (hm : m ≤ 1048576) (hbl : b < w.heap.size) (hbl' : b' < w.heap.size)
    (hc : ∀ j, j < m → ∀ f, f < 7 → w.cell? ⟨b, off + (j * 7 + f), none⟩ = ((L.getD j default).c (U j))[f]?) (hc' : ∀ j, j < m → ∀ f, f < 7 → w.cell? ⟨b', off' + (j * 7 + f), none⟩ = ((L.getD j default).c (U' j))[f]?)
    (hr : ∀ j, j < m → Row w .u8 (U j) (L.getD j default).d) (hr' : ∀ j, j < m → Row w .u8 (U' j) (L.getD j default).d) (hd : ∀ j, j < m → (L.getD j default).d.length ≤ 140737488355328) :
    Calls Tryd.prog 8 #[.slice (some ⟨b, off, none⟩) m ca, .slice (some ⟨b', off', none⟩) m cb] w fun e w' => e = .returned (.bool true) ∧ Below w.heap.size w w' := by
  have HH : Hid _ := And.intro hc hc'
  have HR : Hid _ := And.intro hr (And.intro hr' hd)
  clear hc hc' hr hr' hd
  have hmm : ((m : Int) != (m : Int)) = false := by simp
  go_enter Tryd.func8, Tryd.ntmps8
  go_wp2_with fail
  go_loopg [5] m (fun q i wr => ∃ k : Nat, k ≤ m ∧ q = m - k ∧ i = .int .i64 (k : Int) ∧ Below w.heap.size w wr)
  case atStart => exact ⟨0, by omega, by omega, rfl, Below.refl _ _⟩
  case round =>
    obtain ⟨k, hk, hq, rfl, bw⟩ := hrel
    by_cases hlt : k < m
    · have bd : Below w.heap.size w wr.drew := below_drewN bw 1
      obtain ⟨uk, euk⟩ : ∃ u, u = U k := ⟨_, rfl⟩
      obtain ⟨uk', euk'⟩ : ∃ u, u = U' k := ⟨_, rfl⟩
      have hck := HH.out.1 k hlt
      have hck' := HH.out.2 k hlt
      have hrk := (HR.out.1 k hlt).below bd
      have hrk' := (HR.out.2.1 k hlt).below bd
      rw [← euk] at hck hrk
      rw [← euk'] at hck' hrk'
      obtain ⟨x0, ex0⟩ : ∃ x, x = (L.getD k default).f0 := ⟨_, rfl⟩
      obtain ⟨x1, ex1⟩ : ∃ x, x = (L.getD k default).f1 := ⟨_, rfl⟩
      obtain ⟨x2, ex2⟩ : ∃ x, x = (L.getD k default).f2 := ⟨_, rfl⟩
      obtain ⟨x4, ex4⟩ : ∃ x, x = (L.getD k default).f4 := ⟨_, rfl⟩
      obtain ⟨x5, ex5⟩ : ∃ x, x = (L.getD k default).f5 := ⟨_, rfl⟩
      obtain ⟨x6, ex6⟩ : ∃ x, x = (L.getD k default).f6 := ⟨_, rfl⟩
      have c0 : wr.drew.cell? ⟨b, off + k * 7, none⟩ = some (.int .i64 x0) := by have t := (bd.cell (p := ⟨b, off + (k * 7 + 0), none⟩) hbl).trans (hck 0 (by omega)); rw [ex0]; exact t
      have c1 : wr.drew.cell? ⟨b, off + k * 7 + 1, none⟩ = some (.int .i64 x1) := by have t := (bd.cell (p := ⟨b, off + (k * 7 + 1), none⟩) hbl).trans (hck 1 (by omega)); rw [ex1]; exact t
      have c2 : wr.drew.cell? ⟨b, off + k * 7 + 2, none⟩ = some (.int .i64 x2) := by have t := (bd.cell (p := ⟨b, off + (k * 7 + 2), none⟩) hbl).trans (hck 2 (by omega)); rw [ex2]; exact t
      have c3 : wr.drew.cell? ⟨b, off + k * 7 + 3, none⟩ = some (uk) := by have t := (bd.cell (p := ⟨b, off + (k * 7 + 3), none⟩) hbl).trans (hck 3 (by omega)); exact t
      have c4 : wr.drew.cell? ⟨b, off + k * 7 + 4, none⟩ = some (.bool x4) := by have t := (bd.cell (p := ⟨b, off + (k * 7 + 4), none⟩) hbl).trans (hck 4 (by omega)); rw [ex4]; exact t
      have c5 : wr.drew.cell? ⟨b, off + k * 7 + 5, none⟩ = some (.bool x5) := by have t := (bd.cell (p := ⟨b, off + (k * 7 + 5), none⟩) hbl).trans (hck 5 (by omega)); rw [ex5]; exact t
      have c6 : wr.drew.cell? ⟨b, off + k * 7 + 6, none⟩ = some (.bool x6) := by have t := (bd.cell (p := ⟨b, off + (k * 7 + 6), none⟩) hbl).trans (hck 6 (by omega)); rw [ex6]; exact t
      have d0 : wr.drew.cell? ⟨b', off' + k * 7, none⟩ = some (.int .i64 x0) := by have t := (bd.cell (p := ⟨b', off' + (k * 7 + 0), none⟩) hbl').trans (hck' 0 (by omega)); rw [ex0]; exact t
      have d1 : wr.drew.cell? ⟨b', off' + k * 7 + 1, none⟩ = some (.int .i64 x1) := by have t := (bd.cell (p := ⟨b', off' + (k * 7 + 1), none⟩) hbl').trans (hck' 1 (by omega)); rw [ex1]; exact t
      have d2 : wr.drew.cell? ⟨b', off' + k * 7 + 2, none⟩ = some (.int .i64 x2) := by have t := (bd.cell (p := ⟨b', off' + (k * 7 + 2), none⟩) hbl').trans (hck' 2 (by omega)); rw [ex2]; exact t
      have d3 : wr.drew.cell? ⟨b', off' + k * 7 + 3, none⟩ = some (uk') := by have t := (bd.cell (p := ⟨b', off' + (k * 7 + 3), none⟩) hbl').trans (hck' 3 (by omega)); exact t
      have d4 : wr.drew.cell? ⟨b', off' + k * 7 + 4, none⟩ = some (.bool x4) := by have t := (bd.cell (p := ⟨b', off' + (k * 7 + 4), none⟩) hbl').trans (hck' 4 (by omega)); rw [ex4]; exact t
      have d5 : wr.drew.cell? ⟨b', off' + k * 7 + 5, none⟩ = some (.bool x5) := by have t := (bd.cell (p := ⟨b', off' + (k * 7 + 5), none⟩) hbl').trans (hck' 5 (by omega)); rw [ex5]; exact t
      have d6 : wr.drew.cell? ⟨b', off' + k * 7 + 6, none⟩ = some (.bool x6) := by have t := (bd.cell (p := ⟨b', off' + (k * 7 + 6), none⟩) hbl').trans (hck' 6 (by omega)); rw [ex6]; exact t
      have H4 : Hid _ := And.intro (eqSendObs x0 x1 x2 uk x4 x5 x6 uk' _ wr.drew hrk hrk' (HR.out.2.2 k hlt)) bd
      clear bd ex0 ex1 ex2 ex4 ex5 ex6 hck hck' hrk hrk' euk euk'
      go_upto_region 6 with fail
      go_cut [26] from 11 to 26 (fun cv wx => cv = .bool false ∧ Below w.heap.size w wx)
      case first =>
        go_region_with (go_at_call 19; refine H4.out.1.mono ?_; rintro e wz ⟨rfl, hz⟩)
        all_goals (go_wp2_with fail; go_meet; exact ⟨rfl, H4.out.2.trans (hz.mono H4.out.2.size)⟩)
      case rest =>
      obtain ⟨rfl, bc⟩ := hcut
      have H5 : Hid _ := And.intro bc True.intro
      clear bc bw c0 d0 c1 d1 c2 d2 c3 d3 c4 d4 c5 d5 c6 d6
      go_wp2
      go_roundg (m - (k + 1))
      case measure => omega
      case rel => exact ⟨k + 1, by omega, rfl, by go_num, H5.out.1⟩
    · have H4 : Hid _ := And.intro bw True.intro
      clear bw
      go_wp2
      go_ret
      exact ⟨rfl, H4.out.1⟩
theorem eqSendObsS (va vb : Value) (L : List SSendObs) (w : World) (ha : BRow 7 SSendObs.c SSendObs.d w va L) (hb : BRow 7 SSendObs.c SSendObs.d w vb L) (hm : L.length ≤ 1048576) (hd : ∀ j, j < L.length → (L.getD j default).d.length ≤ 140737488355328) :
    Calls Tryd.prog 8 #[va, vb] w fun e w' => e = .returned (.bool true) ∧ Below w.heap.size w w' := by
  by_cases h0 : 0 < L.length
  · obtain ⟨b, off, ca, rfl, hbl, U, hc, hr⟩ := ha.at' h0
    obtain ⟨b', off', cb, rfl, hbl', U', hc', hr'⟩ := hb.at' h0
    exact eqSendObsS_core L U U' _ b off ca b' off' cb w hm hbl hbl' hc hc' hr hr' hd
  · obtain rfl : L = [] := List.eq_nil_of_length_eq_zero (by omega)
    obtain ⟨ao, ca, rfl⟩ := ha.form
    obtain ⟨bo, cb, rfl⟩ := hb.form
    exact eqSendObsS_nil ao bo ca cb w
end Go.Proofs.YtdkonhjbcgnfhaaDoor
