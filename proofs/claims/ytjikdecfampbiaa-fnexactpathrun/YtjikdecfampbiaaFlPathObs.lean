import Derived.Test.YtjikdecfampbiaaFlat
namespace Go.Proofs.Ytjikdecfampbiaa
open Go.RowKit
set_option linter.unusedVariables false

/-- PathObs: its numbers. -/
structure SPathObs where
  f0 : Int
  f1 : Int
  f2 : Int
  f3 : Bool
  f4 : Bool
instance : Inhabited SPathObs := ⟨⟨0, 0, 0, false, false⟩⟩
def SPathObs.c (e : SPathObs) : List Value := [.int .i64 e.f0, .int .i64 e.f1, .int .i64 e.f2, .bool e.f3, .bool e.f4]
abbrev SPathObs.L (L : List SPathObs) : List (List Value) := L.map SPathObs.c
theorem SPathObs.at (L : List SPathObs) (j : Nat) (h : j < L.length) : (SPathObs.L L).getD j [] = (L.getD j default).c := map_at _ L default j h
theorem infoPathObs : (Try.prog.info? 41).map (fun i => (i.zero, i.size, i.bytes)) = some (some (.agg #[.int .i64 0, .int .i64 0, .int .i64 0, .bool false, .bool false]), 5, 32) := by kernel_rfl
theorem eqPathObs (x0 : Int) (x1 : Int) (x2 : Int) (x3 : Bool) (x4 : Bool) (w : World) : Calls Try.prog 21 #[(.agg #[.int .i64 x0, .int .i64 x1, .int .i64 x2, .bool x3, .bool x4]), (.agg #[.int .i64 x0, .int .i64 x1, .int .i64 x2, .bool x3, .bool x4])] w fun e w' => e = .returned (.bool true) ∧ Below w.heap.size w w' := by
  have h0 : (x0 != x0) = false := by simp
  have h1 : (x1 != x1) = false := by simp
  have h2 : (x2 != x2) = false := by simp
  have h3 : (x3 != x3) = false := by simp
  have h4 : (x4 != x4) = false := by simp
  go_enter Try.func21, Try.ntmps21
  go_wp2
  go_ret
  exact ⟨rfl, ((Below.refl _ _).alloc (Nat.le_refl _) _).alloc (by simp) _⟩
theorem eqPathObsS_nil (va vb : Value) (w : World) (ha : GRow 5 w va []) (hb : GRow 5 w vb []) :
    Calls Try.prog 8 #[va, vb] w fun e w' => e = .returned (.bool true) ∧ Below w.heap.size w w' := by
  obtain ⟨ao, ca, rfl⟩ := ha.form
  obtain ⟨bo, cb, rfl⟩ := hb.form
  clear ha hb
  go_enter Try.func8, Try.ntmps8
  go_wp2_with fail
  refine wp_loop_rounds 1 ?_
  rw [rounds_succ]
  go_wp2
  go_ret
  exact ⟨rfl, Below.refl _ _⟩
set_option maxRecDepth 20000 in
set_option maxHeartbeats 4000000 in
theorem eqPathObsS_core (L : List SPathObs) (m b off ca b' off' cb : Nat) (w : World) (hm : m ≤ 1048576) (hbl : b < w.heap.size) (hbl' : b' < w.heap.size)
    (hc : ∀ j, j < m → ∀ f, f < 5 → w.cell? ⟨b, off + (j * 5 + f), none⟩ = ((L.getD j default).c)[f]?) (hc' : ∀ j, j < m → ∀ f, f < 5 → w.cell? ⟨b', off' + (j * 5 + f), none⟩ = ((L.getD j default).c)[f]?) :
    Calls Try.prog 8 #[.slice (some ⟨b, off, none⟩) m ca, .slice (some ⟨b', off', none⟩) m cb] w fun e w' => e = .returned (.bool true) ∧ Below w.heap.size w w' := by
  have HH : Hid _ := And.intro hc hc'
  clear hc hc'
  have hmm : ((m : Int) != (m : Int)) = false := by simp
  go_enter Try.func8, Try.ntmps8
  go_wp2_with fail
  go_loopg [5] m (fun q i wr => ∃ k : Nat, k ≤ m ∧ q = m - k ∧ i = .int .i64 (k : Int) ∧ Below w.heap.size w wr)
  case atStart => exact ⟨0, by omega, by omega, rfl, Below.refl _ _⟩
  case round =>
    obtain ⟨k, hk, hq, rfl, bw⟩ := hrel
    by_cases hlt : k < m
    · have bd : Below w.heap.size w wr.drew := below_drewN bw 1
      obtain ⟨x0, ex0⟩ : ∃ x, x = (L.getD k default).f0 := ⟨_, rfl⟩
      obtain ⟨x1, ex1⟩ : ∃ x, x = (L.getD k default).f1 := ⟨_, rfl⟩
      obtain ⟨x2, ex2⟩ : ∃ x, x = (L.getD k default).f2 := ⟨_, rfl⟩
      obtain ⟨x3, ex3⟩ : ∃ x, x = (L.getD k default).f3 := ⟨_, rfl⟩
      obtain ⟨x4, ex4⟩ : ∃ x, x = (L.getD k default).f4 := ⟨_, rfl⟩
      have c0 : wr.drew.cell? ⟨b, off + k * 5, none⟩ = some (.int .i64 x0) := by have t := (bd.cell (p := ⟨b, off + (k * 5 + 0), none⟩) hbl).trans (HH.out.1 k hlt 0 (by omega)); rw [ex0]; exact t
      have d0 : wr.drew.cell? ⟨b', off' + k * 5, none⟩ = some (.int .i64 x0) := by have t := (bd.cell (p := ⟨b', off' + (k * 5 + 0), none⟩) hbl').trans (HH.out.2 k hlt 0 (by omega)); rw [ex0]; exact t
      have c1 : wr.drew.cell? ⟨b, off + k * 5 + 1, none⟩ = some (.int .i64 x1) := by have t := (bd.cell (p := ⟨b, off + (k * 5 + 1), none⟩) hbl).trans (HH.out.1 k hlt 1 (by omega)); rw [ex1]; exact t
      have d1 : wr.drew.cell? ⟨b', off' + k * 5 + 1, none⟩ = some (.int .i64 x1) := by have t := (bd.cell (p := ⟨b', off' + (k * 5 + 1), none⟩) hbl').trans (HH.out.2 k hlt 1 (by omega)); rw [ex1]; exact t
      have c2 : wr.drew.cell? ⟨b, off + k * 5 + 2, none⟩ = some (.int .i64 x2) := by have t := (bd.cell (p := ⟨b, off + (k * 5 + 2), none⟩) hbl).trans (HH.out.1 k hlt 2 (by omega)); rw [ex2]; exact t
      have d2 : wr.drew.cell? ⟨b', off' + k * 5 + 2, none⟩ = some (.int .i64 x2) := by have t := (bd.cell (p := ⟨b', off' + (k * 5 + 2), none⟩) hbl').trans (HH.out.2 k hlt 2 (by omega)); rw [ex2]; exact t
      have c3 : wr.drew.cell? ⟨b, off + k * 5 + 3, none⟩ = some (.bool x3) := by have t := (bd.cell (p := ⟨b, off + (k * 5 + 3), none⟩) hbl).trans (HH.out.1 k hlt 3 (by omega)); rw [ex3]; exact t
      have d3 : wr.drew.cell? ⟨b', off' + k * 5 + 3, none⟩ = some (.bool x3) := by have t := (bd.cell (p := ⟨b', off' + (k * 5 + 3), none⟩) hbl').trans (HH.out.2 k hlt 3 (by omega)); rw [ex3]; exact t
      have c4 : wr.drew.cell? ⟨b, off + k * 5 + 4, none⟩ = some (.bool x4) := by have t := (bd.cell (p := ⟨b, off + (k * 5 + 4), none⟩) hbl).trans (HH.out.1 k hlt 4 (by omega)); rw [ex4]; exact t
      have d4 : wr.drew.cell? ⟨b', off' + k * 5 + 4, none⟩ = some (.bool x4) := by have t := (bd.cell (p := ⟨b', off' + (k * 5 + 4), none⟩) hbl').trans (HH.out.2 k hlt 4 (by omega)); rw [ex4]; exact t
      have H4 : Hid _ := And.intro (eqPathObs x0 x1 x2 x3 x4 wr.drew) bd
      clear bd ex0 ex1 ex2 ex3 ex4
      go_upto_region 6 with fail
      go_cut [26] from 11 to 26 (fun cv wx => cv = .bool false ∧ Below w.heap.size w wx)
      case first =>
        go_region_with (go_at_call 21; refine H4.out.1.mono ?_; rintro e wz ⟨rfl, hz⟩)
        all_goals (go_wp2_with fail; go_meet; exact ⟨rfl, H4.out.2.trans (hz.mono H4.out.2.size)⟩)
      case rest =>
      obtain ⟨rfl, bc⟩ := hcut
      have H5 : Hid _ := And.intro bc True.intro
      clear bc bw c0 d0 c1 d1 c2 d2 c3 d3 c4 d4
      go_wp2
      go_roundg (m - (k + 1))
      case measure => omega
      case rel => exact ⟨k + 1, by omega, rfl, by go_num, H5.out.1⟩
    · have H4 : Hid _ := And.intro bw True.intro
      clear bw
      go_wp2
      go_ret
      exact ⟨rfl, H4.out.1⟩
theorem eqPathObsS (va vb : Value) (L : List SPathObs) (w : World) (ha : GRow 5 w va (SPathObs.L L)) (hb : GRow 5 w vb (SPathObs.L L)) (hm : L.length ≤ 1048576) :
    Calls Try.prog 8 #[va, vb] w fun e w' => e = .returned (.bool true) ∧ Below w.heap.size w w' := by
  by_cases h0 : 0 < L.length
  · obtain ⟨b, off, ca, rfl, hbl, hc⟩ := ha.at' (by rw [List.length_map]; exact h0)
    obtain ⟨b', off', cb, rfl, hbl', hc'⟩ := hb.at' (by rw [List.length_map]; exact h0)
    rw [List.length_map] at hc hc' ⊢
    exact eqPathObsS_core L _ b off ca b' off' cb w hm hbl hbl' (fun j hj f hf => by rw [← SPathObs.at L j hj]; exact hc j hj f hf) (fun j hj f hf => by rw [← SPathObs.at L j hj]; exact hc' j hj f hf)
  · obtain rfl : L = [] := List.eq_nil_of_length_eq_zero (by omega)
    exact eqPathObsS_nil va vb w ha hb
/-- What markPathObsS writes. -/
def marksPathObs (q : Int) (n : Nat) : List (List Value) := (List.range n).map fun (j : Nat) => [.int .i64 (q + 5 * (j : Int)), .int .i64 (q + 5 * (j : Int) + 1), .int .i64 (q + 5 * (j : Int) + 2), .bool ((q + 5 * (j : Int) + 3) % 3 == 0), .bool ((q + 5 * (j : Int) + 4) % 3 == 0)]
theorem marksPathObs_length (q : Int) (n : Nat) : (marksPathObs q n).length = n := by simp [marksPathObs]
theorem marksPathObs_at (q : Int) (n j : Nat) (h : j < n) : (marksPathObs q n).getD j [] = [.int .i64 (q + 5 * (j : Int)), .int .i64 (q + 5 * (j : Int) + 1), .int .i64 (q + 5 * (j : Int) + 2), .bool ((q + 5 * (j : Int) + 3) % 3 == 0), .bool ((q + 5 * (j : Int) + 4) % 3 == 0)] := by simp [marksPathObs, List.getD, h]
theorem markPathObsS_nil (q : Int) (ao : Option Addr) (cp : Nat) (w : World) :
    Calls Try.prog 11 #[.slice ao 0 cp, .int .i64 q] w fun e w' => e = .returned (.int .i64 q) ∧ w' = w := by
  go_enter Try.func11, Try.ntmps11
  go_wp2
  refine wp_loop_rounds 1 ?_
  rw [rounds_succ]
  go_wp2
  go_ret
  exact ⟨rfl, rfl⟩
set_option maxRecDepth 20000 in
set_option maxHeartbeats 4000000 in
theorem markPathObsS_core (q : Int) (n base g cap : Nat) (zs0 : List Value) (w : World) (hn : n ≤ 140737488355328) (hq0 : 0 ≤ q) (hq1 : q ≤ 140737488355328) (hg : base ≤ g)
    (hown0 : w.ownsRow base 41 5 (.slice (some ⟨g, 0, none⟩) n cap) n zs0) (hl0 : zs0.length = n * 5) :
    Calls Try.prog 11 #[.slice (some ⟨g, 0, none⟩) n cap, .int .i64 q] w fun e w' => e = .returned (.int .i64 (q + 5 * (n : Int))) ∧
      (∃ zs : List Value, (∀ j : Nat, j < n → ∀ f, f < 5 → zs[j * 5 + f]? = ([.int .i64 (q + 5 * (j : Int)), .int .i64 (q + 5 * (j : Int) + 1), .int .i64 (q + 5 * (j : Int) + 2), .bool ((q + 5 * (j : Int) + 3) % 3 == 0), .bool ((q + 5 * (j : Int) + 4) % 3 == 0)] : List Value)[f]?) ∧ w'.ownsRow base 41 5 (.slice (some ⟨g, 0, none⟩) n cap) n zs) ∧ Below base w w' ∧ w'.heap.size = w.heap.size ∧ Only (some g) w w' := by
  have H0 : Hid _ := And.intro hown0 hl0
  clear hown0 hl0
  go_enter Try.func11, Try.ntmps11
  go_wp2
  go_loopw [1, 5] (fun s i wr => ∃ k : Nat, k ≤ n ∧ i = .int .i64 k ∧ s = .int .i64 (q + 5 * (k : Int)) ∧ ∃ zs : List Value, zs.length = n * 5 ∧ (∀ j : Nat, j < k → ∀ f, f < 5 → zs[j * 5 + f]? = ([.int .i64 (q + 5 * (j : Int)), .int .i64 (q + 5 * (j : Int) + 1), .int .i64 (q + 5 * (j : Int) + 2), .bool ((q + 5 * (j : Int) + 3) % 3 == 0), .bool ((q + 5 * (j : Int) + 4) % 3 == 0)] : List Value)[f]?) ∧
      wr.ownsRow base 41 5 (.slice (some ⟨g, 0, none⟩) n cap) n zs ∧ Below base w wr ∧ wr.heap.size = w.heap.size ∧ Only (some g) w wr) (fun _ i _ => n - (intOf i).toNat)
  case atStart => exact ⟨0, Nat.zero_le _, rfl, by simp, zs0, H0.out.2, fun j h => by omega, H0.out.1, Below.refl _ _, rfl, Only.refl _ _⟩
  case round =>
    obtain ⟨k, hk, rfl, rfl, zs, hl, hm, hown, hb, hz, ho⟩ := hrel
    by_cases hlt : k < n
    · have hgl : g < wr.heap.size := (hown.lt g rfl).2
      have d0 : k * 5 < n * 5 := by omega
      obtain ⟨z0, hz0'⟩ : ∃ z, zs[k * 5]? = some z := ⟨zs[k * 5]'(by omega), by simp [hl, d0]⟩
      have r0 := hown.cellAt (k * 5) d0
      rw [hz0'] at r0
      have p0 := hown.frozenAt (k * 5)
      have d1 : k * 5 + 1 < n * 5 := by omega
      obtain ⟨z1, hz1'⟩ : ∃ z, zs[k * 5 + 1]? = some z := ⟨zs[k * 5 + 1]'(by omega), by simp [hl, d1]⟩
      have r1 := hown.cellAt (k * 5 + 1) d1
      rw [hz1'] at r1
      have p1 := hown.frozenAt (k * 5 + 1)
      have d2 : k * 5 + 2 < n * 5 := by omega
      obtain ⟨z2, hz2'⟩ : ∃ z, zs[k * 5 + 2]? = some z := ⟨zs[k * 5 + 2]'(by omega), by simp [hl, d2]⟩
      have r2 := hown.cellAt (k * 5 + 2) d2
      rw [hz2'] at r2
      have p2 := hown.frozenAt (k * 5 + 2)
      have d3 : k * 5 + 3 < n * 5 := by omega
      obtain ⟨z3, hz3'⟩ : ∃ z, zs[k * 5 + 3]? = some z := ⟨zs[k * 5 + 3]'(by omega), by simp [hl, d3]⟩
      have r3 := hown.cellAt (k * 5 + 3) d3
      rw [hz3'] at r3
      have p3 := hown.frozenAt (k * 5 + 3)
      have d4 : k * 5 + 4 < n * 5 := by omega
      obtain ⟨z4, hz4'⟩ : ∃ z, zs[k * 5 + 4]? = some z := ⟨zs[k * 5 + 4]'(by omega), by simp [hl, d4]⟩
      have r4 := hown.cellAt (k * 5 + 4) d4
      rw [hz4'] at r4
      have p4 := hown.frozenAt (k * 5 + 4)
      obtain ⟨s, es⟩ : ∃ s, s = q + 5 * (k : Int) := ⟨_, rfl⟩
      have hs0 : 0 ≤ s := by omega
      rw [← es]
      obtain ⟨tb3, etb3⟩ : ∃ tb : Bool, tb = ((s + 3) % 3 == 0) := ⟨_, rfl⟩
      have htb3 : ((s + 1 + 1 + 1).tmod 3 == 0) = tb3 := by rw [etb3, show s + 1 + 1 + 1 = s + 3 by omega, Int.tmod_eq_emod_of_nonneg (by omega)]
      have htc3 : ((s + 1 + 1 + 1) % 3 == 0) = tb3 := by rw [etb3, show s + 1 + 1 + 1 = s + 3 by omega]
      have HT3 : Hid _ := And.intro etb3 True.intro
      clear etb3
      obtain ⟨tb4, etb4⟩ : ∃ tb : Bool, tb = ((s + 4) % 3 == 0) := ⟨_, rfl⟩
      have htb4 : ((s + 1 + 1 + 1 + 1).tmod 3 == 0) = tb4 := by rw [etb4, show s + 1 + 1 + 1 + 1 = s + 4 by omega, Int.tmod_eq_emod_of_nonneg (by omega)]
      have htc4 : ((s + 1 + 1 + 1 + 1) % 3 == 0) = tb4 := by rw [etb4, show s + 1 + 1 + 1 + 1 = s + 4 by omega]
      have HT4 : Hid _ := And.intro etb4 True.intro
      clear etb4
      have w1 : IntKind.i64.wrap (s + 1) = s + 1 := by rw [IntKind.wrap_i64]; omega
      have w2 : IntKind.i64.wrap (s + 1 + 1) = s + 1 + 1 := by rw [IntKind.wrap_i64]; omega
      have w3 : IntKind.i64.wrap (s + 1 + 1 + 1) = s + 1 + 1 + 1 := by rw [IntKind.wrap_i64]; omega
      have w4 : IntKind.i64.wrap (s + 1 + 1 + 1 + 1) = s + 1 + 1 + 1 + 1 := by rw [IntKind.wrap_i64]; omega
      have w5 : IntKind.i64.wrap (s + 1 + 1 + 1 + 1 + 1) = s + 1 + 1 + 1 + 1 + 1 := by rw [IntKind.wrap_i64]; omega
      have H2 : Hid _ := And.intro es (And.intro hl (And.intro hm (And.intro hown (And.intro hb (And.intro hz ho)))))
      clear es hl hm hown hb hz ho hz0' hz1' hz2' hz3' hz4'
      go_wp2
      go_roundw
      case rel =>
        obtain ⟨es, hl, hm, hown, hb, hz, ho⟩ := H2.out
        refine ⟨k + 1, by omega, by go_num, by rw [es]; congr 1; omega, (((((zs.set (k * 5) (.int .i64 (s))).set (k * 5 + 1) (.int .i64 (s + 1))).set (k * 5 + 2) (.int .i64 (s + 1 + 1))).set (k * 5 + 3) (.bool tb3)).set (k * 5 + 4) (.bool tb4)), by simp only [List.length_set]; exact hl, fun j hj f hf => ?_, (((((hown.stored (k * 5) _).1.stored (k * 5 + 1) _).1.stored (k * 5 + 2) _).1.stored (k * 5 + 3) _).1.stored (k * 5 + 4) _).1, (((((hb.setCell (p := ⟨g, k * 5, none⟩) hg _).setCell (p := ⟨g, k * 5 + 1, none⟩) hg _).setCell (p := ⟨g, k * 5 + 2, none⟩) hg _).setCell (p := ⟨g, k * 5 + 3, none⟩) hg _).setCell (p := ⟨g, k * 5 + 4, none⟩) hg _), by simp [World.setCell, hz], (((((ho.trans (Only.setCell ⟨g, k * 5, none⟩ _)).trans (Only.setCell ⟨g, k * 5 + 1, none⟩ _)).trans (Only.setCell ⟨g, k * 5 + 2, none⟩ _)).trans (Only.setCell ⟨g, k * 5 + 3, none⟩ _)).trans (Only.setCell ⟨g, k * 5 + 4, none⟩ _))⟩
        by_cases hjk : j = k
        · subst hjk
          rw [← es]
          obtain rfl | rfl | rfl | rfl | rfl : f = 0 ∨ f = 1 ∨ f = 2 ∨ f = 3 ∨ f = 4 := by omega
          · rw [show j * 5 + 0 = j * 5 from rfl, List.getElem?_set_ne (by omega), List.getElem?_set_ne (by omega), List.getElem?_set_ne (by omega), List.getElem?_set_ne (by omega), List.getElem?_set_self (by first | omega | (simp only [List.length_set]; omega))]; rfl
          · rw [List.getElem?_set_ne (by omega), List.getElem?_set_ne (by omega), List.getElem?_set_ne (by omega), List.getElem?_set_self (by first | omega | (simp only [List.length_set]; omega))]; simp <;> omega
          · rw [List.getElem?_set_ne (by omega), List.getElem?_set_ne (by omega), List.getElem?_set_self (by first | omega | (simp only [List.length_set]; omega))]; simp <;> omega
          · rw [List.getElem?_set_ne (by omega), List.getElem?_set_self (by first | omega | (simp only [List.length_set]; omega))]; rw [HT3.out.1]; rfl
          · rw [List.getElem?_set_self (by first | omega | (simp only [List.length_set]; omega))]; rw [HT4.out.1]; rfl
        · have u := hm j (by omega) f hf
          rw [List.getElem?_set_ne (by omega), List.getElem?_set_ne (by omega), List.getElem?_set_ne (by omega), List.getElem?_set_ne (by omega), List.getElem?_set_ne (by omega)]; exact u
      case measure => simp [intOf]; omega
    · have HR : Hid _ := And.intro hm (And.intro hown (And.intro hb (And.intro hz ho)))
      clear hl hm hown hb hz ho
      go_wp2
      go_ret
      obtain rfl : k = n := by omega
      obtain ⟨r1, r2, r3, r4, r5⟩ := HR.out
      exact ⟨rfl, ⟨zs, r1, r2⟩, r3, r4, r5⟩
theorem markPathObsS (q : Int) (base : Nat) (v : Value) (L : List (List Value)) (w : World) (hn : L.length ≤ 140737488355328) (hq0 : 0 ≤ q) (hq1 : q ≤ 140737488355328) (h : GOwns 41 5 w base v L) :
    Calls Try.prog 11 #[v, .int .i64 q] w fun e w' => e = .returned (.int .i64 (q + 5 * (L.length : Int))) ∧ GOwns 41 5 w' base v (marksPathObs q L.length) ∧ Below base w w' ∧ w'.heap.size = w.heap.size ∧ Only v.ownBlock w w' := by
  obtain ⟨zs, ho, hz⟩ := id h
  have hl : zs.length = L.length * 5 := ho.1
  rcases ho.2 with ⟨rfl, h0⟩ | ⟨g, cap, cur, rfl, hg, hh, r⟩
  · have hR : L = [] := List.eq_nil_of_length_eq_zero h0
    subst hR
    refine (markPathObsS_nil q _ _ w).mono ?_
    rintro e w' ⟨rfl, rfl⟩
    exact ⟨by simp, h, Below.refl _ _, rfl, Only.refl _ _⟩
  · refine (markPathObsS_core q L.length base g cap zs w hn hq0 hq1 hg ho hl).mono ?_
    rintro e w' ⟨rfl, ⟨ys, hy, ho2⟩, hb, hz2, hon⟩
    refine ⟨rfl, ⟨ys, by rw [marksPathObs_length]; exact ho2, fun j hj f hf => ?_⟩, hb, hz2, hon⟩
    rw [marksPathObs_length] at hj
    rw [marksPathObs_at _ _ _ hj]
    exact hy j hj f hf
theorem heldPathObsS_nil (q : Int) (ao : Option Addr) (cp : Nat) (w : World) :
    Calls Try.prog 12 #[.slice ao 0 cp, .int .i64 q] w fun e w' => e = .returned (.int .i64 q) ∧ w' = w := by
  go_enter Try.func12, Try.ntmps12
  go_wp2
  refine wp_loop_rounds 1 ?_
  rw [rounds_succ]
  go_wp2
  go_ret
  exact ⟨rfl, rfl⟩
set_option maxRecDepth 20000 in
set_option maxHeartbeats 4000000 in
theorem heldPathObsS_core (q : Int) (n : Nat) (b off ca : Nat) (w : World) (hn : n ≤ 140737488355328) (hq0 : 0 ≤ q) (hq1 : q ≤ 140737488355328)
    (hc : ∀ j : Nat, j < n → ∀ f, f < 5 → w.cell? ⟨b, off + (j * 5 + f), none⟩ = ([.int .i64 (q + 5 * (j : Int)), .int .i64 (q + 5 * (j : Int) + 1), .int .i64 (q + 5 * (j : Int) + 2), .bool ((q + 5 * (j : Int) + 3) % 3 == 0), .bool ((q + 5 * (j : Int) + 4) % 3 == 0)] : List Value)[f]?) :
    Calls Try.prog 12 #[.slice (some ⟨b, off, none⟩) n ca, .int .i64 q] w fun e w' => e = .returned (.int .i64 (q + 5 * (n : Int))) ∧ w' = w := by
  have HC : Hid _ := And.intro hc True.intro
  clear hc
  go_enter Try.func12, Try.ntmps12
  go_wp2
  go_loop [1, 5] (fun s i => ∃ k : Nat, k ≤ n ∧ i = .int .i64 k ∧ s = .int .i64 (q + 5 * (k : Int))) (fun _ i => n - (intOf i).toNat)
  case atStart => exact ⟨0, Nat.zero_le _, rfl, by simp⟩
  case round =>
    obtain ⟨k, hk, rfl, rfl⟩ := hrel
    by_cases hlt : k < n
    · obtain ⟨s, es⟩ : ∃ s, s = q + 5 * (k : Int) := ⟨_, rfl⟩
      have hck := HC.out.1 k hlt
      have hs0 : 0 ≤ s := by omega
      rw [← es] at hck ⊢
      obtain ⟨tb3, etb3⟩ : ∃ tb : Bool, tb = ((s + 3) % 3 == 0) := ⟨_, rfl⟩
      have htb3 : ((s + 1 + 1 + 1).tmod 3 == 0) = tb3 := by rw [etb3, show s + 1 + 1 + 1 = s + 3 by omega, Int.tmod_eq_emod_of_nonneg (by omega)]
      have htc3 : ((s + 1 + 1 + 1) % 3 == 0) = tb3 := by rw [etb3, show s + 1 + 1 + 1 = s + 3 by omega]
      have HT3 : Hid _ := And.intro etb3 True.intro
      clear etb3
      obtain ⟨tb4, etb4⟩ : ∃ tb : Bool, tb = ((s + 4) % 3 == 0) := ⟨_, rfl⟩
      have htb4 : ((s + 1 + 1 + 1 + 1).tmod 3 == 0) = tb4 := by rw [etb4, show s + 1 + 1 + 1 + 1 = s + 4 by omega, Int.tmod_eq_emod_of_nonneg (by omega)]
      have htc4 : ((s + 1 + 1 + 1 + 1) % 3 == 0) = tb4 := by rw [etb4, show s + 1 + 1 + 1 + 1 = s + 4 by omega]
      have HT4 : Hid _ := And.intro etb4 True.intro
      clear etb4

      have c0 : w.cell? ⟨b, off + k * 5, none⟩ = some (.int .i64 (s)) := by have t := hck 0 (by omega); rw [show (off + (k * 5 + 0)) = off + k * 5 by omega] at t; rw [t]; simp <;> omega
      have h0 : (s != s) = false := by simp
      have c1 : w.cell? ⟨b, off + k * 5 + 1, none⟩ = some (.int .i64 (s + 1)) := by have t := hck 1 (by omega); rw [show (off + (k * 5 + 1)) = off + k * 5 + 1 by omega] at t; rw [t]; simp <;> omega
      have h1 : (s + 1 != s + 1) = false := by simp
      have c2 : w.cell? ⟨b, off + k * 5 + 2, none⟩ = some (.int .i64 (s + 1 + 1)) := by have t := hck 2 (by omega); rw [show (off + (k * 5 + 2)) = off + k * 5 + 2 by omega] at t; rw [t]; simp <;> omega
      have h2 : (s + 1 + 1 != s + 1 + 1) = false := by simp
      have c3 : w.cell? ⟨b, off + k * 5 + 3, none⟩ = some (.bool tb3) := by have t := hck 3 (by omega); rw [show (off + (k * 5 + 3)) = off + k * 5 + 3 by omega] at t; rw [t]; rw [HT3.out.1]; rfl
      have c4 : w.cell? ⟨b, off + k * 5 + 4, none⟩ = some (.bool tb4) := by have t := hck 4 (by omega); rw [show (off + (k * 5 + 4)) = off + k * 5 + 4 by omega] at t; rw [t]; rw [HT4.out.1]; rfl
      have w1 : IntKind.i64.wrap (s + 1) = s + 1 := by rw [IntKind.wrap_i64]; omega
      have w2 : IntKind.i64.wrap (s + 1 + 1) = s + 1 + 1 := by rw [IntKind.wrap_i64]; omega
      have w3 : IntKind.i64.wrap (s + 1 + 1 + 1) = s + 1 + 1 + 1 := by rw [IntKind.wrap_i64]; omega
      have w4 : IntKind.i64.wrap (s + 1 + 1 + 1 + 1) = s + 1 + 1 + 1 + 1 := by rw [IntKind.wrap_i64]; omega
      have w5 : IntKind.i64.wrap (s + 1 + 1 + 1 + 1 + 1) = s + 1 + 1 + 1 + 1 + 1 := by rw [IntKind.wrap_i64]; omega
      have ES : Hid _ := And.intro es True.intro
      clear es hck
      go_wp2
      go_round
      case rel => exact ⟨k + 1, by omega, by go_num, by rw [ES.out.1]; congr 1; omega⟩
      case measure => simp [intOf]; omega
    · go_wp2
      go_ret
      obtain rfl : k = n := by omega
      exact ⟨rfl, rfl⟩
theorem heldPathObsS (q : Int) (n : Nat) (v : Value) (w : World) (h : GRow 5 w v (marksPathObs q n)) (hn : n ≤ 140737488355328) (hq0 : 0 ≤ q) (hq1 : q ≤ 140737488355328) :
    Calls Try.prog 12 #[v, .int .i64 q] w fun e w' => e = .returned (.int .i64 (q + 5 * (n : Int))) ∧ w' = w := by
  by_cases h0 : 0 < n
  · obtain ⟨b, off, ca, rfl, _, hc⟩ := h.at' (by rw [marksPathObs_length]; exact h0)
    rw [marksPathObs_length] at hc ⊢
    exact heldPathObsS_core q n b off ca w hn hq0 hq1 (fun j hj f hf => by rw [← marksPathObs_at q n j hj]; exact hc j hj f hf)
  · obtain rfl : n = 0 := by omega
    obtain ⟨ao, cp, rfl⟩ := h.form
    have := heldPathObsS_nil q ao cp w
    simpa [marksPathObs] using this
end Go.Proofs.Ytjikdecfampbiaa
