import Derived.Test.YtcoakpmfappnlaaFlat
namespace Go.Proofs.Ytcoakpmfappnlaa
open Go.RowKit
set_option linter.unusedVariables false

/-- FlowOp: its numbers. -/
structure SFlowOp where
  f0 : Int
  f1 : Int
  f2 : Int
  f3 : Bool
instance : Inhabited SFlowOp := ⟨⟨0, 0, 0, false⟩⟩
def SFlowOp.c (e : SFlowOp) : List Value := [.int .i64 e.f0, .int .i64 e.f1, .int .i64 e.f2, .bool e.f3]
abbrev SFlowOp.L (L : List SFlowOp) : List (List Value) := L.map SFlowOp.c
theorem SFlowOp.at (L : List SFlowOp) (j : Nat) (h : j < L.length) : (SFlowOp.L L).getD j [] = (L.getD j default).c := map_at _ L default j h
theorem infoFlowOp : (Try.prog.info? 46).map (fun i => (i.zero, i.size, i.bytes)) = some (some (.agg #[.int .i64 0, .int .i64 0, .int .i64 0, .bool false]), 4, 32) := by kernel_rfl
theorem toFlowOp (x0 : Int) (x1 : Int) (x2 : Int) (x3 : Bool) (w : World) : Calls Try.prog 17 #[(.agg #[.int .i64 x0, .int .i64 x1, .int .i64 x2, .bool x3])] w fun e w' => e = .returned (.agg #[.int .i64 x0, .int .i64 x1, .int .i64 x2, .bool x3]) ∧ Below w.heap.size w w' := by
  go_enter Try.func17, Try.ntmps17
  go_wp2
  exact bodyPost_ret (v := (.agg #[.int .i64 x0, .int .i64 x1, .int .i64 x2, .bool x3])) (by simp [results, Try.results17, go_sem]) rfl ⟨rfl, (((Below.refl _ _).alloc (Nat.le_refl _) _).alloc (by simp) _).alloc (by simp; omega) _⟩
theorem eqFlowOp (x0 : Int) (x1 : Int) (x2 : Int) (x3 : Bool) (w : World) : Calls Try.prog 23 #[(.agg #[.int .i64 x0, .int .i64 x1, .int .i64 x2, .bool x3]), (.agg #[.int .i64 x0, .int .i64 x1, .int .i64 x2, .bool x3])] w fun e w' => e = .returned (.bool true) ∧ Below w.heap.size w w' := by
  have h0 : (x0 != x0) = false := by simp
  have h1 : (x1 != x1) = false := by simp
  have h2 : (x2 != x2) = false := by simp
  have h3 : (x3 != x3) = false := by simp
  go_enter Try.func23, Try.ntmps23
  go_wp2
  go_ret
  exact ⟨rfl, ((Below.refl _ _).alloc (Nat.le_refl _) _).alloc (by simp) _⟩
theorem szFlowOp_fit (ao : Option Addr) (m cp : Nat) (l : Int) (w : World) (hl : l ≤ 9223372036854775807) (hf : (m : Int) ≤ l) : Calls Try.prog 4 #[.slice ao m cp, .int .i64 l] w fun e w' => e = .returned (.int .i64 (l - (m : Int))) ∧ w' = w := by
  have hd : 0 ≤ l - (m : Int) := by omega
  go_enter Try.func4, Try.ntmps4
  go_wp2
  go_ret
  exact ⟨rfl, rfl⟩
theorem szFlowOp_over (ao : Option Addr) (m cp : Nat) (l : Int) (w : World) (hl : 0 ≤ l) (hm : m ≤ 9223372036854775807) (hf : l < (m : Int)) : Calls Try.prog 4 #[.slice ao m cp, .int .i64 l] w fun e w' => e = .returned (.int .i64 (-1)) ∧ w' = w := by
  have hd : l - (m : Int) < 0 := by omega
  go_enter Try.func4, Try.ntmps4
  go_wp2
  go_ret
  exact ⟨rfl, rfl⟩
set_option maxRecDepth 20000 in
set_option maxHeartbeats 4000000 in
theorem toFlowOpS (v : Value) (L : List SFlowOp) (w : World) (h : GRow 4 w v (SFlowOp.L L)) (hR : L.length ≤ 1048576) :
    Calls Try.prog 7 #[v] w fun e w' => ∃ r, e = .returned r ∧ GOwns 46 4 w' w.heap.size r (SFlowOp.L L) ∧ Below w.heap.size w w' := by
  obtain ⟨ao, cp, rfl⟩ := h.form
  obtain ⟨i0, hi, hz0, hz1, hz2⟩ := info_parts infoFlowOp
  have HH : Hid _ := And.intro h True.intro
  rw [List.length_map] at *
  obtain ⟨m, em⟩ : ∃ m, m = L.length := ⟨_, rfl⟩
  have EM : Hid _ := And.intro em True.intro
  have HL : Hid _ := And.intro (fun j hj => SFlowOp.at L j hj) True.intro
  rw [← em] at hR ⊢
  rw [← em] at HH
  clear h em
  go_enter Try.func7, Try.ntmps7
  go_wp2_with (at_make; refine wpList_make_full _ rfl _ _ 31 rfl w.heap.size 46 i0 (.agg #[.int .i64 0, .int .i64 0, .int .i64 0, .bool false]) 4 Try.underlying31 hi hz0 hz1 .i64 .i64 (m : Int) (m : Int) m rfl rfl rfl rfl (by rw [hz2]; omega) (by unfold maxLen; omega) (Nat.le_refl _) ?_; intro w1 hown hg)
  have H1 : Hid _ := And.intro hown ((Below.refl w.heap.size w).grown hg (Nat.le_refl _) (by intro k hk; cases hk))
  clear hown hg
  go_loopw [4] (fun i wr => ∃ k : Nat, k ≤ m ∧ i = .int .i64 k ∧ ∃ zs : List Value, zs.length = m * 4 ∧ wr.ownsRow w.heap.size 46 4 (.slice (some ⟨w.heap.size, 0, none⟩) m m) m zs ∧ (∀ j, j < k → ∀ f, f < 4 → zs[j * 4 + f]? = ((L.getD j default).c)[f]?) ∧ Below w.heap.size w wr) (fun i _ => m - (intOf i).toNat)
  case atStart => exact ⟨0, by omega, rfl, _, by have := H1.out.1.1; simpa using this, H1.out.1, fun j hj => by omega, H1.out.2⟩
  case round =>
    obtain ⟨k, hk, rfl, zs, hzl, ow, hu, hb⟩ := hrel
    by_cases hlt : k < m
    · obtain ⟨b, off, cap, ev, hbl, hc⟩ := HH.out.1.at' (by rw [List.length_map]; have := EM.out.1; omega)
      simp only [Value.slice.injEq] at ev
      obtain ⟨rfl, em2, rfl⟩ := ev
      clear em2
      have hck := hc k (by rw [List.length_map]; have := EM.out.1; omega)
      rw [HL.out.1 k (by have := EM.out.1; omega)] at hck
      have hgl : w.heap.size < wr.heap.size := (ow.lt w.heap.size rfl).2
      obtain ⟨x0, ex0⟩ : ∃ x, x = (L.getD k default).f0 := ⟨_, rfl⟩
      obtain ⟨x1, ex1⟩ : ∃ x, x = (L.getD k default).f1 := ⟨_, rfl⟩
      obtain ⟨x2, ex2⟩ : ∃ x, x = (L.getD k default).f2 := ⟨_, rfl⟩
      obtain ⟨x3, ex3⟩ : ∃ x, x = (L.getD k default).f3 := ⟨_, rfl⟩
      have c0 : wr.cell? ⟨b, off + k * 4, none⟩ = some (.int .i64 x0) := by have t := (hb.cell (p := ⟨b, off + (k * 4 + 0), none⟩) hbl).trans (hck 0 (by omega)); rw [ex0]; exact t
      have c1 : wr.cell? ⟨b, off + k * 4 + 1, none⟩ = some (.int .i64 x1) := by have t := (hb.cell (p := ⟨b, off + (k * 4 + 1), none⟩) hbl).trans (hck 1 (by omega)); rw [ex1]; exact t
      have c2 : wr.cell? ⟨b, off + k * 4 + 2, none⟩ = some (.int .i64 x2) := by have t := (hb.cell (p := ⟨b, off + (k * 4 + 2), none⟩) hbl).trans (hck 2 (by omega)); rw [ex2]; exact t
      have c3 : wr.cell? ⟨b, off + k * 4 + 3, none⟩ = some (.bool x3) := by have t := (hb.cell (p := ⟨b, off + (k * 4 + 3), none⟩) hbl).trans (hck 3 (by omega)); rw [ex3]; exact t
      have H2 : Hid _ := And.intro (And.intro ex0 (And.intro ex1 (And.intro ex2 (And.intro ex3 (True.intro))))) (And.intro ow (And.intro hu (And.intro hb (And.intro hzl hgl))))
      clear ow hu hb hc hck hzl ex0 ex1 ex2 ex3
      go_wp2_with fail
      go_at_call 17
      refine (toFlowOp x0 x1 x2 x3 wr).mono ?_
      rintro e w2 ⟨rfl, bq⟩
      have ow2 := owns_below H2.out.2.1 bq
      have d0 : k * 4 < m * 4 := by omega
      have s0 : w2.cell? ⟨w.heap.size, k * 4, none⟩ = zs[k * 4]? := ow2.cellAt (k * 4) d0
      obtain ⟨z0, hz0'⟩ : ∃ z, zs[k * 4]? = some z := ⟨zs[k * 4]'(by have := H2.out.2.2.2.2.1; omega), by simp [H2.out.2.2.2.2.1, d0]⟩
      rw [hz0'] at s0
      have f0 := ow2.frozenAt (k * 4)
      have d1 : k * 4 + 1 < m * 4 := by omega
      have s1 : w2.cell? ⟨w.heap.size, k * 4 + 1, none⟩ = zs[k * 4 + 1]? := ow2.cellAt (k * 4 + 1) d1
      obtain ⟨z1, hz1'⟩ : ∃ z, zs[k * 4 + 1]? = some z := ⟨zs[k * 4 + 1]'(by have := H2.out.2.2.2.2.1; omega), by simp [H2.out.2.2.2.2.1, d1]⟩
      rw [hz1'] at s1
      have f1 := ow2.frozenAt (k * 4 + 1)
      have d2 : k * 4 + 2 < m * 4 := by omega
      have s2 : w2.cell? ⟨w.heap.size, k * 4 + 2, none⟩ = zs[k * 4 + 2]? := ow2.cellAt (k * 4 + 2) d2
      obtain ⟨z2, hz2'⟩ : ∃ z, zs[k * 4 + 2]? = some z := ⟨zs[k * 4 + 2]'(by have := H2.out.2.2.2.2.1; omega), by simp [H2.out.2.2.2.2.1, d2]⟩
      rw [hz2'] at s2
      have f2 := ow2.frozenAt (k * 4 + 2)
      have d3 : k * 4 + 3 < m * 4 := by omega
      have s3 : w2.cell? ⟨w.heap.size, k * 4 + 3, none⟩ = zs[k * 4 + 3]? := ow2.cellAt (k * 4 + 3) d3
      obtain ⟨z3, hz3'⟩ : ∃ z, zs[k * 4 + 3]? = some z := ⟨zs[k * 4 + 3]'(by have := H2.out.2.2.2.2.1; omega), by simp [H2.out.2.2.2.2.1, d3]⟩
      rw [hz3'] at s3
      have f3 := ow2.frozenAt (k * 4 + 3)
      have H3 : Hid _ := And.intro ow2 bq
      clear ow2 bq hz0' hz1' hz2' hz3'
      go_wp2
      go_roundw
      case rel =>
        refine ⟨k + 1, by omega, by go_num, ((((zs.set (k * 4) (.int .i64 x0)).set (k * 4 + 1) (.int .i64 x1)).set (k * 4 + 2) (.int .i64 x2)).set (k * 4 + 3) (.bool x3)), by simp only [List.length_set]; exact H2.out.2.2.2.2.1, ((((H3.out.1.stored (k * 4) _).1.stored (k * 4 + 1) _).1.stored (k * 4 + 2) _).1.stored (k * 4 + 3) _).1, fun j hj f hf => ?_, (((((H2.out.2.2.2.1.trans (H3.out.2.mono H2.out.2.2.2.1.size)).setCell (Nat.le_refl _) _).setCell (Nat.le_refl _) _).setCell (Nat.le_refl _) _).setCell (Nat.le_refl _) _)⟩
        have hl2 : zs.length = m * 4 := H2.out.2.2.2.2.1
        by_cases hjk : j = k
        · subst hjk
          obtain ⟨ey0, ey1, ey2, ey3, -⟩ := H2.out.1
          unfold SFlowOp.c
          rw [← ey0, ← ey1, ← ey2, ← ey3]
          obtain rfl | rfl | rfl | rfl : f = 0 ∨ f = 1 ∨ f = 2 ∨ f = 3 := by omega
          · rw [show j * 4 + 0 = j * 4 from rfl, List.getElem?_set_ne (by omega), List.getElem?_set_ne (by omega), List.getElem?_set_ne (by omega), List.getElem?_set_self (by first | omega | (simp only [List.length_set]; omega))]; rfl
          · rw [List.getElem?_set_ne (by omega), List.getElem?_set_ne (by omega), List.getElem?_set_self (by first | omega | (simp only [List.length_set]; omega))]; rfl
          · rw [List.getElem?_set_ne (by omega), List.getElem?_set_self (by first | omega | (simp only [List.length_set]; omega))]; rfl
          · rw [List.getElem?_set_self (by first | omega | (simp only [List.length_set]; omega))]; rfl
        · have u := H2.out.2.2.1 j (by omega) f hf
          rw [List.getElem?_set_ne (by omega), List.getElem?_set_ne (by omega), List.getElem?_set_ne (by omega), List.getElem?_set_ne (by omega)]; exact u
      case measure => simp [intOf]; omega
    · obtain rfl : k = m := by omega
      have H2 : Hid _ := And.intro ow (And.intro hu hb)
      clear ow hu hb
      go_wp2
      go_ret
      exact ⟨_, rfl, ⟨zs, by rw [List.length_map, ← EM.out.1]; exact H2.out.1, fun j hj f hf => by rw [List.length_map] at hj; rw [HL.out.1 j hj]; exact H2.out.2.1 j (by have := EM.out.1; omega) f hf⟩, H2.out.2.2⟩
theorem eqFlowOpS_nil (va vb : Value) (w : World) (ha : GRow 4 w va []) (hb : GRow 4 w vb []) :
    Calls Try.prog 10 #[va, vb] w fun e w' => e = .returned (.bool true) ∧ Below w.heap.size w w' := by
  obtain ⟨ao, ca, rfl⟩ := ha.form
  obtain ⟨bo, cb, rfl⟩ := hb.form
  clear ha hb
  go_enter Try.func10, Try.ntmps10
  go_wp2_with fail
  refine wp_loop_rounds 1 ?_
  rw [rounds_succ]
  go_wp2
  go_ret
  exact ⟨rfl, Below.refl _ _⟩
set_option maxRecDepth 20000 in
set_option maxHeartbeats 4000000 in
theorem eqFlowOpS_core (L : List SFlowOp) (m b off ca b' off' cb : Nat) (w : World) (hm : m ≤ 1048576) (hbl : b < w.heap.size) (hbl' : b' < w.heap.size)
    (hc : ∀ j, j < m → ∀ f, f < 4 → w.cell? ⟨b, off + (j * 4 + f), none⟩ = ((L.getD j default).c)[f]?) (hc' : ∀ j, j < m → ∀ f, f < 4 → w.cell? ⟨b', off' + (j * 4 + f), none⟩ = ((L.getD j default).c)[f]?) :
    Calls Try.prog 10 #[.slice (some ⟨b, off, none⟩) m ca, .slice (some ⟨b', off', none⟩) m cb] w fun e w' => e = .returned (.bool true) ∧ Below w.heap.size w w' := by
  have HH : Hid _ := And.intro hc hc'
  clear hc hc'
  have hmm : ((m : Int) != (m : Int)) = false := by simp
  go_enter Try.func10, Try.ntmps10
  go_wp2_with fail
  go_loopg [5] m (fun q i wr => ∃ k : Nat, k ≤ m ∧ q = m - k ∧ i = .int .i64 (k : Int) ∧ Below w.heap.size w wr)
  case atStart => exact ⟨0, by omega, by omega, rfl, Below.refl _ _⟩
  case round =>
    obtain ⟨k, hk, hq, rfl, bw⟩ := hrel
    by_cases hlt : k < m
    · have bd : Below w.heap.size w wr.drew := below_drewN bw 1
      obtain ⟨x0, ex0⟩ : ∃ x, x = (L.getD k default).f0 := ⟨_, rfl⟩
      obtain ⟨x1, ex1⟩ : ∃ x, x = (L.getD k default).f1 := ⟨_, rfl⟩
      obtain ⟨x2, ex2⟩ : ∃ x, x = (L.getD k default).f2 := ⟨_, rfl⟩
      obtain ⟨x3, ex3⟩ : ∃ x, x = (L.getD k default).f3 := ⟨_, rfl⟩
      have c0 : wr.drew.cell? ⟨b, off + k * 4, none⟩ = some (.int .i64 x0) := by have t := (bd.cell (p := ⟨b, off + (k * 4 + 0), none⟩) hbl).trans (HH.out.1 k hlt 0 (by omega)); rw [ex0]; exact t
      have d0 : wr.drew.cell? ⟨b', off' + k * 4, none⟩ = some (.int .i64 x0) := by have t := (bd.cell (p := ⟨b', off' + (k * 4 + 0), none⟩) hbl').trans (HH.out.2 k hlt 0 (by omega)); rw [ex0]; exact t
      have c1 : wr.drew.cell? ⟨b, off + k * 4 + 1, none⟩ = some (.int .i64 x1) := by have t := (bd.cell (p := ⟨b, off + (k * 4 + 1), none⟩) hbl).trans (HH.out.1 k hlt 1 (by omega)); rw [ex1]; exact t
      have d1 : wr.drew.cell? ⟨b', off' + k * 4 + 1, none⟩ = some (.int .i64 x1) := by have t := (bd.cell (p := ⟨b', off' + (k * 4 + 1), none⟩) hbl').trans (HH.out.2 k hlt 1 (by omega)); rw [ex1]; exact t
      have c2 : wr.drew.cell? ⟨b, off + k * 4 + 2, none⟩ = some (.int .i64 x2) := by have t := (bd.cell (p := ⟨b, off + (k * 4 + 2), none⟩) hbl).trans (HH.out.1 k hlt 2 (by omega)); rw [ex2]; exact t
      have d2 : wr.drew.cell? ⟨b', off' + k * 4 + 2, none⟩ = some (.int .i64 x2) := by have t := (bd.cell (p := ⟨b', off' + (k * 4 + 2), none⟩) hbl').trans (HH.out.2 k hlt 2 (by omega)); rw [ex2]; exact t
      have c3 : wr.drew.cell? ⟨b, off + k * 4 + 3, none⟩ = some (.bool x3) := by have t := (bd.cell (p := ⟨b, off + (k * 4 + 3), none⟩) hbl).trans (HH.out.1 k hlt 3 (by omega)); rw [ex3]; exact t
      have d3 : wr.drew.cell? ⟨b', off' + k * 4 + 3, none⟩ = some (.bool x3) := by have t := (bd.cell (p := ⟨b', off' + (k * 4 + 3), none⟩) hbl').trans (HH.out.2 k hlt 3 (by omega)); rw [ex3]; exact t
      have H4 : Hid _ := And.intro (eqFlowOp x0 x1 x2 x3 wr.drew) bd
      clear bd ex0 ex1 ex2 ex3
      go_upto_region 6 with fail
      go_cut [26] from 11 to 26 (fun cv wx => cv = .bool false ∧ Below w.heap.size w wx)
      case first =>
        go_region_with (go_at_call 23; refine H4.out.1.mono ?_; rintro e wz ⟨rfl, hz⟩)
        all_goals (go_wp2_with fail; go_meet; exact ⟨rfl, H4.out.2.trans (hz.mono H4.out.2.size)⟩)
      case rest =>
      obtain ⟨rfl, bc⟩ := hcut
      have H5 : Hid _ := And.intro bc True.intro
      clear bc bw c0 d0 c1 d1 c2 d2 c3 d3
      go_wp2
      go_roundg (m - (k + 1))
      case measure => omega
      case rel => exact ⟨k + 1, by omega, rfl, by go_num, H5.out.1⟩
    · have H4 : Hid _ := And.intro bw True.intro
      clear bw
      go_wp2
      go_ret
      exact ⟨rfl, H4.out.1⟩
theorem eqFlowOpS (va vb : Value) (L : List SFlowOp) (w : World) (ha : GRow 4 w va (SFlowOp.L L)) (hb : GRow 4 w vb (SFlowOp.L L)) (hm : L.length ≤ 1048576) :
    Calls Try.prog 10 #[va, vb] w fun e w' => e = .returned (.bool true) ∧ Below w.heap.size w w' := by
  by_cases h0 : 0 < L.length
  · obtain ⟨b, off, ca, rfl, hbl, hc⟩ := ha.at' (by rw [List.length_map]; exact h0)
    obtain ⟨b', off', cb, rfl, hbl', hc'⟩ := hb.at' (by rw [List.length_map]; exact h0)
    rw [List.length_map] at hc hc' ⊢
    exact eqFlowOpS_core L _ b off ca b' off' cb w hm hbl hbl' (fun j hj f hf => by rw [← SFlowOp.at L j hj]; exact hc j hj f hf) (fun j hj f hf => by rw [← SFlowOp.at L j hj]; exact hc' j hj f hf)
  · obtain rfl : L = [] := List.eq_nil_of_length_eq_zero (by omega)
    exact eqFlowOpS_nil va vb w ha hb
/-- What markFlowOpS writes. -/
def marksFlowOp (q : Int) (n : Nat) : List (List Value) := (List.range n).map fun (j : Nat) => [.int .i64 (q + 4 * (j : Int)), .int .i64 (q + 4 * (j : Int) + 1), .int .i64 (q + 4 * (j : Int) + 2), .bool ((q + 4 * (j : Int) + 3) % 3 == 0)]
theorem marksFlowOp_length (q : Int) (n : Nat) : (marksFlowOp q n).length = n := by simp [marksFlowOp]
theorem marksFlowOp_at (q : Int) (n j : Nat) (h : j < n) : (marksFlowOp q n).getD j [] = [.int .i64 (q + 4 * (j : Int)), .int .i64 (q + 4 * (j : Int) + 1), .int .i64 (q + 4 * (j : Int) + 2), .bool ((q + 4 * (j : Int) + 3) % 3 == 0)] := by simp [marksFlowOp, List.getD, h]
theorem markFlowOpS_nil (q : Int) (ao : Option Addr) (cp : Nat) (w : World) :
    Calls Try.prog 11 #[.slice ao 0 cp, .int .i64 q] w fun e w' => e = .returned (.int .i64 q) ∧ w' = w := by
  go_enter Try.func11, Try.ntmps11
  go_wp2
  refine wp_loop_rounds 1 ?_
  rw [rounds_succ]
  go_wp2
  go_ret
  exact ⟨rfl, rfl⟩
set_option maxRecDepth 20000 in
set_option maxHeartbeats 4000000 in
theorem markFlowOpS_core (q : Int) (n base g cap : Nat) (zs0 : List Value) (w : World) (hn : n ≤ 140737488355328) (hq0 : 0 ≤ q) (hq1 : q ≤ 140737488355328) (hg : base ≤ g)
    (hown0 : w.ownsRow base 46 4 (.slice (some ⟨g, 0, none⟩) n cap) n zs0) (hl0 : zs0.length = n * 4) :
    Calls Try.prog 11 #[.slice (some ⟨g, 0, none⟩) n cap, .int .i64 q] w fun e w' => e = .returned (.int .i64 (q + 4 * (n : Int))) ∧
      (∃ zs : List Value, (∀ j : Nat, j < n → ∀ f, f < 4 → zs[j * 4 + f]? = ([.int .i64 (q + 4 * (j : Int)), .int .i64 (q + 4 * (j : Int) + 1), .int .i64 (q + 4 * (j : Int) + 2), .bool ((q + 4 * (j : Int) + 3) % 3 == 0)] : List Value)[f]?) ∧ w'.ownsRow base 46 4 (.slice (some ⟨g, 0, none⟩) n cap) n zs) ∧ Below base w w' ∧ w'.heap.size = w.heap.size ∧ Only (some g) w w' := by
  have H0 : Hid _ := And.intro hown0 hl0
  clear hown0 hl0
  go_enter Try.func11, Try.ntmps11
  go_wp2
  go_loopw [1, 5] (fun s i wr => ∃ k : Nat, k ≤ n ∧ i = .int .i64 k ∧ s = .int .i64 (q + 4 * (k : Int)) ∧ ∃ zs : List Value, zs.length = n * 4 ∧ (∀ j : Nat, j < k → ∀ f, f < 4 → zs[j * 4 + f]? = ([.int .i64 (q + 4 * (j : Int)), .int .i64 (q + 4 * (j : Int) + 1), .int .i64 (q + 4 * (j : Int) + 2), .bool ((q + 4 * (j : Int) + 3) % 3 == 0)] : List Value)[f]?) ∧
      wr.ownsRow base 46 4 (.slice (some ⟨g, 0, none⟩) n cap) n zs ∧ Below base w wr ∧ wr.heap.size = w.heap.size ∧ Only (some g) w wr) (fun _ i _ => n - (intOf i).toNat)
  case atStart => exact ⟨0, Nat.zero_le _, rfl, by simp, zs0, H0.out.2, fun j h => by omega, H0.out.1, Below.refl _ _, rfl, Only.refl _ _⟩
  case round =>
    obtain ⟨k, hk, rfl, rfl, zs, hl, hm, hown, hb, hz, ho⟩ := hrel
    by_cases hlt : k < n
    · have hgl : g < wr.heap.size := (hown.lt g rfl).2
      have d0 : k * 4 < n * 4 := by omega
      obtain ⟨z0, hz0'⟩ : ∃ z, zs[k * 4]? = some z := ⟨zs[k * 4]'(by omega), by simp [hl, d0]⟩
      have r0 := hown.cellAt (k * 4) d0
      rw [hz0'] at r0
      have p0 := hown.frozenAt (k * 4)
      have d1 : k * 4 + 1 < n * 4 := by omega
      obtain ⟨z1, hz1'⟩ : ∃ z, zs[k * 4 + 1]? = some z := ⟨zs[k * 4 + 1]'(by omega), by simp [hl, d1]⟩
      have r1 := hown.cellAt (k * 4 + 1) d1
      rw [hz1'] at r1
      have p1 := hown.frozenAt (k * 4 + 1)
      have d2 : k * 4 + 2 < n * 4 := by omega
      obtain ⟨z2, hz2'⟩ : ∃ z, zs[k * 4 + 2]? = some z := ⟨zs[k * 4 + 2]'(by omega), by simp [hl, d2]⟩
      have r2 := hown.cellAt (k * 4 + 2) d2
      rw [hz2'] at r2
      have p2 := hown.frozenAt (k * 4 + 2)
      have d3 : k * 4 + 3 < n * 4 := by omega
      obtain ⟨z3, hz3'⟩ : ∃ z, zs[k * 4 + 3]? = some z := ⟨zs[k * 4 + 3]'(by omega), by simp [hl, d3]⟩
      have r3 := hown.cellAt (k * 4 + 3) d3
      rw [hz3'] at r3
      have p3 := hown.frozenAt (k * 4 + 3)
      obtain ⟨s, es⟩ : ∃ s, s = q + 4 * (k : Int) := ⟨_, rfl⟩
      have hs0 : 0 ≤ s := by omega
      rw [← es]
      obtain ⟨tb3, etb3⟩ : ∃ tb : Bool, tb = ((s + 3) % 3 == 0) := ⟨_, rfl⟩
      have htb3 : ((s + 1 + 1 + 1).tmod 3 == 0) = tb3 := by rw [etb3, show s + 1 + 1 + 1 = s + 3 by omega, Int.tmod_eq_emod_of_nonneg (by omega)]
      have htc3 : ((s + 1 + 1 + 1) % 3 == 0) = tb3 := by rw [etb3, show s + 1 + 1 + 1 = s + 3 by omega]
      have HT3 : Hid _ := And.intro etb3 True.intro
      clear etb3
      have w1 : IntKind.i64.wrap (s + 1) = s + 1 := by rw [IntKind.wrap_i64]; omega
      have w2 : IntKind.i64.wrap (s + 1 + 1) = s + 1 + 1 := by rw [IntKind.wrap_i64]; omega
      have w3 : IntKind.i64.wrap (s + 1 + 1 + 1) = s + 1 + 1 + 1 := by rw [IntKind.wrap_i64]; omega
      have w4 : IntKind.i64.wrap (s + 1 + 1 + 1 + 1) = s + 1 + 1 + 1 + 1 := by rw [IntKind.wrap_i64]; omega
      have H2 : Hid _ := And.intro es (And.intro hl (And.intro hm (And.intro hown (And.intro hb (And.intro hz ho)))))
      clear es hl hm hown hb hz ho hz0' hz1' hz2' hz3'
      go_wp2
      go_roundw
      case rel =>
        obtain ⟨es, hl, hm, hown, hb, hz, ho⟩ := H2.out
        refine ⟨k + 1, by omega, by go_num, by rw [es]; congr 1; omega, ((((zs.set (k * 4) (.int .i64 (s))).set (k * 4 + 1) (.int .i64 (s + 1))).set (k * 4 + 2) (.int .i64 (s + 1 + 1))).set (k * 4 + 3) (.bool tb3)), by simp only [List.length_set]; exact hl, fun j hj f hf => ?_, ((((hown.stored (k * 4) _).1.stored (k * 4 + 1) _).1.stored (k * 4 + 2) _).1.stored (k * 4 + 3) _).1, ((((hb.setCell (p := ⟨g, k * 4, none⟩) hg _).setCell (p := ⟨g, k * 4 + 1, none⟩) hg _).setCell (p := ⟨g, k * 4 + 2, none⟩) hg _).setCell (p := ⟨g, k * 4 + 3, none⟩) hg _), by simp [World.setCell, hz], ((((ho.trans (Only.setCell ⟨g, k * 4, none⟩ _)).trans (Only.setCell ⟨g, k * 4 + 1, none⟩ _)).trans (Only.setCell ⟨g, k * 4 + 2, none⟩ _)).trans (Only.setCell ⟨g, k * 4 + 3, none⟩ _))⟩
        by_cases hjk : j = k
        · subst hjk
          rw [← es]
          obtain rfl | rfl | rfl | rfl : f = 0 ∨ f = 1 ∨ f = 2 ∨ f = 3 := by omega
          · rw [show j * 4 + 0 = j * 4 from rfl, List.getElem?_set_ne (by omega), List.getElem?_set_ne (by omega), List.getElem?_set_ne (by omega), List.getElem?_set_self (by first | omega | (simp only [List.length_set]; omega))]; rfl
          · rw [List.getElem?_set_ne (by omega), List.getElem?_set_ne (by omega), List.getElem?_set_self (by first | omega | (simp only [List.length_set]; omega))]; simp <;> omega
          · rw [List.getElem?_set_ne (by omega), List.getElem?_set_self (by first | omega | (simp only [List.length_set]; omega))]; simp <;> omega
          · rw [List.getElem?_set_self (by first | omega | (simp only [List.length_set]; omega))]; rw [HT3.out.1]; rfl
        · have u := hm j (by omega) f hf
          rw [List.getElem?_set_ne (by omega), List.getElem?_set_ne (by omega), List.getElem?_set_ne (by omega), List.getElem?_set_ne (by omega)]; exact u
      case measure => simp [intOf]; omega
    · have HR : Hid _ := And.intro hm (And.intro hown (And.intro hb (And.intro hz ho)))
      clear hl hm hown hb hz ho
      go_wp2
      go_ret
      obtain rfl : k = n := by omega
      obtain ⟨r1, r2, r3, r4, r5⟩ := HR.out
      exact ⟨rfl, ⟨zs, r1, r2⟩, r3, r4, r5⟩
theorem markFlowOpS (q : Int) (base : Nat) (v : Value) (L : List (List Value)) (w : World) (hn : L.length ≤ 140737488355328) (hq0 : 0 ≤ q) (hq1 : q ≤ 140737488355328) (h : GOwns 46 4 w base v L) :
    Calls Try.prog 11 #[v, .int .i64 q] w fun e w' => e = .returned (.int .i64 (q + 4 * (L.length : Int))) ∧ GOwns 46 4 w' base v (marksFlowOp q L.length) ∧ Below base w w' ∧ w'.heap.size = w.heap.size ∧ Only v.ownBlock w w' := by
  obtain ⟨zs, ho, hz⟩ := id h
  have hl : zs.length = L.length * 4 := ho.1
  rcases ho.2 with ⟨rfl, h0⟩ | ⟨g, cap, cur, rfl, hg, hh, r⟩
  · have hR : L = [] := List.eq_nil_of_length_eq_zero h0
    subst hR
    refine (markFlowOpS_nil q _ _ w).mono ?_
    rintro e w' ⟨rfl, rfl⟩
    exact ⟨by simp, h, Below.refl _ _, rfl, Only.refl _ _⟩
  · refine (markFlowOpS_core q L.length base g cap zs w hn hq0 hq1 hg ho hl).mono ?_
    rintro e w' ⟨rfl, ⟨ys, hy, ho2⟩, hb, hz2, hon⟩
    refine ⟨rfl, ⟨ys, by rw [marksFlowOp_length]; exact ho2, fun j hj f hf => ?_⟩, hb, hz2, hon⟩
    rw [marksFlowOp_length] at hj
    rw [marksFlowOp_at _ _ _ hj]
    exact hy j hj f hf
end Go.Proofs.Ytcoakpmfappnlaa
