import Derived.Test.YtdjflbanbhhniaaDoorFlat
namespace Go.Proofs.YtdjflbanbhhniaaDoor
open Go.RowKit
set_option linter.unusedVariables false

/-- Field: its numbers. -/
structure SField where
  f0 : ByteArray
  f1 : ByteArray
instance : Inhabited SField := ⟨⟨⟨#[]⟩, ⟨#[]⟩⟩⟩
def SField.c (e : SField) : List Value := [.string e.f0, .string e.f1]
abbrev SField.L (L : List SField) : List (List Value) := L.map SField.c
theorem SField.at (L : List SField) (j : Nat) (h : j < L.length) : (SField.L L).getD j [] = (L.getD j default).c := map_at _ L default j h
theorem infoField : (Tryd.prog.info? 44).map (fun i => (i.zero, i.size, i.bytes)) = some (some (.agg #[.string ⟨#[]⟩, .string ⟨#[]⟩]), 2, 32) := by kernel_rfl
theorem toField (x0 : ByteArray) (x1 : ByteArray) (w : World) : Calls Tryd.prog 26 #[(.agg #[.string x0, .string x1])] w fun e w' => e = .returned (.agg #[.string x0, .string x1]) ∧ Below w.heap.size w w' := by
  go_enter Tryd.func26, Tryd.ntmps26
  go_wp2
  exact bodyPost_ret (v := (.agg #[.string x0, .string x1])) (by simp [results, Tryd.results26, go_sem]) rfl ⟨rfl, (((Below.refl _ _).alloc (Nat.le_refl _) _).alloc (by simp) _).alloc (by simp; omega) _⟩
theorem eqField (x0 : ByteArray) (x1 : ByteArray) (w : World) : Calls Tryd.prog 22 #[(.agg #[.string x0, .string x1]), (.agg #[.string x0, .string x1])] w fun e w' => e = .returned (.bool true) ∧ Below w.heap.size w w' := by
  have h0 : (x0 != x0) = false := by simp [bne, show (x0 == x0) = true by show (x0.data == x0.data) = true; exact beq_self_eq_true _]
  have h1 : (x1 != x1) = false := by simp [bne, show (x1 == x1) = true by show (x1.data == x1.data) = true; exact beq_self_eq_true _]
  go_enter Tryd.func22, Tryd.ntmps22
  go_wp2
  go_ret
  exact ⟨rfl, ((Below.refl _ _).alloc (Nat.le_refl _) _).alloc (by simp) _⟩
set_option maxRecDepth 20000 in
set_option maxHeartbeats 4000000 in
theorem toFieldS (v : Value) (L : List SField) (w : World) (h : GRow 2 w v (SField.L L)) (hR : L.length ≤ 1048576) :
    Calls Tryd.prog 16 #[v] w fun e w' => ∃ r, e = .returned r ∧ GOwns 44 2 w' w.heap.size r (SField.L L) ∧ Below w.heap.size w w' := by
  obtain ⟨ao, cp, rfl⟩ := h.form
  obtain ⟨i0, hi, hz0, hz1, hz2⟩ := info_parts infoField
  have HH : Hid _ := And.intro h True.intro
  rw [List.length_map] at *
  obtain ⟨m, em⟩ : ∃ m, m = L.length := ⟨_, rfl⟩
  have EM : Hid _ := And.intro em True.intro
  have HL : Hid _ := And.intro (fun j hj => SField.at L j hj) True.intro
  rw [← em] at hR ⊢
  rw [← em] at HH
  clear h em
  go_enter Tryd.func16, Tryd.ntmps16
  go_wp2_with (at_make; refine wpList_make_full _ rfl _ _ 26 rfl w.heap.size 44 i0 (.agg #[.string ⟨#[]⟩, .string ⟨#[]⟩]) 2 Tryd.underlying26 hi hz0 hz1 .i64 .i64 (m : Int) (m : Int) m rfl rfl rfl rfl (by rw [hz2]; omega) (by unfold maxLen; omega) (Nat.le_refl _) ?_; intro w1 hown hg)
  have H1 : Hid _ := And.intro hown ((Below.refl w.heap.size w).grown hg (Nat.le_refl _) (by intro k hk; cases hk))
  clear hown hg
  go_loopw [4] (fun i wr => ∃ k : Nat, k ≤ m ∧ i = .int .i64 k ∧ ∃ zs : List Value, zs.length = m * 2 ∧ wr.ownsRow w.heap.size 44 2 (.slice (some ⟨w.heap.size, 0, none⟩) m m) m zs ∧ (∀ j, j < k → ∀ f, f < 2 → zs[j * 2 + f]? = ((L.getD j default).c)[f]?) ∧ Below w.heap.size w wr) (fun i _ => m - (intOf i).toNat)
  case atStart => exact ⟨0, by omega, rfl, _, by have := H1.out.1.1; simpa using this, H1.out.1, fun j hj => by omega, H1.out.2⟩
  case round =>
    obtain ⟨k, hk, rfl, zs, hzl, ow, hu, hb⟩ := hrel
    by_cases hlt : k < m
    · obtain ⟨b, off, cap, ev, hbl, hc⟩ := HH.out.1.at' (by rw [List.length_map]; have := EM.out.1; omega)
      simp only [Value.slice.injEq] at ev
      obtain ⟨rfl, em2, rfl⟩ := ev
      clear em2
      have hck := hc k (by rw [List.length_map]; have := EM.out.1; omega)
      rw [HL.out.1 k (by have := EM.out.1; omega)] at hck
      have hgl : w.heap.size < wr.heap.size := (ow.lt w.heap.size rfl).2
      obtain ⟨x0, ex0⟩ : ∃ x, x = (L.getD k default).f0 := ⟨_, rfl⟩
      obtain ⟨x1, ex1⟩ : ∃ x, x = (L.getD k default).f1 := ⟨_, rfl⟩
      have c0 : wr.cell? ⟨b, off + k * 2, none⟩ = some (.string x0) := by have t := (hb.cell (p := ⟨b, off + (k * 2 + 0), none⟩) hbl).trans (hck 0 (by omega)); rw [ex0]; exact t
      have c1 : wr.cell? ⟨b, off + k * 2 + 1, none⟩ = some (.string x1) := by have t := (hb.cell (p := ⟨b, off + (k * 2 + 1), none⟩) hbl).trans (hck 1 (by omega)); rw [ex1]; exact t
      have H2 : Hid _ := And.intro (And.intro ex0 (And.intro ex1 (True.intro))) (And.intro ow (And.intro hu (And.intro hb (And.intro hzl hgl))))
      clear ow hu hb hc hck hzl ex0 ex1
      go_wp2_with fail
      go_at_call 26
      refine (toField x0 x1 wr).mono ?_
      rintro e w2 ⟨rfl, bq⟩
      have ow2 := owns_below H2.out.2.1 bq
      have d0 : k * 2 < m * 2 := by omega
      have s0 : w2.cell? ⟨w.heap.size, k * 2, none⟩ = zs[k * 2]? := ow2.cellAt (k * 2) d0
      obtain ⟨z0, hz0'⟩ : ∃ z, zs[k * 2]? = some z := ⟨zs[k * 2]'(by have := H2.out.2.2.2.2.1; omega), by simp [H2.out.2.2.2.2.1, d0]⟩
      rw [hz0'] at s0
      have f0 := ow2.frozenAt (k * 2)
      have d1 : k * 2 + 1 < m * 2 := by omega
      have s1 : w2.cell? ⟨w.heap.size, k * 2 + 1, none⟩ = zs[k * 2 + 1]? := ow2.cellAt (k * 2 + 1) d1
      obtain ⟨z1, hz1'⟩ : ∃ z, zs[k * 2 + 1]? = some z := ⟨zs[k * 2 + 1]'(by have := H2.out.2.2.2.2.1; omega), by simp [H2.out.2.2.2.2.1, d1]⟩
      rw [hz1'] at s1
      have f1 := ow2.frozenAt (k * 2 + 1)
      have H3 : Hid _ := And.intro ow2 bq
      clear ow2 bq hz0' hz1'
      go_wp2
      go_roundw
      case rel =>
        refine ⟨k + 1, by omega, by go_num, ((zs.set (k * 2) (.string x0)).set (k * 2 + 1) (.string x1)), by simp only [List.length_set]; exact H2.out.2.2.2.2.1, ((H3.out.1.stored (k * 2) _).1.stored (k * 2 + 1) _).1, fun j hj f hf => ?_, (((H2.out.2.2.2.1.trans (H3.out.2.mono H2.out.2.2.2.1.size)).setCell (Nat.le_refl _) _).setCell (Nat.le_refl _) _)⟩
        have hl2 : zs.length = m * 2 := H2.out.2.2.2.2.1
        by_cases hjk : j = k
        · subst hjk
          obtain ⟨ey0, ey1, -⟩ := H2.out.1
          unfold SField.c
          rw [← ey0, ← ey1]
          obtain rfl | rfl : f = 0 ∨ f = 1 := by omega
          · rw [show j * 2 + 0 = j * 2 from rfl, List.getElem?_set_ne (by omega), List.getElem?_set_self (by first | omega | (simp only [List.length_set]; omega))]; rfl
          · rw [List.getElem?_set_self (by first | omega | (simp only [List.length_set]; omega))]; rfl
        · have u := H2.out.2.2.1 j (by omega) f hf
          rw [List.getElem?_set_ne (by omega), List.getElem?_set_ne (by omega)]; exact u
      case measure => simp [intOf]; omega
    · obtain rfl : k = m := by omega
      have H2 : Hid _ := And.intro ow (And.intro hu hb)
      clear ow hu hb
      go_wp2
      go_ret
      exact ⟨_, rfl, ⟨zs, by rw [List.length_map, ← EM.out.1]; exact H2.out.1, fun j hj f hf => by rw [List.length_map] at hj; rw [HL.out.1 j hj]; exact H2.out.2.1 j (by have := EM.out.1; omega) f hf⟩, H2.out.2.2⟩
theorem eqFieldS_nil (va vb : Value) (w : World) (ha : GRow 2 w va []) (hb : GRow 2 w vb []) :
    Calls Tryd.prog 9 #[va, vb] w fun e w' => e = .returned (.bool true) ∧ Below w.heap.size w w' := by
  obtain ⟨ao, ca, rfl⟩ := ha.form
  obtain ⟨bo, cb, rfl⟩ := hb.form
  clear ha hb
  go_enter Tryd.func9, Tryd.ntmps9
  go_wp2_with fail
  refine wp_loop_rounds 1 ?_
  rw [rounds_succ]
  go_wp2
  go_ret
  exact ⟨rfl, Below.refl _ _⟩
set_option maxRecDepth 20000 in
set_option maxHeartbeats 4000000 in
theorem eqFieldS_core (L : List SField) (m b off ca b' off' cb : Nat) (w : World) (hm : m ≤ 1048576) (hbl : b < w.heap.size) (hbl' : b' < w.heap.size)
    (hc : ∀ j, j < m → ∀ f, f < 2 → w.cell? ⟨b, off + (j * 2 + f), none⟩ = ((L.getD j default).c)[f]?) (hc' : ∀ j, j < m → ∀ f, f < 2 → w.cell? ⟨b', off' + (j * 2 + f), none⟩ = ((L.getD j default).c)[f]?) :
    Calls Tryd.prog 9 #[.slice (some ⟨b, off, none⟩) m ca, .slice (some ⟨b', off', none⟩) m cb] w fun e w' => e = .returned (.bool true) ∧ Below w.heap.size w w' := by
  have HH : Hid _ := And.intro hc hc'
  clear hc hc'
  have hmm : ((m : Int) != (m : Int)) = false := by simp
  go_enter Tryd.func9, Tryd.ntmps9
  go_wp2_with fail
  go_loopg [5] m (fun q i wr => ∃ k : Nat, k ≤ m ∧ q = m - k ∧ i = .int .i64 (k : Int) ∧ Below w.heap.size w wr)
  case atStart => exact ⟨0, by omega, by omega, rfl, Below.refl _ _⟩
  case round =>
    obtain ⟨k, hk, hq, rfl, bw⟩ := hrel
    by_cases hlt : k < m
    · have bd : Below w.heap.size w wr.drew := below_drewN bw 1
      obtain ⟨x0, ex0⟩ : ∃ x, x = (L.getD k default).f0 := ⟨_, rfl⟩
      obtain ⟨x1, ex1⟩ : ∃ x, x = (L.getD k default).f1 := ⟨_, rfl⟩
      have c0 : wr.drew.cell? ⟨b, off + k * 2, none⟩ = some (.string x0) := by have t := (bd.cell (p := ⟨b, off + (k * 2 + 0), none⟩) hbl).trans (HH.out.1 k hlt 0 (by omega)); rw [ex0]; exact t
      have d0 : wr.drew.cell? ⟨b', off' + k * 2, none⟩ = some (.string x0) := by have t := (bd.cell (p := ⟨b', off' + (k * 2 + 0), none⟩) hbl').trans (HH.out.2 k hlt 0 (by omega)); rw [ex0]; exact t
      have c1 : wr.drew.cell? ⟨b, off + k * 2 + 1, none⟩ = some (.string x1) := by have t := (bd.cell (p := ⟨b, off + (k * 2 + 1), none⟩) hbl).trans (HH.out.1 k hlt 1 (by omega)); rw [ex1]; exact t
      have d1 : wr.drew.cell? ⟨b', off' + k * 2 + 1, none⟩ = some (.string x1) := by have t := (bd.cell (p := ⟨b', off' + (k * 2 + 1), none⟩) hbl').trans (HH.out.2 k hlt 1 (by omega)); rw [ex1]; exact t
      have H4 : Hid _ := And.intro (eqField x0 x1 wr.drew) bd
      clear bd ex0 ex1
      go_upto_region 6 with fail
      go_cut [26] from 11 to 26 (fun cv wx => cv = .bool false ∧ Below w.heap.size w wx)
      case first =>
        go_region_with (go_at_call 22; refine H4.out.1.mono ?_; rintro e wz ⟨rfl, hz⟩)
        all_goals (go_wp2_with fail; go_meet; exact ⟨rfl, H4.out.2.trans (hz.mono H4.out.2.size)⟩)
      case rest =>
      obtain ⟨rfl, bc⟩ := hcut
      have H5 : Hid _ := And.intro bc True.intro
      clear bc bw c0 d0 c1 d1
      go_wp2
      go_roundg (m - (k + 1))
      case measure => omega
      case rel => exact ⟨k + 1, by omega, rfl, by go_num, H5.out.1⟩
    · have H4 : Hid _ := And.intro bw True.intro
      clear bw
      go_wp2
      go_ret
      exact ⟨rfl, H4.out.1⟩
theorem eqFieldS (va vb : Value) (L : List SField) (w : World) (ha : GRow 2 w va (SField.L L)) (hb : GRow 2 w vb (SField.L L)) (hm : L.length ≤ 1048576) :
    Calls Tryd.prog 9 #[va, vb] w fun e w' => e = .returned (.bool true) ∧ Below w.heap.size w w' := by
  by_cases h0 : 0 < L.length
  · obtain ⟨b, off, ca, rfl, hbl, hc⟩ := ha.at' (by rw [List.length_map]; exact h0)
    obtain ⟨b', off', cb, rfl, hbl', hc'⟩ := hb.at' (by rw [List.length_map]; exact h0)
    rw [List.length_map] at hc hc' ⊢
    exact eqFieldS_core L _ b off ca b' off' cb w hm hbl hbl' (fun j hj f hf => by rw [← SField.at L j hj]; exact hc j hj f hf) (fun j hj f hf => by rw [← SField.at L j hj]; exact hc' j hj f hf)
  · obtain rfl : L = [] := List.eq_nil_of_length_eq_zero (by omega)
    exact eqFieldS_nil va vb w ha hb
end Go.Proofs.YtdjflbanbhhniaaDoor
