import Derived.Test.YtkjfpgdnhdnceabDoorSpecPut
namespace Go.Proofs.YtkjfpgdnhdnceabDoor
open Go.RowKit
set_option linter.unusedVariables false

/-- A number that a variable integer holds. -/
def okv (v : Int) : Prop := 0 ≤ v ∧ v ≤ 4611686018427387903
theorem vsize_bd (v : Int) (h : okv v) : 1 ≤ (vsize v).toNat ∧ (vsize v).toNat ≤ 8 := by
  obtain ⟨h0, h1⟩ := h
  unfold vsize
  rw [if_neg (by omega)]
  split <;> (try split) <;> (try split) <;> (try split) <;> omega
theorem putv_length (v : Int) : (putv v).length = (vsize v).toNat := by unfold putv; rw [List.length_set, be_length]

/-- The bytes of a list, of its first k numbers. -/
def cat (xs : List Int) (k : Nat) : List Int := putv xs.length ++ (xs.take k).flatMap putv
theorem cat_succ (xs : List Int) (k : Nat) (h : k < xs.length) : cat xs (k + 1) = cat xs k ++ putv (xs.getD k 0) := by
  have e : xs.getD k 0 = xs[k] := by simp [List.getD, h]
  unfold cat
  rw [e, List.take_succ_eq_append_getElem h, List.flatMap_append, List.append_assoc]
  simp
theorem cat_length (xs : List Int) (k : Nat) (hn : okv xs.length) (h : k ≤ xs.length) (hok : ∀ j, j < k → okv (xs.getD j 0)) : (cat xs k).length ≤ 8 * (k + 1) := by
  induction k with
  | zero =>
    unfold cat
    simp only [List.take_zero, List.flatMap_nil, List.append_nil, putv_length]
    have := vsize_bd _ hn
    omega
  | succ k ih =>
    have h1 := ih (by omega) (fun j hj => hok j (by omega))
    have h2 := vsize_bd _ (hok k (by omega))
    rw [cat_succ xs k (by omega), List.length_append, putv_length]
    omega

/-- What one append of the loop does. -/
theorem cat_step {w wr w1 w2 : World} {v v' : Value} {ys zs : List Int} {m : Nat} (hm : zs.length = m) (hown : wr.ownsRow w.heap.size 5 1 v ys.length (ys.map (Value.int .u8))) (hb : Below w.heap.size w wr) (hb1 : Below wr.heap.size wr w1)
    (hown' : w2.ownsRow w.heap.size 5 1 v' (ys.length + m) (ys.map (Value.int .u8) ++ zs.map (Value.int .u8))) (hgrow : w1.grownBy w2 v.ownBlock) :
    w2.ownsRow w.heap.size 5 1 v' (ys ++ zs).length ((ys ++ zs).map (Value.int .u8)) ∧ Below w.heap.size w w2 := by
  refine ⟨by rw [List.length_append, List.map_append, hm]; exact hown', ?_⟩
  refine (hb.trans (hb1.mono hb.size)).grown hgrow (Nat.le_trans hb.size hb1.size) ?_
  intro k hk
  exact (hown.lt k hk).1
theorem one_cells (zs : List Int) (k : IntKind) : ∀ u, u ∈ zs.map (Value.int k) → u.oneCell' = true := by
  intro u hu
  obtain ⟨z, _, rfl⟩ := List.mem_map.1 hu
  rfl
theorem piece_cells {w : World} {base e g m cap : Nat} {zs : List Int} (h : w.ownsRow base e 1 (.slice (some ⟨g, 0, none⟩) m cap) m (zs.map (Value.int .u8))) :
    ∀ (j : Nat) (u : Value), (zs.map (Value.int .u8))[j]? = some u → w.cell? ((⟨g, 0, none⟩ : Addr).add j) = some u := by
  intro j u hj
  have hl : (zs.map (Value.int .u8)).length = m * 1 := h.1
  have hlt : j < m * 1 := by
    rw [← hl]
    exact (List.getElem?_eq_some_iff.1 hj).1
  have := h.cellAt j hlt
  rw [Go.WideShapes.add_plain, Nat.zero_add, this]
  exact hj

theorem specPVs_long (ao : Option Addr) (n cap : Nat) (w : World) (h : 4096 < n) (hm : n ≤ 9223372036854775807) :
    Calls Tryd.prog 5 #[.slice ao n cap] w fun e w' => ∃ r, e = .returned (.tuple #[r, .int .i64 4]) ∧ w'.ownsRow w.heap.size 5 1 r 0 (([] : List Int).map (Value.int .u8)) ∧ Below w.heap.size w w' := by
  go_enter Tryd.func5, Tryd.ntmps5
  go_wp2
  go_ret2
  exact ⟨_, rfl, World.ownsRow_lit _ #[] 0 (Nat.le_refl _) (by decide) rfl, (Below.refl _ _).alloc (Nat.le_refl _) _⟩

set_option maxHeartbeats 1000000 in
theorem specPVs_ok (n : Nat) (xs : List Int) (b off cap : Nat) (w : World) (hn : n ≤ 4096) (hl : xs.length = n) (hbs : b < w.heap.size) (hall : ∀ j, j < n → okv (xs.getD j 0))
    (hc : ∀ j, j < n → w.cell? ⟨b, off + j, none⟩ = some (.int .i64 (xs.getD j 0))) :
    Calls Tryd.prog 5 #[.slice (some ⟨b, off, none⟩) n cap] w fun e w' => ∃ r, e = .returned (.tuple #[r, .int .i64 0]) ∧ w'.ownsRow w.heap.size 5 1 r (cat xs n).length ((cat xs n).map (Value.int .u8)) ∧ Below w.heap.size w w' := by
  have HC : Hid (∀ j, j < n → w.cell? ⟨b, off + j, none⟩ = some (.int .i64 (xs.getD j 0))) := hc
  have HL : Hid (xs.length = n) := hl
  have HA : Hid (∀ j, j < n → okv (xs.getD j 0)) := hall
  have hon : okv (n : Int) := ⟨by omega, by omega⟩
  have P0 : Calls Tryd.prog 19 #[.int .i64 (n : Int)] w fun e w' => ∃ r, e = .returned (.tuple #[r, .int .i64 0]) ∧ w'.ownsRow w.heap.size 5 1 r (vsize n).toNat ((putv n).map (Value.int .u8)) ∧ Below w.heap.size w w' :=
    specPutVar n w hon.1 hon.2
  have hcl : ∀ k, k ≤ n → (cat xs k).length ≤ 8 * (k + 1) := fun k hk => cat_length xs k (by rw [hl]; exact hon) (by omega) (fun j hj => hall j (by omega))
  have HCL : Hid (∀ k, k ≤ n → (cat xs k).length ≤ 8 * (k + 1)) := hcl
  have hc0 : cat xs 0 = putv n := by unfold cat; rw [hl]; simp
  have HC0 : Hid (cat xs 0 = putv n ∧ (putv (n : Int)).length = (vsize n).toNat) := ⟨hc0, putv_length _⟩
  have HON : Hid (okv (n : Int)) := hon
  clear hc hl hall hcl hc0 hon
  obtain ⟨i0, hi, hz0, hz1, hz2⟩ := info_parts infoU8
  go_enter Tryd.func5, Tryd.ntmps5
  go_wp2_with (go_at_call 19; refine P0.mono ?_; rintro e w1 ⟨r, rfl, hown0, hb0⟩)
  clear P0
  go_loopw [4, 6] (fun v i wr => ∃ k : Nat, k ≤ n ∧ i = .int .i64 k ∧ wr.ownsRow w.heap.size 5 1 v (cat xs k).length ((cat xs k).map (Value.int .u8)) ∧ Below w.heap.size w wr) (fun _ i _ => n - (intOf i).toNat)
  case atStart => exact ⟨0, Nat.zero_le _, rfl, by rw [HC0.out.1, HC0.out.2]; exact hown0, hb0⟩
  case round =>
    obtain ⟨k, hk, rfl, hown, hb⟩ := hrel
    clear hown0 hb0
    by_cases hlt : k < n
    · have c1 : wr.cell? ⟨b, off + k, none⟩ = some (.int .i64 (xs.getD k 0)) := (hb.cell (p := ⟨b, off + k, none⟩) hbs).trans (HC.out k (by omega))
      have hok := HA.out k hlt
      have hcl := HCL.out k hk
      have hvb := vsize_bd _ hok
      have hpl := putv_length (xs.getD k 0)
      have HCS : Hid (cat xs (k + 1) = cat xs k ++ putv (xs.getD k 0)) := cat_succ xs k (by rw [HL.out]; omega)
      obtain ⟨x, hx⟩ : ∃ x, x = xs.getD k 0 := ⟨_, rfl⟩
      rw [← hx] at c1 hok hvb hpl HCS
      have P1 : Calls Tryd.prog 19 #[.int .i64 x] wr fun e w' => ∃ r, e = .returned (.tuple #[r, .int .i64 0]) ∧ w'.ownsRow wr.heap.size 5 1 r (vsize x).toNat ((putv x).map (Value.int .u8)) ∧ Below wr.heap.size wr w' :=
        specPutVar x wr hok.1 hok.2
      obtain ⟨m, em⟩ : ∃ m, m = (vsize x).toNat := ⟨_, rfl⟩
      rw [← em] at P1 hvb hpl
      obtain ⟨ys, ey⟩ : ∃ ys, ys = cat xs k := ⟨_, rfl⟩
      rw [← ey] at hown hcl HCS
      have HPL : Hid ((putv x).length = m) := hpl
      clear hx em ey hok hpl
      have R := fun (w1 w2 : World) (v' : Value) (h1 : Below wr.heap.size wr w1) (h2 : w2.ownsRow w.heap.size 5 1 v' (ys.length + m) (ys.map (Value.int .u8) ++ (putv x).map (Value.int .u8))) (h3 : w1.grownBy w2 (Value.ownBlock _)) => cat_step HPL.out hown hb h1 h2 h3
      have HR : Hid _ := R
      clear R
      go_wp2_with (first
        | (go_at_call 19; refine P1.mono ?_; rintro e w1 ⟨r, rfl, hown1, hb1⟩; obtain ⟨g, cp, rfl, hg, hgl⟩ := owns_shape hown1 hvb.1)
        | (at_builtin; refine wpList_append_own _ rfl _ _ 22 rfl w.heap.size 5 i0 (.int .u8 0) 1 1 Tryd.underlying22 hi hz0 hz1 hz2 rfl (by decide) _ _ _ rfl (owns_below hown hb1) ⟨g, 0, none⟩ m cp ((putv x).map (Value.int .u8)) rfl hown1.1 (piece_cells hown1) (one_cells _ _) (by unfold maxLen; omega) (by omega) (Nat.le_trans hb.size hb1.size) ?_; intro v' w2 hown2 hgrow hnil))
      have RR := HR.out w1 w2 v' hb1 hown2 hgrow
      have HRR : Hid _ := RR
      clear RR HR hnil hown2 hgrow hown1 hb1 hown hb P1
      go_wp2
      go_roundw
      case rel => exact ⟨k + 1, by omega, by go_num, by rw [HCS.out]; exact HRR.out.1, HRR.out.2⟩
      case measure => simp [intOf]; omega
    · obtain rfl : k = n := by omega
      go_wp2
      go_ret2
      exact ⟨_, rfl, hown, hb⟩

set_option maxHeartbeats 1000000 in
theorem specPVs_no (n : Nat) (xs : List Int) (b off cap : Nat) (w : World) (hn : n ≤ 4096) (hl : xs.length = n) (hbs : b < w.heap.size) (q : Nat) (hq : q < n) (hall : ∀ j, j < q → okv (xs.getD j 0)) (hbad : ¬ okv (xs.getD q 0))
    (hc : ∀ j, j < n → w.cell? ⟨b, off + j, none⟩ = some (.int .i64 (xs.getD j 0))) :
    Calls Tryd.prog 5 #[.slice (some ⟨b, off, none⟩) n cap] w fun e w' => ∃ r, e = .returned (.tuple #[r, .int .i64 1]) ∧ w'.ownsRow w.heap.size 5 1 r 0 (([] : List Int).map (Value.int .u8)) ∧ Below w.heap.size w w' := by
  have HC : Hid (∀ j, j < n → w.cell? ⟨b, off + j, none⟩ = some (.int .i64 (xs.getD j 0))) := hc
  have HL : Hid (xs.length = n) := hl
  have HA : Hid (∀ j, j < q → okv (xs.getD j 0)) := hall
  have hon : okv (n : Int) := ⟨by omega, by omega⟩
  have P0 : Calls Tryd.prog 19 #[.int .i64 (n : Int)] w fun e w' => ∃ r, e = .returned (.tuple #[r, .int .i64 0]) ∧ w'.ownsRow w.heap.size 5 1 r (vsize n).toNat ((putv n).map (Value.int .u8)) ∧ Below w.heap.size w w' :=
    specPutVar n w hon.1 hon.2
  have hcl : ∀ k, k ≤ q → (cat xs k).length ≤ 8 * (k + 1) := fun k hk => cat_length xs k (by rw [hl]; exact hon) (by omega) (fun j hj => hall j (by omega))
  have HCL : Hid (∀ k, k ≤ q → (cat xs k).length ≤ 8 * (k + 1)) := hcl
  have hc0 : cat xs 0 = putv n := by unfold cat; rw [hl]; simp
  have HC0 : Hid (cat xs 0 = putv n ∧ (putv (n : Int)).length = (vsize n).toNat) := ⟨hc0, putv_length _⟩
  have HON : Hid (okv (n : Int)) := hon
  clear hc hl hall hcl hc0 hon
  obtain ⟨i0, hi, hz0, hz1, hz2⟩ := info_parts infoU8
  go_enter Tryd.func5, Tryd.ntmps5
  go_wp2_with (go_at_call 19; refine P0.mono ?_; rintro e w1 ⟨r, rfl, hown0, hb0⟩)
  clear P0
  go_loopw [4, 6] (fun v i wr => ∃ k : Nat, k ≤ q ∧ i = .int .i64 k ∧ wr.ownsRow w.heap.size 5 1 v (cat xs k).length ((cat xs k).map (Value.int .u8)) ∧ Below w.heap.size w wr) (fun _ i _ => n - (intOf i).toNat)
  case atStart => exact ⟨0, Nat.zero_le _, rfl, by rw [HC0.out.1, HC0.out.2]; exact hown0, hb0⟩
  case round =>
    obtain ⟨k, hk, rfl, hown, hb⟩ := hrel
    clear hown0 hb0
    by_cases hlt : k < q
    · have c1 : wr.cell? ⟨b, off + k, none⟩ = some (.int .i64 (xs.getD k 0)) := (hb.cell (p := ⟨b, off + k, none⟩) hbs).trans (HC.out k (by omega))
      have hok := HA.out k hlt
      have hcl := HCL.out k hk
      have hvb := vsize_bd _ hok
      have hpl := putv_length (xs.getD k 0)
      have HCS : Hid (cat xs (k + 1) = cat xs k ++ putv (xs.getD k 0)) := cat_succ xs k (by rw [HL.out]; omega)
      obtain ⟨x, hx⟩ : ∃ x, x = xs.getD k 0 := ⟨_, rfl⟩
      rw [← hx] at c1 hok hvb hpl HCS
      have P1 : Calls Tryd.prog 19 #[.int .i64 x] wr fun e w' => ∃ r, e = .returned (.tuple #[r, .int .i64 0]) ∧ w'.ownsRow wr.heap.size 5 1 r (vsize x).toNat ((putv x).map (Value.int .u8)) ∧ Below wr.heap.size wr w' :=
        specPutVar x wr hok.1 hok.2
      obtain ⟨m, em⟩ : ∃ m, m = (vsize x).toNat := ⟨_, rfl⟩
      rw [← em] at P1 hvb hpl
      obtain ⟨ys, ey⟩ : ∃ ys, ys = cat xs k := ⟨_, rfl⟩
      rw [← ey] at hown hcl HCS
      have HPL : Hid ((putv x).length = m) := hpl
      clear hx em ey hok hpl
      have R := fun (w1 w2 : World) (v' : Value) (h1 : Below wr.heap.size wr w1) (h2 : w2.ownsRow w.heap.size 5 1 v' (ys.length + m) (ys.map (Value.int .u8) ++ (putv x).map (Value.int .u8))) (h3 : w1.grownBy w2 (Value.ownBlock _)) => cat_step HPL.out hown hb h1 h2 h3
      have HR : Hid _ := R
      clear R
      go_wp2_with (first
        | (go_at_call 19; refine P1.mono ?_; rintro e w1 ⟨r, rfl, hown1, hb1⟩; obtain ⟨g, cp, rfl, hg, hgl⟩ := owns_shape hown1 hvb.1)
        | (at_builtin; refine wpList_append_own _ rfl _ _ 22 rfl w.heap.size 5 i0 (.int .u8 0) 1 1 Tryd.underlying22 hi hz0 hz1 hz2 rfl (by decide) _ _ _ rfl (owns_below hown hb1) ⟨g, 0, none⟩ m cp ((putv x).map (Value.int .u8)) rfl hown1.1 (piece_cells hown1) (one_cells _ _) (by unfold maxLen; omega) (by omega) (Nat.le_trans hb.size hb1.size) ?_; intro v' w2 hown2 hgrow hnil))
      have RR := HR.out w1 w2 v' hb1 hown2 hgrow
      have HRR : Hid _ := RR
      clear RR HR hnil hown2 hgrow hown1 hb1 hown hb P1
      go_wp2
      go_roundw
      case rel => exact ⟨k + 1, by omega, by go_num, by rw [HCS.out]; exact HRR.out.1, HRR.out.2⟩
      case measure => simp [intOf]; omega
    · obtain rfl : k = q := by omega
      have c1 : wr.cell? ⟨b, off + k, none⟩ = some (.int .i64 (xs.getD k 0)) := (hb.cell (p := ⟨b, off + k, none⟩) hbs).trans (HC.out k (by omega))
      obtain ⟨x, hx⟩ : ∃ x, x = xs.getD k 0 := ⟨_, rfl⟩
      rw [← hx] at c1 hbad
      clear hx
      have hbad' : x < 0 ∨ 4611686018427387903 < x := by unfold okv at hbad; omega
      have P1 : Calls Tryd.prog 19 #[.int .i64 x] wr fun e w' => ∃ r, e = .returned (.tuple #[r, .int .i64 1]) ∧ w'.ownsRow wr.heap.size 5 1 r 0 (([] : List Int).map (Value.int .u8)) ∧ Below wr.heap.size wr w' := specPutVar_no x wr hbad'
      clear hbad hbad'
      go_wp2_with (go_at_call 19; refine P1.mono ?_; rintro e w1 ⟨r, rfl, hown1, hb1⟩)
      go_ret2
      refine ⟨_, rfl, World.ownsRow_lit _ #[] 0 (Nat.le_trans hb.size hb1.size) (by decide) rfl, (hb.trans (hb1.mono hb.size)).alloc (Nat.le_trans hb.size hb1.size) _⟩

theorem implPVs_long (ao : Option Addr) (n cap : Nat) (w : World) (h : 4096 < n) (hm : n ≤ 9223372036854775807) :
    Calls Tryd.prog 6 #[.slice ao n cap] w fun e w' => ∃ r, e = .returned (.tuple #[r, .int .i64 4]) ∧ w'.ownsRow w.heap.size 5 1 r 0 (([] : List Int).map (Value.int .u8)) ∧ Below w.heap.size w w' := by
  go_enter Tryd.func6, Tryd.ntmps6
  go_wp2
  go_ret2
  exact ⟨_, rfl, World.ownsRow_nil _ _ _ _, Below.refl _ _⟩

set_option maxHeartbeats 1000000 in
theorem implPVs_ok (n : Nat) (xs : List Int) (b off cap : Nat) (w : World) (ht : Tab w) (hn : n ≤ 4096) (hl : xs.length = n) (hbs : b < w.heap.size) (hall : ∀ j, j < n → okv (xs.getD j 0))
    (hc : ∀ j, j < n → w.cell? ⟨b, off + j, none⟩ = some (.int .i64 (xs.getD j 0))) :
    Calls Tryd.prog 6 #[.slice (some ⟨b, off, none⟩) n cap] w fun e w' => ∃ r, e = .returned (.tuple #[r, .int .i64 0]) ∧ w'.ownsRow w.heap.size 5 1 r (cat xs n).length ((cat xs n).map (Value.int .u8)) ∧ Below w.heap.size w w' := by
  have HC : Hid (∀ j, j < n → w.cell? ⟨b, off + j, none⟩ = some (.int .i64 (xs.getD j 0))) := hc
  have HL : Hid (xs.length = n) := hl
  have HA : Hid (∀ j, j < n → okv (xs.getD j 0)) := hall
  have hon : okv (n : Int) := ⟨by omega, by omega⟩
  have P0 : Calls Tryd.prog 11 #[.int .i64 (n : Int)] w fun e w' => ∃ r, e = .returned (.tuple #[r, .int .i64 0]) ∧ w'.ownsRow w.heap.size 5 1 r (vsize n).toNat ((putv n).map (Value.int .u8)) ∧ Below w.heap.size w w' :=
    implPutVar n w ht hon.1 hon.2
  have hcl : ∀ k, k ≤ n → (cat xs k).length ≤ 8 * (k + 1) := fun k hk => cat_length xs k (by rw [hl]; exact hon) (by omega) (fun j hj => hall j (by omega))
  have HCL : Hid (∀ k, k ≤ n → (cat xs k).length ≤ 8 * (k + 1)) := hcl
  have hc0 : cat xs 0 = putv n := by unfold cat; rw [hl]; simp
  have HC0 : Hid (cat xs 0 = putv n ∧ (putv (n : Int)).length = (vsize n).toNat) := ⟨hc0, putv_length _⟩
  have HON : Hid (okv (n : Int)) := hon
  clear hc hl hall hcl hc0 hon
  obtain ⟨i0, hi, hz0, hz1, hz2⟩ := info_parts infoU8
  go_enter Tryd.func6, Tryd.ntmps6
  go_wp2_with (go_at_call 11; refine P0.mono ?_; rintro e w1 ⟨r, rfl, hown0, hb0⟩)
  clear P0
  go_loopw [4, 21] (fun v i wr => ∃ k : Nat, k ≤ n ∧ i = .int .i64 k ∧ wr.ownsRow w.heap.size 5 1 v (cat xs k).length ((cat xs k).map (Value.int .u8)) ∧ Below w.heap.size w wr) (fun _ i _ => n - (intOf i).toNat)
  case atStart => exact ⟨0, Nat.zero_le _, rfl, by rw [HC0.out.1, HC0.out.2]; exact hown0, hb0⟩
  case round =>
    obtain ⟨k, hk, rfl, hown, hb⟩ := hrel
    clear hown0 hb0
    by_cases hlt : k < n
    · have c1 : wr.cell? ⟨b, off + k, none⟩ = some (.int .i64 (xs.getD k 0)) := (hb.cell (p := ⟨b, off + k, none⟩) hbs).trans (HC.out k (by omega))
      have hok := HA.out k hlt
      have hcl := HCL.out k hk
      have hvb := vsize_bd _ hok
      have hpl := putv_length (xs.getD k 0)
      have HCS : Hid (cat xs (k + 1) = cat xs k ++ putv (xs.getD k 0)) := cat_succ xs k (by rw [HL.out]; omega)
      obtain ⟨x, hx⟩ : ∃ x, x = xs.getD k 0 := ⟨_, rfl⟩
      rw [← hx] at c1 hok hvb hpl HCS
      have P1 : Calls Tryd.prog 11 #[.int .i64 x] wr fun e w' => ∃ r, e = .returned (.tuple #[r, .int .i64 0]) ∧ w'.ownsRow wr.heap.size 5 1 r (vsize x).toNat ((putv x).map (Value.int .u8)) ∧ Below wr.heap.size wr w' :=
        implPutVar x wr (ht.below hb ht.lt) hok.1 hok.2
      obtain ⟨m, em⟩ : ∃ m, m = (vsize x).toNat := ⟨_, rfl⟩
      rw [← em] at P1 hvb hpl
      obtain ⟨ys, ey⟩ : ∃ ys, ys = cat xs k := ⟨_, rfl⟩
      rw [← ey] at hown hcl HCS
      have HPL : Hid ((putv x).length = m) := hpl
      clear hx em ey hok hpl
      have R := fun (w1 w2 : World) (v' : Value) (h1 : Below wr.heap.size wr w1) (h2 : w2.ownsRow w.heap.size 5 1 v' (ys.length + m) (ys.map (Value.int .u8) ++ (putv x).map (Value.int .u8))) (h3 : w1.grownBy w2 (Value.ownBlock _)) => cat_step HPL.out hown hb h1 h2 h3
      have HR : Hid _ := R
      clear R
      go_wp2_with (first
        | (go_at_call 11; refine P1.mono ?_; rintro e w1 ⟨r, rfl, hown1, hb1⟩; obtain ⟨g, cp, rfl, hg, hgl⟩ := owns_shape hown1 hvb.1)
        | (at_builtin; refine wpList_append_own _ rfl _ _ 22 rfl w.heap.size 5 i0 (.int .u8 0) 1 1 Tryd.underlying22 hi hz0 hz1 hz2 rfl (by decide) _ _ _ rfl (owns_below hown hb1) ⟨g, 0, none⟩ m cp ((putv x).map (Value.int .u8)) rfl hown1.1 (piece_cells hown1) (one_cells _ _) (by unfold maxLen; omega) (by omega) (Nat.le_trans hb.size hb1.size) ?_; intro v' w2 hown2 hgrow hnil))
      have RR := HR.out w1 w2 v' hb1 hown2 hgrow
      have HRR : Hid _ := RR
      clear RR HR hnil hown2 hgrow hown1 hb1 hown hb P1
      go_wp2
      go_roundw
      case rel => exact ⟨k + 1, by omega, by go_num, by rw [HCS.out]; exact HRR.out.1, HRR.out.2⟩
      case measure => simp [intOf]; omega
    · obtain rfl : k = n := by omega
      go_wp2
      go_ret2
      exact ⟨_, rfl, hown, hb⟩

set_option maxHeartbeats 1000000 in
theorem implPVs_no (n : Nat) (xs : List Int) (b off cap : Nat) (w : World) (ht : Tab w) (hn : n ≤ 4096) (hl : xs.length = n) (hbs : b < w.heap.size) (q : Nat) (hq : q < n) (hall : ∀ j, j < q → okv (xs.getD j 0)) (hbad : ¬ okv (xs.getD q 0))
    (hc : ∀ j, j < n → w.cell? ⟨b, off + j, none⟩ = some (.int .i64 (xs.getD j 0))) :
    Calls Tryd.prog 6 #[.slice (some ⟨b, off, none⟩) n cap] w fun e w' => ∃ r, e = .returned (.tuple #[r, .int .i64 1]) ∧ w'.ownsRow w.heap.size 5 1 r 0 (([] : List Int).map (Value.int .u8)) ∧ Below w.heap.size w w' := by
  have HC : Hid (∀ j, j < n → w.cell? ⟨b, off + j, none⟩ = some (.int .i64 (xs.getD j 0))) := hc
  have HL : Hid (xs.length = n) := hl
  have HA : Hid (∀ j, j < q → okv (xs.getD j 0)) := hall
  have hon : okv (n : Int) := ⟨by omega, by omega⟩
  have P0 : Calls Tryd.prog 11 #[.int .i64 (n : Int)] w fun e w' => ∃ r, e = .returned (.tuple #[r, .int .i64 0]) ∧ w'.ownsRow w.heap.size 5 1 r (vsize n).toNat ((putv n).map (Value.int .u8)) ∧ Below w.heap.size w w' :=
    implPutVar n w ht hon.1 hon.2
  have hcl : ∀ k, k ≤ q → (cat xs k).length ≤ 8 * (k + 1) := fun k hk => cat_length xs k (by rw [hl]; exact hon) (by omega) (fun j hj => hall j (by omega))
  have HCL : Hid (∀ k, k ≤ q → (cat xs k).length ≤ 8 * (k + 1)) := hcl
  have hc0 : cat xs 0 = putv n := by unfold cat; rw [hl]; simp
  have HC0 : Hid (cat xs 0 = putv n ∧ (putv (n : Int)).length = (vsize n).toNat) := ⟨hc0, putv_length _⟩
  have HON : Hid (okv (n : Int)) := hon
  clear hc hl hall hcl hc0 hon
  obtain ⟨i0, hi, hz0, hz1, hz2⟩ := info_parts infoU8
  go_enter Tryd.func6, Tryd.ntmps6
  go_wp2_with (go_at_call 11; refine P0.mono ?_; rintro e w1 ⟨r, rfl, hown0, hb0⟩)
  clear P0
  go_loopw [4, 21] (fun v i wr => ∃ k : Nat, k ≤ q ∧ i = .int .i64 k ∧ wr.ownsRow w.heap.size 5 1 v (cat xs k).length ((cat xs k).map (Value.int .u8)) ∧ Below w.heap.size w wr) (fun _ i _ => n - (intOf i).toNat)
  case atStart => exact ⟨0, Nat.zero_le _, rfl, by rw [HC0.out.1, HC0.out.2]; exact hown0, hb0⟩
  case round =>
    obtain ⟨k, hk, rfl, hown, hb⟩ := hrel
    clear hown0 hb0
    by_cases hlt : k < q
    · have c1 : wr.cell? ⟨b, off + k, none⟩ = some (.int .i64 (xs.getD k 0)) := (hb.cell (p := ⟨b, off + k, none⟩) hbs).trans (HC.out k (by omega))
      have hok := HA.out k hlt
      have hcl := HCL.out k hk
      have hvb := vsize_bd _ hok
      have hpl := putv_length (xs.getD k 0)
      have HCS : Hid (cat xs (k + 1) = cat xs k ++ putv (xs.getD k 0)) := cat_succ xs k (by rw [HL.out]; omega)
      obtain ⟨x, hx⟩ : ∃ x, x = xs.getD k 0 := ⟨_, rfl⟩
      rw [← hx] at c1 hok hvb hpl HCS
      have P1 : Calls Tryd.prog 11 #[.int .i64 x] wr fun e w' => ∃ r, e = .returned (.tuple #[r, .int .i64 0]) ∧ w'.ownsRow wr.heap.size 5 1 r (vsize x).toNat ((putv x).map (Value.int .u8)) ∧ Below wr.heap.size wr w' :=
        implPutVar x wr (ht.below hb ht.lt) hok.1 hok.2
      obtain ⟨m, em⟩ : ∃ m, m = (vsize x).toNat := ⟨_, rfl⟩
      rw [← em] at P1 hvb hpl
      obtain ⟨ys, ey⟩ : ∃ ys, ys = cat xs k := ⟨_, rfl⟩
      rw [← ey] at hown hcl HCS
      have HPL : Hid ((putv x).length = m) := hpl
      clear hx em ey hok hpl
      have R := fun (w1 w2 : World) (v' : Value) (h1 : Below wr.heap.size wr w1) (h2 : w2.ownsRow w.heap.size 5 1 v' (ys.length + m) (ys.map (Value.int .u8) ++ (putv x).map (Value.int .u8))) (h3 : w1.grownBy w2 (Value.ownBlock _)) => cat_step HPL.out hown hb h1 h2 h3
      have HR : Hid _ := R
      clear R
      go_wp2_with (first
        | (go_at_call 11; refine P1.mono ?_; rintro e w1 ⟨r, rfl, hown1, hb1⟩; obtain ⟨g, cp, rfl, hg, hgl⟩ := owns_shape hown1 hvb.1)
        | (at_builtin; refine wpList_append_own _ rfl _ _ 22 rfl w.heap.size 5 i0 (.int .u8 0) 1 1 Tryd.underlying22 hi hz0 hz1 hz2 rfl (by decide) _ _ _ rfl (owns_below hown hb1) ⟨g, 0, none⟩ m cp ((putv x).map (Value.int .u8)) rfl hown1.1 (piece_cells hown1) (one_cells _ _) (by unfold maxLen; omega) (by omega) (Nat.le_trans hb.size hb1.size) ?_; intro v' w2 hown2 hgrow hnil))
      have RR := HR.out w1 w2 v' hb1 hown2 hgrow
      have HRR : Hid _ := RR
      clear RR HR hnil hown2 hgrow hown1 hb1 hown hb P1
      go_wp2
      go_roundw
      case rel => exact ⟨k + 1, by omega, by go_num, by rw [HCS.out]; exact HRR.out.1, HRR.out.2⟩
      case measure => simp [intOf]; omega
    · obtain rfl : k = q := by omega
      have c1 : wr.cell? ⟨b, off + k, none⟩ = some (.int .i64 (xs.getD k 0)) := (hb.cell (p := ⟨b, off + k, none⟩) hbs).trans (HC.out k (by omega))
      obtain ⟨x, hx⟩ : ∃ x, x = xs.getD k 0 := ⟨_, rfl⟩
      rw [← hx] at c1 hbad
      clear hx
      have hbad' : x < 0 ∨ 4611686018427387903 < x := by unfold okv at hbad; omega
      have P1 : Calls Tryd.prog 11 #[.int .i64 x] wr fun e w' => e = .returned (.tuple #[.slice none 0 0, .int .i64 1]) ∧ w' = wr := implPutVar_no x wr (ht.below hb ht.lt) hbad'
      clear hbad hbad'
      go_wp2_with (go_at_call 11; refine P1.mono ?_; rintro e w1 ⟨rfl, rfl⟩)
      go_ret2
      exact ⟨_, rfl, World.ownsRow_nil _ _ _ _, hb⟩
end Go.Proofs.YtkjfpgdnhdnceabDoor
