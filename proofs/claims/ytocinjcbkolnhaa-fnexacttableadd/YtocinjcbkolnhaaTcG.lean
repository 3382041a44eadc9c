import Derived.Test.YtocinjcbkolnhaaTgP
namespace Go.Proofs.Ytocinjcbkolnhaa
open Go.RowKit
set_option linter.unusedVariables false

/-- How many of the oldest go until the costs are at most lim. -/
def gng (lim : Int) : List SField → Nat
  | [] => 0
  | x :: l => if lim < csts (x :: l) then gng lim l + 1 else 0
theorem gng_stop (lim : Int) (L : List SField) (h : csts L ≤ lim) : gng lim L = 0 := by
  cases L with
  | nil => rfl
  | cons x l => simp [gng, show ¬ lim < csts (x :: l) by omega]
theorem gng_go (lim : Int) (L : List SField) (k : Nat) (hk : k < L.length) (h : lim < csts (L.drop k)) : gng lim (L.drop k) = gng lim (L.drop (k + 1)) + 1 := by
  obtain ⟨M, eM⟩ : ∃ M, M = L.drop (k + 1) := ⟨_, rfl⟩
  rw [List.drop_eq_getElem_cons hk, ← eM] at h
  rw [List.drop_eq_getElem_cons hk, ← eM]
  simp only [gng, if_pos h]
theorem csts_drop (L : List SField) (k : Nat) (hk : k < L.length) : csts (L.drop k) = cst (L.getD k default) + csts (L.drop (k + 1)) := by
  rw [List.drop_eq_getElem_cons hk]
  simp [csts, List.getD, hk]
theorem gng_le (lim : Int) : ∀ L : List SField, gng lim L ≤ L.length
  | [] => by simp [gng]
  | x :: l => by have := gng_le lim l; simp only [gng]; split <;> simp <;> omega
theorem gng_fit (lim : Int) (h0 : 0 ≤ lim) : ∀ L : List SField, csts (L.drop (gng lim L)) ≤ lim
  | [] => by simp [gng, csts, h0]
  | x :: l => by
    have := gng_fit lim h0 l
    simp only [gng]
    split
    · simpa using this
    · simp; omega
set_option maxRecDepth 20000 in
set_option maxHeartbeats 2000000 in
theorem goingI (G R base f n : Nat) (mo ca ad more : Int) (RL L : List SField) (w : World) (ot : OT w G R base f mo ca ad (csts L) RL) (hR : RingHas RL f L n) (en : L.length = n) (hn : n ≤ 124) (ht : txs L ≤ 1048576) (hf : (f : Int) + n ≤ 4611686018427387902) (hm0 : 0 ≤ more) (hm1 : more ≤ ca) (hca : ca ≤ 4096) :
    Calls Try.prog 40 #[.pointer (some ⟨G, 0, none⟩), .int .i64 more] w fun e w' => e = .returned (.int .i64 (gng (ca - more) L : Nat)) ∧ Below w.heap.size w w' := by
  have hc0 : csts L ≤ 1000000000 := by rw [csts_txs, en]; omega
  obtain ⟨A, eA⟩ : ∃ A, A = gng (ca - more) L := ⟨_, rfl⟩
  rw [← eA]
  obtain ⟨t0, t1, t2, t3, t4, t5⟩ := ot.cells
  have HH : Hid _ := And.intro ot (And.intro hR (And.intro en (And.intro ht eA)))
  clear ot hR en ht eA
  go_enter Try.func40, Try.ntmps40
  go_wp2
  go_loopw [5, 6] (fun i s wr => ∃ k : Nat, k ≤ n ∧ i = .int .i64 (k : Int) ∧ s = .int .i64 (csts (L.drop k)) ∧ A = k + gng (ca - more) (L.drop k) ∧ Below w.heap.size w wr) (fun i _ _ => n - (intOf i).toNat)
  case atStart => exact ⟨0, by omega, rfl, rfl, by rw [HH.out.2.2.2.2]; simp, Below.refl _ _⟩
  case round =>
    clear t0 t1 t2 t3 t4 t5
    obtain ⟨k, hk, rfl, rfl, hA, bw⟩ := hrel
    have otw := HH.out.1.below bw
    have otd := otw.below (drew_below wr)
    obtain ⟨t0, t1, t2, t3, t4, t5⟩ := otw.cells
    have hnn := csts_nn (L.drop k)
    have hdl : csts (L.drop k) ≤ 1000000000 := by
      have h := csts_app (L.take k) (L.drop k)
      rw [List.take_append_drop] at h
      have := csts_nn (L.take k)
      omega
    by_cases hgo : ca < csts (L.drop k) + more
    · have hkn : k < n := by
        by_cases e : k < n
        · exact e
        · exfalso
          have : L.drop k = [] := List.drop_eq_nil_of_le (by rw [HH.out.2.2.1]; omega)
          rw [this] at hgo
          simp [csts] at hgo
          omega
      have hkL : k < L.length := by rw [HH.out.2.2.1]; exact hkn
      have hg := gng_go (ca - more) L k hkL (by omega)
      have hs := csts_drop L k hkL
      have hta := txs_at L k hkL
      have hlo := cst_lo (L.getD k default)
      have hRk := HH.out.2.1 k hkn
      have CC : ∀ u, _ := fun u => costI (L.getD k default) u (by have := HH.out.2.2.2.1; omega)
      obtain ⟨p, ep⟩ : ∃ p, p = (f + k) % 124 := ⟨_, rfl⟩
      have hp : p < 124 := by omega
      rw [← ep] at hRk
      have hfk2 : f + k ≤ 4611686018427387903 := by omega
      have CW : ∀ u : World, u.cell? ⟨G, 0, none⟩ = some (.slice (some ⟨R, 0, none⟩) 124 124) → Calls Try.prog 33 #[.pointer (some ⟨G, 0, none⟩), .int .i64 (IntKind.i64.wrap ((f : Int) + (k : Int)))] u fun e w' => e = .returned (.pointer (some ⟨R, p * 2, none⟩)) ∧ ∃ m, w' = u.drewN m := fun u h => by
        rw [show IntKind.i64.wrap ((f : Int) + (k : Int)) = ((f + k : Nat) : Int) by rw [IntKind.wrap_i64]; omega]
        have := atF G 0 R (f + k) u h hfk2
        rw [← ep] at this
        exact this
      obtain ⟨v0, v1, v2, v3⟩ := otd.at p hp
      rw [hRk] at v0 v1
      obtain ⟨F, eF⟩ : ∃ F, F = L.getD k default := ⟨_, rfl⟩
      rw [← eF] at v0 v1 CC hs hlo
      obtain ⟨a, c⟩ := F
      simp only at v0 v1 CC
      obtain ⟨D, eD⟩ : ∃ D, D = cst ⟨a, c⟩ := ⟨_, rfl⟩
      rw [← eD] at CC hs hlo
      obtain ⟨S, eS⟩ : ∃ S, S = csts (L.drop k) := ⟨_, rfl⟩
      have eS1 : csts (L.drop (k + 1)) = S - D := by omega
      have sD : 0 ≤ S - D := by have := csts_nn (L.drop (k + 1)); omega
      rw [← eS] at hgo hdl hnn ⊢
      have s0 : 0 ≤ S := by omega
      obtain ⟨d0, d1, d2, d3, d4, d5⟩ := otd.cells
      have H1 : Hid _ := And.intro CW (And.intro CC (And.intro bw (And.intro hA (And.intro hg eS1))))
      have D0 : Hid _ := And.intro d0 (And.intro v0 v1)
      clear CW CC hA hg hs hta hRk eF eD eS eS1 otw otd bw ep hkL v0 v1 v2 v3
      go_upto_region 5 with fail
      go_region_with (first
          | (go_at_call 33; refine (H1.out.1 wr.drew D0.out.1).mono ?_; rintro e wz ⟨rfl, m, hwz⟩; have v0' : wz.cell? ⟨R, p * 2, none⟩ = some (.string a) := (by rw [hwz]; exact D0.out.2.1); have v1' : wz.cell? ⟨R, p * 2 + 1, none⟩ = some (.string c) := (by rw [hwz]; exact D0.out.2.2); have BZ : Hid _ := And.intro (show Below w.heap.size w wz by rw [hwz]; exact below_drewN (H1.out.2.2.1.trans ((drew_below wr).mono H1.out.2.2.1.size)) m) True.intro; clear hwz)
          | (go_at_call 31; refine (H1.out.2.1 wz).mono ?_; rintro e wy ⟨rfl, by'⟩; have BY : Hid _ := And.intro (BZ.out.1.trans (by'.mono BZ.out.1.size)) True.intro; clear by'))
      all_goals
        have e5 : IntKind.i64.wrap (S - D) = S - D := by rw [IntKind.wrap_i64]; omega
        rw [e5]
        clear t0 t1 t2 t3 t4 t5 d0 d1 d2 d3 d4 d5
        go_wp2_with fail
        go_roundw
        case rel => exact ⟨k + 1, by omega, by go_num, by rw [H1.out.2.2.2.2.2], by have := H1.out.2.2.2.1; have := H1.out.2.2.2.2.1; omega, BY.out.1⟩
        case measure => simp [intOf]; omega
    · have hst := gng_stop (ca - more) (L.drop k) (by omega)
      have hA2 : A = k := by omega
      have H1 : Hid _ := And.intro hA2 bw
      obtain ⟨S, eS⟩ : ∃ S, S = csts (L.drop k) := ⟨_, rfl⟩
      rw [← eS] at hgo hdl hnn ⊢
      have s0 : 0 ≤ S := by omega
      clear hst hA2 hA bw otw otd eS
      go_wp2
      go_ret
      exact ⟨by rw [H1.out.1]; rfl, H1.out.2⟩
end Go.Proofs.Ytocinjcbkolnhaa
