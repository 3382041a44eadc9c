import Derived.Test.YtaodcahkkeobdaaRng
namespace Go.Proofs.Ytaodcahkkeobdaa
open Go.RowKit
set_option linter.unusedVariables false

/-- What markRangeS writes. -/
def marksR (q : Int) (n : Nat) : List (Int × Int) := (List.range n).map fun (j : Nat) => (q + 2 * (j : Int), q + 2 * (j : Int) + 1)
theorem marksR_length (q : Int) (n : Nat) : (marksR q n).length = n := by simp [marksR]
theorem marksR_lo (q : Int) (n j : Nat) (h : j < n) : rlo (marksR q n) j = q + 2 * (j : Int) := by simp [rlo, marksR, List.getD, h]
theorem marksR_hi (q : Int) (n j : Nat) (h : j < n) : rhi (marksR q n) j = q + 2 * (j : Int) + 1 := by simp [rhi, marksR, List.getD, h]
theorem heldR_nil (q : Int) (ao : Option Addr) (cp : Nat) (w : World) :
    Calls Try.prog 31 #[.slice ao 0 cp, .int .i64 q] w fun e w' => e = .returned (.int .i64 q) ∧ w' = w := by
  go_enter Try.func31, Try.ntmps31
  go_wp2
  refine wp_loop_rounds 1 ?_
  rw [rounds_succ]
  go_wp2
  go_ret
  exact ⟨rfl, rfl⟩
set_option maxHeartbeats 400000 in
theorem heldR_core (q : Int) (n : Nat) (b off ca : Nat) (w : World) (hn : n ≤ 140737488355328) (hq0 : 0 ≤ q) (hq1 : q ≤ 140737488355328)
    (hc : ∀ j, j < n → w.cell? ⟨b, off + j * 2, none⟩ = some (.int .i64 (q + 2 * (j : Int))) ∧ w.cell? ⟨b, off + j * 2 + 1, none⟩ = some (.int .i64 (q + 2 * (j : Int) + 1))) :
    Calls Try.prog 31 #[.slice (some ⟨b, off, none⟩) n ca, .int .i64 q] w fun e w' => e = .returned (.int .i64 (q + 2 * (n : Int))) ∧ w' = w := by
  have HC : Hid _ := And.intro hc True.intro
  clear hc
  go_enter Try.func31, Try.ntmps31
  go_wp2
  go_loop [1, 5] (fun s i => ∃ k : Nat, k ≤ n ∧ i = .int .i64 k ∧ s = .int .i64 (q + 2 * (k : Int))) (fun _ i => n - (intOf i).toNat)
  case atStart => exact ⟨0, Nat.zero_le _, rfl, by simp⟩
  case round =>
    obtain ⟨k, hk, rfl, rfl⟩ := hrel
    by_cases hlt : k < n
    · have c0 := (HC.out.1 k hlt).1
      have c1 := (HC.out.1 k hlt).2
      obtain ⟨s, es⟩ : ∃ s, s = q + 2 * (k : Int) := ⟨_, rfl⟩
      rw [← es] at c0 c1 ⊢
      have h1 : (s != s) = false := by simp
      have h2 : (s + 1 != s + 1) = false := by simp
      have w1 : IntKind.i64.wrap (s + 1) = s + 1 := by rw [IntKind.wrap_i64]; omega
      have w2 : IntKind.i64.wrap (s + 1 + 1) = s + 1 + 1 := by rw [IntKind.wrap_i64]; omega
      have ES : Hid _ := And.intro es True.intro
      clear es
      go_wp2
      go_round
      case rel => exact ⟨k + 1, by omega, by go_num, by rw [ES.out.1]; congr 1; omega⟩
      case measure => simp [intOf]; omega
    · go_wp2
      go_ret
      obtain rfl : k = n := by omega
      exact ⟨rfl, rfl⟩
theorem heldRngs (q : Int) (n : Nat) (v : Value) (w : World) (h : RRow w v (marksR q n)) (hn : n ≤ 140737488355328) (hq0 : 0 ≤ q) (hq1 : q ≤ 140737488355328) :
    Calls Try.prog 31 #[v, .int .i64 q] w fun e w' => e = .returned (.int .i64 (q + 2 * (n : Int))) ∧ w' = w := by
  by_cases h0 : 0 < n
  · obtain ⟨b, off, ca, rfl, _, hc⟩ := h.at' (by rw [marksR_length]; exact h0)
    rw [marksR_length] at hc ⊢
    exact heldR_core q n b off ca w hn hq0 hq1 (fun j hj => by rw [← marksR_hi q n j hj, ← marksR_lo q n j hj]; exact hc j hj)
  · obtain rfl : n = 0 := by omega
    obtain ⟨ao, cp, rfl⟩ := h.form
    have := heldR_nil q ao cp w
    simpa [marksR] using this
theorem markR_nil (q : Int) (ao : Option Addr) (cp : Nat) (w : World) :
    Calls Try.prog 11 #[.slice ao 0 cp, .int .i64 q] w fun e w' => e = .returned (.int .i64 q) ∧ w' = w := by
  go_enter Try.func11, Try.ntmps11
  go_wp2
  refine wp_loop_rounds 1 ?_
  rw [rounds_succ]
  go_wp2
  go_ret
  exact ⟨rfl, rfl⟩
set_option maxRecDepth 20000 in
set_option maxHeartbeats 2000000 in
theorem markR_core (q : Int) (n base g cap : Nat) (zs0 : List Value) (w : World) (hn : n ≤ 140737488355328) (hq0 : 0 ≤ q) (hq1 : q ≤ 140737488355328) (hg : base ≤ g)
    (hown0 : w.ownsRow base 50 2 (.slice (some ⟨g, 0, none⟩) n cap) n zs0) (hl0 : zs0.length = n * 2) :
    Calls Try.prog 11 #[.slice (some ⟨g, 0, none⟩) n cap, .int .i64 q] w fun e w' => e = .returned (.int .i64 (q + 2 * (n : Int))) ∧
      (∃ zs : List Value, (∀ j, j < n → zs[j * 2]? = some (.int .i64 (q + 2 * (j : Int))) ∧ zs[j * 2 + 1]? = some (.int .i64 (q + 2 * (j : Int) + 1))) ∧ w'.ownsRow base 50 2 (.slice (some ⟨g, 0, none⟩) n cap) n zs) ∧ Below base w w' ∧ w'.heap.size = w.heap.size ∧ Only (some g) w w' := by
  have H0 : Hid _ := And.intro hown0 hl0
  clear hown0 hl0
  go_enter Try.func11, Try.ntmps11
  go_wp2
  go_loopw [1, 5] (fun s i wr => ∃ k : Nat, k ≤ n ∧ i = .int .i64 k ∧ s = .int .i64 (q + 2 * (k : Int)) ∧ ∃ zs : List Value, zs.length = n * 2 ∧ (∀ j, j < k → zs[j * 2]? = some (.int .i64 (q + 2 * (j : Int))) ∧ zs[j * 2 + 1]? = some (.int .i64 (q + 2 * (j : Int) + 1))) ∧
      wr.ownsRow base 50 2 (.slice (some ⟨g, 0, none⟩) n cap) n zs ∧ Below base w wr ∧ wr.heap.size = w.heap.size ∧ Only (some g) w wr) (fun _ i _ => n - (intOf i).toNat)
  case atStart => exact ⟨0, Nat.zero_le _, rfl, by simp, zs0, H0.out.2, fun j h => by omega, H0.out.1, Below.refl _ _, rfl, Only.refl _ _⟩
  case round =>
    obtain ⟨k, hk, rfl, rfl, zs, hl, hm, hown, hb, hz, ho⟩ := hrel
    by_cases hlt : k < n
    · have d0 : k * 2 < n * 2 := by omega
      have d1 : k * 2 + 1 < n * 2 := by omega
      obtain ⟨z0, hz0'⟩ : ∃ z, zs[k * 2]? = some z := ⟨zs[k * 2]'(by omega), by simp [hl, d0]⟩
      obtain ⟨z1, hz1'⟩ : ∃ z, zs[k * 2 + 1]? = some z := ⟨zs[k * 2 + 1]'(by omega), by simp [hl, d1]⟩
      have r0 := hown.cellAt (k * 2) d0
      have r1 := hown.cellAt (k * 2 + 1) d1
      rw [hz0'] at r0
      rw [hz1'] at r1
      have p0 := hown.frozenAt (k * 2)
      have p1 := hown.frozenAt (k * 2 + 1)
      have hgl : g < wr.heap.size := (hown.lt g rfl).2
      obtain ⟨s, es⟩ : ∃ s, s = q + 2 * (k : Int) := ⟨_, rfl⟩
      rw [← es]
      have w1 : IntKind.i64.wrap (s + 1) = s + 1 := by rw [IntKind.wrap_i64]; omega
      have w2 : IntKind.i64.wrap (s + 1 + 1) = s + 1 + 1 := by rw [IntKind.wrap_i64]; omega
      have H2 : Hid _ := And.intro es (And.intro hl (And.intro hm (And.intro hown (And.intro hb (And.intro hz ho)))))
      clear es hl hm hown hb hz ho hz0' hz1'
      go_wp2
      go_roundw
      case rel =>
        obtain ⟨es, hl, hm, hown, hb, hz, ho⟩ := H2.out
        refine ⟨k + 1, by omega, by go_num, by rw [es]; congr 1; omega, (zs.set (k * 2) (.int .i64 s)).set (k * 2 + 1) (.int .i64 (s + 1)), by simp only [List.length_set]; exact hl, fun j hj => ?_, ((hown.stored (k * 2) _).1.stored (k * 2 + 1) _).1, (hb.setCell (p := ⟨g, k * 2, none⟩) hg _).setCell (p := ⟨g, k * 2 + 1, none⟩) hg _, by simp [World.setCell, hz], (ho.trans (Only.setCell ⟨g, k * 2, none⟩ _)).trans (Only.setCell ⟨g, k * 2 + 1, none⟩ _)⟩
        by_cases hjk : j = k
        · subst hjk
          rw [← es]
          refine ⟨?_, ?_⟩
          · rw [List.getElem?_set_ne (by omega), List.getElem?_set_self (by omega)]
          · rw [List.getElem?_set_self (by simp only [List.length_set]; omega)]
        · obtain ⟨u0, u1⟩ := hm j (by omega)
          refine ⟨?_, ?_⟩
          · rw [List.getElem?_set_ne (by omega), List.getElem?_set_ne (by omega)]; exact u0
          · rw [List.getElem?_set_ne (by omega), List.getElem?_set_ne (by omega)]; exact u1
      case measure => simp [intOf]; omega
    · have HR : Hid _ := And.intro hm (And.intro hown (And.intro hb (And.intro hz ho)))
      clear hl hm hown hb hz ho
      go_wp2
      go_ret
      obtain rfl : k = n := by omega
      obtain ⟨r1, r2, r3, r4, r5⟩ := HR.out
      exact ⟨rfl, ⟨zs, r1, r2⟩, r3, r4, r5⟩
theorem markRngs (q : Int) (base : Nat) (v : Value) (R : List (Int × Int)) (w : World) (hn : R.length ≤ 140737488355328) (hq0 : 0 ≤ q) (hq1 : q ≤ 140737488355328) (h : ROwns w base v R) :
    Calls Try.prog 11 #[v, .int .i64 q] w fun e w' => e = .returned (.int .i64 (q + 2 * (R.length : Int))) ∧ ROwns w' base v (marksR q R.length) ∧ Below base w w' ∧ w'.heap.size = w.heap.size ∧ Only v.ownBlock w w' := by
  obtain ⟨zs, ho, hz⟩ := id h
  have hl : zs.length = R.length * 2 := ho.1
  rcases ho.2 with ⟨rfl, h0⟩ | ⟨g, cap, cur, rfl, hg, hh, r⟩
  · have hR : R = [] := List.eq_nil_of_length_eq_zero h0
    subst hR
    refine (markR_nil q _ _ w).mono ?_
    rintro e w' ⟨rfl, rfl⟩
    exact ⟨by simp, h, Below.refl _ _, rfl, Only.refl _ _⟩
  · refine (markR_core q R.length base g cap zs w hn hq0 hq1 hg ho hl).mono ?_
    rintro e w' ⟨rfl, ⟨ys, hy, ho2⟩, hb, hz2, hon⟩
    refine ⟨rfl, ⟨ys, by rw [marksR_length]; exact ho2, fun j hj => ?_⟩, hb, hz2, hon⟩
    rw [marksR_length] at hj
    rw [marksR_lo _ _ _ hj, marksR_hi _ _ _ hj]
    exact hy j hj
theorem ROwns.only {w w' : World} {base : Nat} {g : Option Nat} {v : Value} {R : List (Int × Int)} (ho : Only g w w') (h : ROwns w base v R) (ha : ∀ k, v.ownBlock = some k → some k ≠ g) : ROwns w' base v R := by
  obtain ⟨zs, hw, hz⟩ := h
  exact ⟨zs, ho.owns hw ha, hz⟩
end Go.Proofs.Ytaodcahkkeobdaa
