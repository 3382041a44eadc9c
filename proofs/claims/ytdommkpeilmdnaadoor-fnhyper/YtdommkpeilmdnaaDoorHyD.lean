import Derived.Test.YtdommkpeilmdnaaDoorHyC
namespace Go.Proofs.YtdommkpeilmdnaaDoor
open Go.RowKit
set_option linter.unusedVariables false

theorem hb_cells3 {w w1 : World} {x0 x1 x2 : Value} {t : TypeId} (hb : Below (w.heap.size + 1) (w.alloc (.cells #[x0, x1, x2] t)) w1) :
    w1.cell? ⟨w.heap.size, 0, none⟩ = some x0 ∧ w1.cell? ⟨w.heap.size, 1, none⟩ = some x1 ∧ w1.cell? ⟨w.heap.size, 2, none⟩ = some x2 := by
  have k := (hb.block w.heap.size (by omega)).trans (MapKept.heap_alloc w (.cells #[x0, x1, x2] t)).1
  simp only [World.cell?, k]
  exact ⟨rfl, rfl, rfl⟩
theorem hyK_iff (k a : Int) (n m : Nat) : hyK k a n m ↔ ((a ≠ 0 → shN k = true) ∧ (n : Int) ≤ shD k ∧ (m : Int) ≤ shS k) := by
  unfold hyK shN shD shS
  by_cases k4 : k = 4
  · subst k4; simp; omega
  by_cases k7 : k = 7
  · subst k7; simp
  by_cases k15 : k = 15
  · subst k15; simp; omega
  simp [k4, k7, k15]; omega
set_option maxHeartbeats 4000000 in
theorem hokI (k a : Int) (ad : Option Addr) (n cd : Nat) (v : Value) (L : List SSetting) (w : World) (hr : GRow 2 w v (SSetting.L L)) (hl : L.length ≤ 9223372036854775807) (hn : n ≤ 9223372036854775807) :
    Calls Tryd.prog 7 #[.agg #[.int .i64 k, .int .i64 a, .slice ad n cd, v]] w fun e w' => e = .returned (.bool (decide (hyP k a n L))) ∧ Below w.heap.size w w' := by
  obtain ⟨N, eN⟩ : ∃ N, N = decide (hyP k a n L) := ⟨_, rfl⟩
  rw [← eN]
  have b0 : Below w.heap.size w (w.alloc (.cells #[.int .i64 k, .int .i64 a, .slice ad n cd, v] 26)) := (Below.refl _ _).alloc (Nat.le_refl _) _
  have CS : ∀ u, Below w.heap.size w u → L.length ≤ 4096 → _ := fun u hu h => setI v L u (hr.below hu) h
  have C0 := shapeI k (w.alloc (.cells #[.int .i64 k, .int .i64 a, .slice ad n cd, v] 26))
  have C1 := hinI k
  have C2 := hinI a
  obtain ⟨ao, cp, rfl⟩ := srow_form hr
  have hK := hyK_iff k a n L.length
  have hS : shS k = 16 ∨ shS k = 0 := by unfold shS; by_cases h : k = 4 <;> simp [h]
  obtain ⟨m, em⟩ : ∃ m, m = L.length := ⟨_, rfl⟩
  rw [← em] at CS C0 b0 hl hK ⊢
  obtain ⟨p, ep⟩ : ∃ p, p = hin k := ⟨_, rfl⟩
  obtain ⟨q, eq⟩ : ∃ q, q = hin a := ⟨_, rfl⟩
  obtain ⟨s, es⟩ : ∃ s, s = decide (sdP L) := ⟨_, rfl⟩
  obtain ⟨f, ef⟩ : ∃ f, f = shN k := ⟨_, rfl⟩
  obtain ⟨D, eD⟩ : ∃ D, D = shD k := ⟨_, rfl⟩
  obtain ⟨S, eS⟩ : ∃ S, S = shS k := ⟨_, rfl⟩
  rw [← ep] at C1
  rw [← eq] at C2
  rw [← es] at CS
  rw [← ef, ← eD, ← eS] at C0 hK
  rw [← eS] at hS
  have E : N = decide ((p = true ∧ q = true) ∧ s = true ∧ ((a ≠ 0 → f = true) ∧ (n : Int) ≤ D ∧ (m : Int) ≤ S)) := by
    have hEq : hyP k a n L ↔ ((p = true ∧ q = true) ∧ s = true ∧ ((a ≠ 0 → f = true) ∧ (n : Int) ≤ D ∧ (m : Int) ≤ S)) := by
      unfold hyP
      rw [← em, hK, ep, eq, es, decide_eq_true_eq]
    rw [eN, decide_eq_decide]
    exact hEq
  have H : Hid _ := And.intro C0 (And.intro C1 (And.intro C2 (And.intro CS b0)))
  clear C0 C1 C2 CS b0 hr eN em ep eq es ef eD eS hK
  go_enter Tryd.func7, Tryd.ntmps7
  go_wp2_with fail
  go_at_call 19
  refine H.out.1.mono ?_
  rintro e w1 ⟨rfl, b1⟩
  obtain ⟨y0, y1, y2, y3⟩ := hb_cells (w := w) (by simpa using b1)
  have bA : Below w.heap.size w w1 := H.out.2.2.2.2.trans (b1.mono H.out.2.2.2.2.size)
  have bB : Below w.heap.size w (w1.alloc (.cells #[.bool f, .int .i64 D, .int .i64 S] 45)) := bA.alloc bA.size _
  have hsz : w.heap.size < w1.heap.size := by have := b1.size; simp at this; omega
  have B1 : Hid _ := And.intro bB True.intro
  clear b1 bA bB
  go_wp2_with fail
  go_at_call 20
  refine (H.out.2.1 _).mono ?_
  rintro e w2 ⟨rfl, hw⟩
  subst hw
  cases p with
  | false =>
    have HN : Hid (N = false) := by show N = false; rw [E]; exact decide_eq_false (fun h => by simp at h)
    clear E
    go_wp2
    go_ret
    exact ⟨by rw [HN.out]; rfl, B1.out.1⟩
  | true =>
  go_wp2_with fail
  go_at_call 20
  refine (H.out.2.2.1 _).mono ?_
  rintro e w2 ⟨rfl, hw⟩
  subst hw
  cases q with
  | false =>
    have HN : Hid (N = false) := by show N = false; rw [E]; exact decide_eq_false (fun h => by simp at h)
    clear E
    go_wp2
    go_ret
    exact ⟨by rw [HN.out]; rfl, B1.out.1⟩
  | true =>
  by_cases ha : a ≠ 0 ∧ f = false
  · have HN : Hid (N = false) := by show N = false; rw [E]; exact decide_eq_false (fun h => by have := h.2.2.1 ha.1; rw [ha.2] at this; cases this)
    have a0 : (a != 0) = true := by simp [ha.1]
    obtain ⟨ha1, rfl⟩ := ha
    clear E ha1
    go_wp2
    go_ret
    exact ⟨by rw [HN.out]; rfl, B1.out.1⟩
  have E3 : N = decide (s = true ∧ (n : Int) ≤ D ∧ (m : Int) ≤ S) := by
    rw [E, decide_eq_decide]
    constructor
    · exact fun h => ⟨h.2.1, h.2.2.2⟩
    · refine fun h => ⟨by simp, h.1, fun h0 => ?_, h.2⟩
      cases hf : f with
      | true => rfl
      | false => exact absurd ⟨h0, hf⟩ ha
  have hA : a = 0 ∨ (a ≠ 0 ∧ f = true) := by
    by_cases h0 : a = 0
    · exact Or.inl h0
    · refine Or.inr ⟨h0, ?_⟩
      cases hf : f with
      | true => rfl
      | false => exact absurd ⟨h0, hf⟩ ha
  clear ha
  rcases hA with rfl | ⟨ha1, rfl⟩
  · clear E
    by_cases hn1 : (n : Int) ≤ D
    · by_cases hm1 : (m : Int) ≤ S
      · have E4 : N = s := by rw [E3]; cases s <;> simp [hn1, hm1]
        have HN : Hid _ := And.intro E4 True.intro
        have hm2 : m ≤ 4096 := by omega
        have HS : Hid _ := And.intro (H.out.2.2.2.1 _ B1.out.1 hm2) True.intro
        clear E3 E4 hS
        go_wp2_with fail
        go_at_call 21
        refine HS.out.1.mono ?_
        rintro e w3 ⟨rfl, b3⟩
        have B3 : Hid _ := And.intro (B1.out.1.trans (b3.mono B1.out.1.size)) True.intro
        clear b3
        go_wp2
        go_ret
        exact ⟨by rw [HN.out.1]; rfl, B3.out.1⟩
      · have HN : Hid (N = false) := by show N = false; rw [E3]; exact decide_eq_false (fun h => hm1 h.2.2)
        clear E3 hS
        go_wp2
        go_ret
        exact ⟨by rw [HN.out]; rfl, B1.out.1⟩
    · have HN : Hid (N = false) := by show N = false; rw [E3]; exact decide_eq_false (fun h => hn1 h.2.1)
      clear E3 hS
      go_wp2
      go_ret
      exact ⟨by rw [HN.out]; rfl, B1.out.1⟩
  · have a0 : (a != 0) = true := by simp [ha1]
    clear ha1 E
    by_cases hn1 : (n : Int) ≤ D
    · by_cases hm1 : (m : Int) ≤ S
      · have E4 : N = s := by rw [E3]; cases s <;> simp [hn1, hm1]
        have HN : Hid _ := And.intro E4 True.intro
        have hm2 : m ≤ 4096 := by omega
        have HS : Hid _ := And.intro (H.out.2.2.2.1 _ B1.out.1 hm2) True.intro
        clear E3 E4 hS
        go_wp2_with fail
        go_at_call 21
        refine HS.out.1.mono ?_
        rintro e w3 ⟨rfl, b3⟩
        have B3 : Hid _ := And.intro (B1.out.1.trans (b3.mono B1.out.1.size)) True.intro
        clear b3
        go_wp2
        go_ret
        exact ⟨by rw [HN.out.1]; rfl, B3.out.1⟩
      · have HN : Hid (N = false) := by show N = false; rw [E3]; exact decide_eq_false (fun h => hm1 h.2.2)
        clear E3 hS
        go_wp2
        go_ret
        exact ⟨by rw [HN.out]; rfl, B1.out.1⟩
    · have HN : Hid (N = false) := by show N = false; rw [E3]; exact decide_eq_false (fun h => hn1 h.2.1)
      clear E3 hS
      go_wp2
      go_ret
      exact ⟨by rw [HN.out]; rfl, B1.out.1⟩
end Go.Proofs.YtdommkpeilmdnaaDoor
