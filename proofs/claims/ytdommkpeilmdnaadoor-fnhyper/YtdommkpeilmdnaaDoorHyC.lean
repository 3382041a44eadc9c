import Derived.Test.YtdommkpeilmdnaaDoorHyB
namespace Go.Proofs.YtdommkpeilmdnaaDoor
open Go.RowKit
set_option linter.unusedVariables false

/-- A hypertext frame: its kind, its number, its bytes, its settings. -/
structure HF where
  k : Int
  a : Int
  d : List Int
  s : List SSetting
def hyK (k a : Int) (n m : Nat) : Prop := (k = 4 ∧ a = 0 ∧ n = 0 ∧ m ≤ 16) ∨ (k = 7 ∧ n = 0 ∧ m = 0) ∨ (k = 15 ∧ n ≤ 1024 ∧ m = 0) ∨ ((k ≠ 4 ∧ k ≠ 7 ∧ k ≠ 15) ∧ a = 0 ∧ n ≤ 16384 ∧ m = 0)
def hyP (k a : Int) (n : Nat) (L : List SSetting) : Prop := (hin k = true ∧ hin a = true) ∧ sdP L ∧ hyK k a n L.length
instance (k a : Int) (n m : Nat) : Decidable (hyK k a n m) := by unfold hyK; infer_instance
instance (k a : Int) (n : Nat) (L : List SSetting) : Decidable (hyP k a n L) := by unfold hyP; infer_instance
theorem hb_cells {w w1 : World} {x0 x1 x2 x3 : Value} {t : TypeId} (hb : Below (w.heap.size + 1) (w.alloc (.cells #[x0, x1, x2, x3] t)) w1) :
    w1.cell? ⟨w.heap.size, 0, none⟩ = some x0 ∧ w1.cell? ⟨w.heap.size, 1, none⟩ = some x1 ∧ w1.cell? ⟨w.heap.size, 2, none⟩ = some x2 ∧ w1.cell? ⟨w.heap.size, 3, none⟩ = some x3 := by
  have k := (hb.block w.heap.size (by omega)).trans (MapKept.heap_alloc w (.cells #[x0, x1, x2, x3] t)).1
  simp only [World.cell?, k]
  exact ⟨rfl, rfl, rfl, rfl⟩
set_option maxHeartbeats 4000000 in
theorem hokS (k a : Int) (ad : Option Addr) (n cd : Nat) (v : Value) (L : List SSetting) (w : World) (hr : GRow 2 w v (SSetting.L L)) (hl : L.length ≤ 9223372036854775807) (hn : n ≤ 9223372036854775807) :
    Calls Tryd.prog 15 #[.agg #[.int .i64 k, .int .i64 a, .slice ad n cd, v]] w fun e w' => e = .returned (.bool (decide (hyP k a n L))) ∧ Below w.heap.size w w' := by
  obtain ⟨N, eN⟩ : ∃ N, N = decide (hyP k a n L) := ⟨_, rfl⟩
  rw [← eN]
  have b0 : Below w.heap.size w (w.alloc (.cells #[.int .i64 k, .int .i64 a, .slice ad n cd, v] 26)) := (Below.refl _ _).alloc (Nat.le_refl _) _
  have CS := setS v L _ (hr.below b0) hl
  obtain ⟨ao, cp, rfl⟩ := srow_form hr
  have C1 := hinS k (w.alloc (.cells #[.int .i64 k, .int .i64 a, .slice ad n cd, .slice ao L.length cp] 26))
  have C2 := hinS a (w.alloc (.cells #[.int .i64 k, .int .i64 a, .slice ad n cd, .slice ao L.length cp] 26))
  obtain ⟨m, em⟩ : ∃ m, m = L.length := ⟨_, rfl⟩
  rw [← em] at C1 C2 CS b0 hl ⊢
  obtain ⟨p, ep⟩ : ∃ p, p = hin k := ⟨_, rfl⟩
  obtain ⟨q, eq⟩ : ∃ q, q = hin a := ⟨_, rfl⟩
  obtain ⟨s, es⟩ : ∃ s, s = decide (m ≤ 16 ∧ sdP L) := ⟨_, rfl⟩
  rw [← ep] at C1
  rw [← eq] at C2
  rw [← es] at CS
  have E : N = decide ((p = true ∧ q = true) ∧ sdP L ∧ hyK k a n m) := by rw [eN, em, ep, eq]; rfl
  have H : Hid _ := And.intro C1 (And.intro C2 (And.intro CS b0))
  clear C1 C2 CS b0 hr eN em ep eq
  cases p with
  | false =>
    have HN : Hid (N = false) := by show N = false; rw [E]; exact decide_eq_false (fun h => by simp at h)
    clear E es
    go_enter Tryd.func15, Tryd.ntmps15
    go_wp2_with fail
    go_at_call 37
    refine H.out.1.mono ?_
    rintro e w1 ⟨rfl, hw⟩
    subst hw
    go_wp2
    go_ret
    exact ⟨by rw [HN.out]; rfl, H.out.2.2.2⟩
  | true =>
  cases q with
  | false =>
    have HN : Hid (N = false) := by show N = false; rw [E]; exact decide_eq_false (fun h => by simp at h)
    clear E es
    go_enter Tryd.func15, Tryd.ntmps15
    go_wp2_with fail
    go_at_call 37
    refine H.out.1.mono ?_
    rintro e w1 ⟨rfl, hw⟩
    subst hw
    go_wp2_with fail
    go_at_call 37
    refine H.out.2.1.mono ?_
    rintro e w1 ⟨rfl, hw⟩
    subst hw
    go_wp2
    go_ret
    exact ⟨by rw [HN.out]; rfl, H.out.2.2.2⟩
  | true =>
  by_cases hbig : 16384 < n
  · have HN : Hid (N = false) := by show N = false; rw [E]; exact decide_eq_false (fun h => by have := h.2.2; unfold hyK at this; omega)
    clear E es
    go_enter Tryd.func15, Tryd.ntmps15
    go_wp2_with fail
    go_at_call 37
    refine H.out.1.mono ?_
    rintro e w1 ⟨rfl, hw⟩
    subst hw
    go_wp2_with fail
    go_at_call 37
    refine H.out.2.1.mono ?_
    rintro e w1 ⟨rfl, hw⟩
    subst hw
    go_wp2
    go_ret
    exact ⟨by rw [HN.out]; rfl, H.out.2.2.2⟩
  cases s with
  | false =>
    have HN : Hid (N = false) := by
      show N = false
      rw [E]
      refine decide_eq_false (fun h => ?_)
      have h1 := of_decide_eq_false es.symm
      exact h1 ⟨by have := h.2.2; unfold hyK at this; omega, h.2.1⟩
    clear E es
    go_enter Tryd.func15, Tryd.ntmps15
    go_wp2_with fail
    go_at_call 37
    refine H.out.1.mono ?_
    rintro e w1 ⟨rfl, hw⟩
    subst hw
    go_wp2_with fail
    go_at_call 37
    refine H.out.2.1.mono ?_
    rintro e w1 ⟨rfl, hw⟩
    subst hw
    go_wp2_with fail
    go_at_call 38
    refine H.out.2.2.1.mono ?_
    rintro e w1 ⟨rfl, b1⟩
    have B1 : Hid _ := And.intro (H.out.2.2.2.trans (b1.mono H.out.2.2.2.size)) True.intro
    clear b1
    go_wp2
    go_ret
    exact ⟨by rw [HN.out]; rfl, B1.out.1⟩
  | true =>
  have hs := of_decide_eq_true es.symm
  obtain ⟨hs1, hs2⟩ := hs
  have E2 : N = decide (hyK k a n m) := by rw [E]; simp [hs2]
  clear E es hs2
  go_enter Tryd.func15, Tryd.ntmps15
  go_wp2_with fail
  go_at_call 37
  refine H.out.1.mono ?_
  rintro e w1 ⟨rfl, hw⟩
  subst hw
  go_wp2_with fail
  go_at_call 37
  refine H.out.2.1.mono ?_
  rintro e w1 ⟨rfl, hw⟩
  subst hw
  go_wp2_with fail
  go_at_call 38
  refine H.out.2.2.1.mono ?_
  rintro e w1 ⟨rfl, b1⟩
  obtain ⟨y0, y1, y2, y3⟩ := hb_cells (w := w) (by simpa using b1)
  have B1 : Hid _ := And.intro (H.out.2.2.2.trans (b1.mono H.out.2.2.2.size)) True.intro
  clear b1
  by_cases k4 : k = 4
  · subst k4
    by_cases ha : a = 0
    · by_cases hd : n = 0
      · have HN : Hid (N = true) := by show N = true; rw [E2]; exact decide_eq_true (by unfold hyK; omega)
        clear E2
        subst ha
        subst hd
        go_wp2
        go_ret
        exact ⟨by rw [HN.out]; rfl, B1.out.1⟩
      · have HN : Hid (N = false) := by show N = false; rw [E2]; exact decide_eq_false (by unfold hyK; omega)
        clear E2
        have d0 : ((n : Int) == 0) = false := by simp [hd]
        subst ha
        go_wp2
        go_ret
        exact ⟨by rw [HN.out]; rfl, B1.out.1⟩
    · have HN : Hid (N = false) := by show N = false; rw [E2]; exact decide_eq_false (by unfold hyK; omega)
      clear E2
      have a0 : (a == 0) = false := by simp [ha]
      go_wp2
      go_ret
      exact ⟨by rw [HN.out]; rfl, B1.out.1⟩
  have e4 : (k == 4) = false := by simp [k4]
  by_cases k7 : k = 7
  · subst k7
    by_cases hm : m = 0
    · by_cases hd : n = 0
      · have HN : Hid (N = true) := by show N = true; rw [E2]; exact decide_eq_true (by unfold hyK; omega)
        clear E2
        subst hm
        subst hd
        go_wp2
        go_ret
        exact ⟨by rw [HN.out]; rfl, B1.out.1⟩
      · have HN : Hid (N = false) := by show N = false; rw [E2]; exact decide_eq_false (by unfold hyK; omega)
        clear E2
        have d0 : ((n : Int) == 0) = false := by simp [hd]
        subst hm
        go_wp2
        go_ret
        exact ⟨by rw [HN.out]; rfl, B1.out.1⟩
    · have HN : Hid (N = false) := by show N = false; rw [E2]; exact decide_eq_false (by unfold hyK; omega)
      clear E2
      have m0 : ((m : Int) == 0) = false := by simp [hm]
      go_wp2
      go_ret
      exact ⟨by rw [HN.out]; rfl, B1.out.1⟩
  have e7 : (k == 7) = false := by simp [k7]
  by_cases k15 : k = 15
  · subst k15
    by_cases hm : m = 0
    · have HN : Hid (N = decide ((n : Int) ≤ 1024)) := by show N = _; rw [E2, decide_eq_decide]; unfold hyK; omega
      clear E2
      subst hm
      go_wp2
      go_ret
      exact ⟨by rw [HN.out]; rfl, B1.out.1⟩
    · have HN : Hid (N = false) := by show N = false; rw [E2]; exact decide_eq_false (by unfold hyK; omega)
      clear E2
      have m0 : ((m : Int) == 0) = false := by simp [hm]
      go_wp2
      go_ret
      exact ⟨by rw [HN.out]; rfl, B1.out.1⟩
  have e15 : (k == 15) = false := by simp [k15]
  by_cases ha : a = 0
  · by_cases hm : m = 0
    · have HN : Hid (N = true) := by show N = true; rw [E2]; exact decide_eq_true (by unfold hyK; omega)
      clear E2
      subst ha
      subst hm
      go_wp2
      go_ret
      exact ⟨by rw [HN.out]; rfl, B1.out.1⟩
    · have HN : Hid (N = false) := by show N = false; rw [E2]; exact decide_eq_false (by unfold hyK; omega)
      clear E2
      have m0 : ((m : Int) == 0) = false := by simp [hm]
      subst ha
      go_wp2
      go_ret
      exact ⟨by rw [HN.out]; rfl, B1.out.1⟩
  · have HN : Hid (N = false) := by show N = false; rw [E2]; exact decide_eq_false (by unfold hyK; omega)
    clear E2
    have a0 : (a == 0) = false := by simp [ha]
    go_wp2
    go_ret
    exact ⟨by rw [HN.out]; rfl, B1.out.1⟩
/-- What a frame of a kind has. -/
def shN (k : Int) : Bool := decide (k = 7 ∨ k = 15)
def shD (k : Int) : Int := if k = 4 ∨ k = 7 then 0 else if k = 15 then 1024 else 16384
def shS (k : Int) : Int := if k = 4 then 16 else 0
set_option maxHeartbeats 1000000 in
theorem shapeI (k : Int) (w : World) : Calls Tryd.prog 19 #[.int .i64 k] w fun e w' => e = .returned (.agg #[.bool (shN k), .int .i64 (shD k), .int .i64 (shS k)]) ∧ Below w.heap.size w w' := by
  by_cases k4 : k = 4
  · subst k4
    rw [show shN 4 = false from rfl, show shD 4 = 0 from rfl, show shS 4 = 16 from rfl]
    go_enter Tryd.func19, Tryd.ntmps19
    go_wp2
    exact bodyPost_ret (v := .agg #[.bool false, .int .i64 0, .int .i64 16]) (by simp [results, Tryd.results19, go_sem]) rfl ⟨rfl, (Below.refl _ _).alloc (Nat.le_refl _) _⟩
  by_cases k7 : k = 7
  · subst k7
    rw [show shN 7 = true from rfl, show shD 7 = 0 from rfl, show shS 7 = 0 from rfl]
    go_enter Tryd.func19, Tryd.ntmps19
    go_wp2
    exact bodyPost_ret (v := .agg #[.bool true, .int .i64 0, .int .i64 0]) (by simp [results, Tryd.results19, go_sem]) rfl ⟨rfl, (Below.refl _ _).alloc (Nat.le_refl _) _⟩
  by_cases k15 : k = 15
  · subst k15
    rw [show shN 15 = true from rfl, show shD 15 = 1024 from rfl, show shS 15 = 0 from rfl]
    go_enter Tryd.func19, Tryd.ntmps19
    go_wp2
    exact bodyPost_ret (v := .agg #[.bool true, .int .i64 1024, .int .i64 0]) (by simp [results, Tryd.results19, go_sem]) rfl ⟨rfl, (Below.refl _ _).alloc (Nat.le_refl _) _⟩
  rw [show shN k = false by unfold shN; simp [k7, k15], show shD k = 16384 by unfold shD; rw [if_neg (by omega), if_neg k15], show shS k = 0 by unfold shS; rw [if_neg k4]]
  have e4 : (k == 4) = false := by simp [k4]
  have e7 : (k == 7) = false := by simp [k7]
  have e15 : (k == 15) = false := by simp [k15]
  go_enter Tryd.func19, Tryd.ntmps19
  go_wp2
  exact bodyPost_ret (v := .agg #[.bool false, .int .i64 16384, .int .i64 0]) (by simp [results, Tryd.results19, go_sem]) rfl ⟨rfl, (Below.refl _ _).alloc (Nat.le_refl _) _⟩
end Go.Proofs.YtdommkpeilmdnaaDoor
