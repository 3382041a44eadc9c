import Derived.Test.YtdjflbanbhhniaaDoorQpE
import Derived.Test.YtdjflbanbhhniaaDoorLnD
namespace Go.Proofs.YtdjflbanbhhniaaDoor
open Go.RowKit
set_option linter.unusedVariables false

/-- Are the first k fields plain? -/
def plA (L : List SField) (k : Nat) : Bool := (List.range k).all fun i => pln (L.getD i default).f0 (L.getD i default).f1
theorem plA_succ (L : List SField) (k : Nat) : plA L (k + 1) = (plA L k && pln (L.getD k default).f0 (L.getD k default).f1) := by simp [plA, List.range_succ]
theorem plA_no (L : List SField) (n i : Nat) (h : i < n) (hb : pln (L.getD i default).f0 (L.getD i default).f1 = false) : plA L n = false := by
  cases hv : plA L n with
  | false => rfl
  | true =>
    have := List.all_eq_true.1 hv i (List.mem_range.2 h)
    rw [hb] at this
    cases this
/-- The fields of a message. -/
def mfOK (L : List SField) : Bool := decide (L.length ≤ 60) && (plA L L.length && decide (lnC L = 0))
set_option maxHeartbeats 4000000 in
theorem mfS (v : Value) (L : List SField) (w : World) (h : GRow 2 w v (SField.L L)) (hR : L.length ≤ 1048576) (hf : fin L) :
    Calls Tryd.prog 32 #[v] w fun e w' => e = .returned (.bool (mfOK L)) ∧ Below w.heap.size w w' := by
  obtain ⟨N, eN⟩ : ∃ N, N = mfOK L := ⟨_, rfl⟩
  rw [← eN]
  unfold mfOK at eN
  have CL : ∀ u, Below w.heap.size w u → _ := fun u hu => lenS v L u (h.below hu) hR hf
  obtain ⟨ao, cp, rfl⟩ := frow_form h
  obtain ⟨n, en⟩ : ∃ n, n = L.length := ⟨_, rfl⟩
  rw [← en] at eN CL hR ⊢
  rw [← en] at h
  by_cases h1 : 60 < n
  · have hN : N = false := by rw [eN, decide_eq_false (by omega)]; rfl
    have h3 : (60 : Int) < n := by omega
    rw [hN]
    clear h en eN CL hf hN
    go_enter Tryd.func32, Tryd.ntmps32
    go_wp2
    go_ret
    exact ⟨rfl, Below.refl _ _⟩
  rw [decide_eq_true (show n ≤ 60 by omega), Bool.true_and] at eN
  have h3 : ¬ ((60 : Int) < n) := by omega
  have HH : Hid _ := And.intro h (And.intro en (And.intro eN (And.intro hf CL)))
  clear h en eN hf CL
  go_enter Tryd.func32, Tryd.ntmps32
  go_wp2_with fail
  go_loopw [3] (fun i wr => ∃ k : Nat, k ≤ n ∧ i = .int .i64 (k : Int) ∧ plA L k = true ∧ Below w.heap.size w wr) (fun i _ => n - (intOf i).toNat)
  case atStart => exact ⟨0, by omega, rfl, rfl, Below.refl _ _⟩
  case round =>
    obtain ⟨k, hk, rfl, hA, bw⟩ := hrel
    by_cases hlt : k < n
    · have hkL : k < L.length := by rw [← HH.out.2.1]; exact hlt
      obtain ⟨b, off, cap, ev, hb, hc⟩ := frow_at (HH.out.1.below bw) (by omega)
      rw [← HH.out.2.1] at ev
      simp only [Value.slice.injEq] at ev
      obtain ⟨rfl, em2, rfl⟩ := ev
      clear em2
      obtain ⟨c0, c1⟩ := row_field hc k hkL
      have hsu := plA_succ L k
      have hno := plA_no L n k hlt
      have CP : ∀ u, _ := fun u => plainS (L.getD k default).f0 (L.getD k default).f1 u (HH.out.2.2.2.1 k hkL).1 (HH.out.2.2.2.1 k hkL).2
      obtain ⟨F, eF⟩ : ∃ F, F = L.getD k default := ⟨_, rfl⟩
      rw [← eF] at hsu hno c0 c1 CP
      obtain ⟨a, c⟩ := F
      simp only at c0 c1 CP hsu hno
      obtain ⟨P, eP⟩ : ∃ P, P = pln a c := ⟨_, rfl⟩
      rw [← eP] at CP hsu hno
      have HP : Hid _ := And.intro CP bw
      clear CP eF eP bw hc
      cases P with
      | false =>
        have HN : Hid (N = false) := by show N = false; rw [HH.out.2.2.1, hno rfl]; rfl
        clear hsu hno hA
        go_wp2_with fail
        go_at_call 43
        refine (HP.out.1 _).mono ?_
        rintro e w2 ⟨rfl, b2⟩
        have HB : Hid _ := And.intro (HP.out.2.trans (b2.mono HP.out.2.size)) True.intro
        clear b2
        go_wp2
        go_ret
        exact ⟨by rw [HN.out]; rfl, HB.out.1⟩
      | true =>
        have HR : Hid (plA L (k + 1) = true) := by show _ = true; rw [hsu, hA]; rfl
        clear hsu hno hA
        go_wp2_with fail
        go_at_call 43
        refine (HP.out.1 _).mono ?_
        rintro e w2 ⟨rfl, b2⟩
        have HB : Hid _ := And.intro (HP.out.2.trans (b2.mono HP.out.2.size)) True.intro
        clear b2
        go_wp2
        go_roundw
        case rel => exact ⟨k + 1, by omega, by go_num, HR.out, HB.out.1⟩
        case measure => simp [intOf]; omega
    · obtain rfl : k = n := by omega
      have HN : Hid (N = decide (lnC L = 0)) := by show N = _; rw [HH.out.2.2.1, hA]; rfl
      have HB : Hid _ := And.intro bw (HH.out.2.2.2.2 wr bw)
      clear bw hA
      obtain ⟨X, eX⟩ : ∃ X, X = lnC L := ⟨_, rfl⟩
      obtain ⟨Y, eY⟩ : ∃ Y, Y = lnV L := ⟨_, rfl⟩
      rw [← eX] at HN HB
      rw [← eY] at HB
      clear eX eY
      have hd : (X == 0) = decide (X = 0) := by by_cases h : X = 0 <;> simp [h]
      have HD : Hid _ := And.intro hd True.intro
      clear hd
      go_wp2_with fail
      go_at_call 44
      refine HB.out.2.mono ?_
      rintro e w2 ⟨rfl, b2⟩
      have HC : Hid (Below w.heap.size w w2 ∧ True) := ⟨by rw [b2]; exact HB.out.1, trivial⟩
      clear b2
      go_wp2
      go_ret
      exact ⟨by rw [HN.out, ← HD.out.1]; rfl, HC.out.1⟩
set_option maxHeartbeats 4000000 in
theorem mfI (v : Value) (L : List SField) (w : World) (h : GRow 2 w v (SField.L L)) (hR : L.length ≤ 1048576) (hf : fin L) :
    Calls Tryd.prog 38 #[v] w fun e w' => e = .returned (.bool (mfOK L)) ∧ Below w.heap.size w w' := by
  obtain ⟨N, eN⟩ : ∃ N, N = mfOK L := ⟨_, rfl⟩
  rw [← eN]
  unfold mfOK at eN
  have CL : ∀ u, Below w.heap.size w u → _ := fun u hu => lenI v L u (h.below hu) hR hf
  obtain ⟨ao, cp, rfl⟩ := frow_form h
  obtain ⟨n, en⟩ : ∃ n, n = L.length := ⟨_, rfl⟩
  rw [← en] at eN CL hR ⊢
  rw [← en] at h
  by_cases h1 : 60 < n
  · have hN : N = false := by rw [eN, decide_eq_false (by omega)]; rfl
    have h3 : (60 : Int) < n := by omega
    rw [hN]
    clear h en eN CL hf hN
    go_enter Tryd.func38, Tryd.ntmps38
    go_wp2
    go_ret
    exact ⟨rfl, Below.refl _ _⟩
  rw [decide_eq_true (show n ≤ 60 by omega), Bool.true_and] at eN
  have h3 : ¬ ((60 : Int) < n) := by omega
  have HH : Hid _ := And.intro h (And.intro en (And.intro eN (And.intro hf CL)))
  clear h en eN hf CL
  go_enter Tryd.func38, Tryd.ntmps38
  go_wp2_with fail
  go_loopw [12] (fun i wr => ∃ k : Nat, k ≤ n ∧ i = .int .i64 (k : Int) ∧ plA L k = true ∧ Below w.heap.size w wr) (fun i _ => n - (intOf i).toNat)
  case atStart => exact ⟨0, by omega, rfl, rfl, Below.refl _ _⟩
  case round =>
    obtain ⟨k, hk, rfl, hA, bw⟩ := hrel
    by_cases hlt : k < n
    · have hkL : k < L.length := by rw [← HH.out.2.1]; exact hlt
      obtain ⟨b, off, cap, ev, hb, hc⟩ := frow_at (HH.out.1.below bw) (by omega)
      rw [← HH.out.2.1] at ev
      simp only [Value.slice.injEq] at ev
      obtain ⟨rfl, em2, rfl⟩ := ev
      clear em2
      obtain ⟨c0, c1⟩ := row_field hc k hkL
      have hsu := plA_succ L k
      have hno := plA_no L n k hlt
      have CP : ∀ u, _ := fun u => plainI (L.getD k default).f0 (L.getD k default).f1 u (HH.out.2.2.2.1 k hkL).1 (HH.out.2.2.2.1 k hkL).2
      obtain ⟨F, eF⟩ : ∃ F, F = L.getD k default := ⟨_, rfl⟩
      rw [← eF] at hsu hno c0 c1 CP
      obtain ⟨a, c⟩ := F
      simp only at c0 c1 CP hsu hno
      obtain ⟨P, eP⟩ : ∃ P, P = pln a c := ⟨_, rfl⟩
      rw [← eP] at CP hsu hno
      have HP : Hid _ := And.intro CP bw
      have HA : Hid (Below w.heap.size w (wr.alloc (.cells #[.string a, .string c] 44))) := bw.alloc (by have := bw.size; omega) _
      clear CP eF eP bw hc
      cases P with
      | false =>
        have HN : Hid (N = false) := by show N = false; rw [HH.out.2.2.1, hno rfl]; rfl
        clear hsu hno hA
        go_wp2_with fail
        go_at_call 47
        refine (HP.out.1 _).mono ?_
        rintro e w2 ⟨rfl, b2⟩
        have HB : Hid _ := And.intro (HA.out.trans (b2.mono HA.out.size)) True.intro
        clear b2
        go_wp2
        go_ret
        exact ⟨by rw [HN.out]; rfl, HB.out.1⟩
      | true =>
        have HR : Hid (plA L (k + 1) = true) := by show _ = true; rw [hsu, hA]; rfl
        clear hsu hno hA
        go_wp2_with fail
        go_at_call 47
        refine (HP.out.1 _).mono ?_
        rintro e w2 ⟨rfl, b2⟩
        have HB : Hid _ := And.intro (HA.out.trans (b2.mono HA.out.size)) True.intro
        clear b2
        go_wp2
        go_roundw
        case rel => exact ⟨k + 1, by omega, by go_num, HR.out, HB.out.1⟩
        case measure => simp [intOf]; omega
    · obtain rfl : k = n := by omega
      have HN : Hid (N = decide (lnC L = 0)) := by show N = _; rw [HH.out.2.2.1, hA]; rfl
      have HB : Hid _ := And.intro bw (HH.out.2.2.2.2 wr bw)
      clear bw hA
      obtain ⟨X, eX⟩ : ∃ X, X = lnC L := ⟨_, rfl⟩
      obtain ⟨Y, eY⟩ : ∃ Y, Y = lnV L := ⟨_, rfl⟩
      rw [← eX] at HN HB
      rw [← eY] at HB
      clear eX eY
      have hd : (X == 0) = decide (X = 0) := by by_cases h : X = 0 <;> simp [h]
      have HD : Hid _ := And.intro hd True.intro
      clear hd
      go_wp2_with fail
      go_at_call 48
      refine HB.out.2.mono ?_
      rintro e w2 ⟨rfl, b2⟩
      have HC : Hid _ := And.intro (HB.out.1.trans (b2.mono HB.out.1.size)) True.intro
      clear b2
      go_wp2
      go_ret
      exact ⟨by rw [HN.out, ← HD.out.1]; rfl, HC.out.1⟩
end Go.Proofs.YtdjflbanbhhniaaDoor
