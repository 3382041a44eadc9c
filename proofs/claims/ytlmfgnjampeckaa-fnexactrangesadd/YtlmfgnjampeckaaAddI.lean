import Derived.Test.YtlmfgnjampeckaaAddW
import Derived.Test.YtlmfgnjampeckaaRRLaw
namespace Go.Proofs.Ytlmfgnjampeckaa
open Go.RowKit
set_option linter.unusedVariables false

theorem highI (v : Value) (A : List (Int × Int)) (base : Nat) (w : World) (h : POwns 49 w base v A) (h0 : 0 < A.length) (hl : A.length ≤ 65) :
    Calls Try.prog 33 #[v, .int .i64 64] w fun e w' => ∃ r, e = .returned r ∧ RRow w r (addV A) ∧ w' = w := by
  obtain ⟨g, cg, rfl, hbg, hgl, hgc, hcm, hc⟩ := h.parts h0
  have hcg : cg ≤ 9223372036854775807 := Nat.le_trans hcm (by decide)
  obtain ⟨l, el⟩ : ∃ l, l = A.length := ⟨_, rfl⟩
  have HH : Hid _ := And.intro h (And.intro el hc)
  rw [← el] at hgc h0 hl ⊢
  clear h hc hcm el
  by_cases h64 : 64 < l
  · obtain rfl : l = 65 := by omega
    have hc1 : ¬ cg = 1 := by omega
    have RD : Hid _ := And.intro (cut_row (k := 1) (ao := some ⟨g, 2, none⟩) (cp := cg - 1) HH.out.2.1.symm hgl (by omega) HH.out.2.2 (fun _ => rfl)) True.intro
    go_enter Try.func33, Try.ntmps33
    go_wp2
    go_ret
    exact ⟨_, rfl, by unfold addV; rw [if_pos (by rw [← HH.out.2.1]; decide)]; exact RD.out.1, rfl⟩
  · obtain ⟨d, ed⟩ : ∃ d : Int, d = (l : Int) - 64 := ⟨_, rfl⟩
    have hw : IntKind.i64.wrap ((l : Int) - 64) = d := by rw [IntKind.wrap_i64]; omega
    have m1 : (if d < 0 then (0 : Int) else d) = 0 := by split <;> omega
    have m2 : (if 0 < d then d else (0 : Int)) = 0 := by split <;> omega
    have RD : Hid _ := And.intro HH.out.1.row True.intro
    clear ed
    go_enter Try.func33, Try.ntmps33
    go_wp2
    go_ret
    refine ⟨_, rfl, ?_, rfl⟩
    unfold addV
    rw [if_neg (by rw [← HH.out.2.1]; exact h64)]
    have := RD.out.1
    rw [← HH.out.2.1] at this
    exact this
theorem addI_badR (v : Value) (R : List (Int × Int)) (n : Int) (w : World) (h : RRow w v R) (hR : R.length ≤ 1048576) (hr : rokV R = false) :
    Calls Try.prog 14 #[v, .int .i64 n] w fun e w' => ∃ r, e = .returned (.tuple #[r, .int .i64 1]) ∧ POwns 36 w' w.heap.size r [] ∧ Below w.heap.size w w' := by
  have OK := rangesOK_I v R w h (Nat.le_trans hR (by decide))
  rw [hr] at OK
  have HH : Hid _ := And.intro OK True.intro
  obtain ⟨ao, cp, rfl⟩ := h.form
  clear OK h
  go_enter Try.func14, Try.ntmps14
  go_wp2_with fail
  go_at_call 11
  refine HH.out.1.mono ?_
  rintro e w1 ⟨rfl, b1⟩
  have H1 : Hid _ := And.intro b1 True.intro
  clear b1
  go_wp2
  go_ret2
  exact ⟨_, rfl, POwns.nil _ _ _, H1.out.1⟩
theorem addI_badN (v : Value) (R : List (Int × Int)) (n : Int) (w : World) (h : RRow w v R) (hR : R.length ≤ 1048576) (hr : rokV R = true) (hn : vin n = false) :
    Calls Try.prog 14 #[v, .int .i64 n] w fun e w' => ∃ r, e = .returned (.tuple #[r, .int .i64 1]) ∧ POwns 36 w' w.heap.size r [] ∧ Below w.heap.size w w' := by
  have OK := rangesOK_I v R w h (Nat.le_trans hR (by decide))
  rw [hr] at OK
  have VN := fun w => vinI n w
  rw [hn] at VN
  have HH : Hid _ := And.intro OK VN
  obtain ⟨ao, cp, rfl⟩ := h.form
  clear OK h VN
  go_enter Try.func14, Try.ntmps14
  go_wp2_with fail
  go_at_call 11
  refine HH.out.1.mono ?_
  rintro e w1 ⟨rfl, b1⟩
  have H1 : Hid _ := And.intro b1 True.intro
  clear b1
  go_wp2_with (go_at_call 29; refine (HH.out.2 _).mono ?_; rintro e w2 ⟨rfl, hw⟩; subst w2)
  go_ret2
  exact ⟨_, rfl, POwns.nil _ _ _, H1.out.1⟩
theorem addI_ok (v : Value) (R : List (Int × Int)) (n : Int) (f b : Nat) (w : World) (h : RRow w v R) (hR : R.length ≤ 1048576) (hr : rokV R = true) (hn : vin n = true) (hfb : FB R n f b) :
    Calls Try.prog 14 #[v, .int .i64 n] w fun e w' => ∃ r, e = .returned (.tuple #[r, .int .i64 0]) ∧ POwns 36 w' w.heap.size r (addV (addL R n f b)) ∧ Below w.heap.size w w' := by
  have OK := rangesOK_I v R w h (Nat.le_trans hR (by decide))
  rw [hr] at OK
  have VN := fun w => vinI n w
  rw [hn] at VN
  have hg := (rok_iff R).1 hr
  have HH : Hid _ := And.intro OK (And.intro VN (And.intro h (And.intro hR (And.intro hg (And.intro (vin_true hn) hfb)))))
  obtain ⟨ao, cp, rfl⟩ := h.form
  clear OK h VN hR hg
  go_enter Try.func14, Try.ntmps14
  go_wp2_with fail
  go_at_call 11
  refine HH.out.1.mono ?_
  rintro e w1 ⟨rfl, b1⟩
  have H1 : Hid _ := And.intro b1 True.intro
  clear b1
  go_wp2_with (go_at_call 29; refine (HH.out.2.1 _).mono ?_; rintro e w2 ⟨rfl, hw⟩; subst w2)
  go_at_call 31
  refine (ivOf' _ R w1 (HH.out.2.2.1.below H1.out.1) HH.out.2.2.2.1).mono ?_
  rintro e w2 ⟨rfl, o2, b2⟩
  have cells2 : w1.heap.size < w2.heap.size ∧ ∀ j, j < R.length → w2.cell? ⟨w1.heap.size, 0 + j * 2, none⟩ = some (.int .i64 (rlo R j)) ∧ w2.cell? ⟨w1.heap.size, 0 + j * 2 + 1, none⟩ = some (.int .i64 (rhi R j)) := by
    obtain ⟨zs, ho, hz⟩ := o2
    refine ⟨(ho.lt _ rfl).2, fun j hj => ?_⟩
    have e0 := ho.cellAt (j * 2) (by omega)
    have e1 := ho.cellAt (j * 2 + 1) (by omega)
    rw [Nat.zero_add]
    exact ⟨e0.trans (hz j hj).1, e1.trans (hz j hj).2⟩
  have H2 : Hid _ := And.intro cells2 (H1.out.1.trans (b2.mono H1.out.1.size))
  clear o2 b2 cells2
  go_wp2_with fail
  go_at_call 32
  refine (withI w1.heap.size R.length R n w2 rfl H2.out.1.1 HH.out.2.2.2.2.1.1 H2.out.1.2 HH.out.2.2.2.2.1.2 HH.out.2.2.2.2.2.1).mono ?_
  rintro e w3 ⟨r3, f', b', rfl, hFB, o3, b3⟩
  obtain ⟨rfl, rfl⟩ := hFB.unique HH.out.2.2.2.2.2.2
  have hlen := addL_length HH.out.2.2.2.2.1.2 hFB
  have hpos : 0 < (addL R n f' b').length := by simp only [addL, List.length_append, List.length_singleton]; omega
  have H3 : Hid _ := And.intro (And.intro o3 (And.intro hlen hpos)) (H2.out.2.trans (b3.mono H2.out.2.size))
  clear o3 b3 hlen hpos hFB
  go_wp2_with fail
  go_at_call 33
  refine (highI _ (addL R n f' b') w2.heap.size w3 H3.out.1.1 H3.out.1.2.2 (Nat.le_trans H3.out.1.2.1 (by have := HH.out.2.2.2.2.1.1; omega))).mono ?_
  rintro e w4 ⟨r4, rfl, rr, hw4⟩
  subst w4
  have H4 : Hid _ := And.intro rr True.intro
  clear rr
  go_wp2_with fail
  go_at_call 30
  refine (rgOf _ (addV (addL R n f' b')) w3 H4.out.1 (Nat.le_trans (addV_length _) (Nat.le_trans H3.out.1.2.1 (by have := HH.out.2.2.2.2.1.1; omega)))).mono ?_
  rintro e w5 ⟨r5, rfl, o5, b5⟩
  have H5 : Hid _ := And.intro (o5.mono H3.out.2.size) (H3.out.2.trans (b5.mono H3.out.2.size))
  clear o5 b5
  go_wp2
  go_ret2
  exact ⟨_, rfl, H5.out.1, H5.out.2⟩
theorem fnExactRangesAdd_walk (v : Value) (R : List (Int × Int)) (n : Int) (sm : R.length ≤ maxLen) (hn : (Lit.int .i64 n).wf = true) (w : World) (row : RRow w v R) : Calls Try.prog 4 #[v, .int .i64 n] w fun e w' => e = .returned (.bool true) ∧ Below w.heap.size w w' := by
  refine fnExactRangesAdd_of v R n sm w row fun hf => ?_
  cases hr : rokV R with
  | false => exact ⟨[], 1, by simp, fun v w h => addS_badR v R n w h hf hr, fun v w h => addI_badR v R n w h hf hr⟩
  | true =>
    cases hv : vin n with
    | false => exact ⟨[], 1, by simp, fun v w h => addS_badN v R n w h hf hr hv, fun v w h => addI_badN v R n w h hf hr hv⟩
    | true =>
      obtain ⟨f, b, hfb⟩ := FB.ex R n
      refine ⟨addV (addL R n f b), 0, ?_, fun v w h => addS_ok v R n f b w h hf hr hv hfb, fun v w h => addI_ok v R n f b w h hf hr hv hfb⟩
      have h1 := addV_length (addL R n f b)
      have h2 := addL_length ((rok_iff R).1 hr).2 hfb
      have h3 := ((rok_iff R).1 hr).1
      omega
end Go.Proofs.Ytlmfgnjampeckaa
