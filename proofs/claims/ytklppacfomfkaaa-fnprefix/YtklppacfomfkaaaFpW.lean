import Derived.Test.YtklppacfomfkaaaFpP
import Derived.Test.YtklppacfomfkaaaFpD
import Derived.Test.YtklppacfomfkaaaGetPrefixLaw
import Derived.Test.YtklppacfomfkaaaPutPrefixLaw
namespace Go.Proofs.Ytklppacfomfkaaa
open Go.RowKit
set_option linter.unusedVariables false

def ppOK (v k h : Int) : Prop := pOK v k h ∧ h % fl k.toNat = 0
theorem specPP_ok (v k h : Int) (w : World) (hb : ppOK v k h) :
    Calls Try.prog 6 #[.int .i64 v, .int .i64 k, .int .i64 h] w fun e w' => ∃ r, e = .returned (.tuple #[r, .int .i64 0]) ∧ w'.ownsRow w.heap.size 5 1 r (pfx v (fl k.toNat) h).length ((pfx v (fl k.toNat) h).map (Value.int .u8)) ∧ Below w.heap.size w w' := by
  obtain ⟨hb, hm⟩ := hb
  obtain ⟨h1, h2, h3, h4, h5, h6⟩ := id hb
  obtain ⟨j, rfl⟩ := Int.eq_ofNat_of_zero_le (show 0 ≤ k by omega)
  rw [Int.toNat_natCast] at hm ⊢
  by_cases hlt : v < fl j - 1
  · exact ppS_one v h j _ rfl w hb hm hlt
  · exact ppS_more v h j _ rfl w hb hm (by omega)
theorem implPP_ok (v k h : Int) (w : World) (hb : ppOK v k h) :
    Calls Try.prog 5 #[.int .i64 v, .int .i64 k, .int .i64 h] w fun e w' => ∃ r, e = .returned (.tuple #[r, .int .i64 0]) ∧ w'.ownsRow w.heap.size 5 1 r (pfx v (fl k.toNat) h).length ((pfx v (fl k.toNat) h).map (Value.int .u8)) ∧ Below w.heap.size w w' := by
  obtain ⟨hb, hm⟩ := hb
  obtain ⟨h1, h2, h3, h4, h5, h6⟩ := id hb
  obtain ⟨j, rfl⟩ := Int.eq_ofNat_of_zero_le (show 0 ≤ k by omega)
  rw [Int.toNat_natCast] at hm ⊢
  exact ppI_ok v h j _ rfl w hb hm
theorem specPP_bad (v k h : Int) (w : World) (hb : ¬ ppOK v k h) :
    Calls Try.prog 6 #[.int .i64 v, .int .i64 k, .int .i64 h] w fun e w' => ∃ r, e = .returned (.tuple #[r, .int .i64 1]) ∧ w'.ownsRow w.heap.size 5 1 r 0 (([] : List Int).map (Value.int .u8)) ∧ Below w.heap.size w w' := by
  by_cases hp : pOK v k h
  · obtain ⟨h1, h2, h3, h4, h5, h6⟩ := id hp
    obtain ⟨j, rfl⟩ := Int.eq_ofNat_of_zero_le (show 0 ≤ k by omega)
    exact ppS_mod v h j _ rfl w hp (fun e => hb ⟨hp, by rw [Int.toNat_natCast]; exact e⟩)
  · exact ppS_bad v k h w hp
theorem implPP_bad (v k h : Int) (w : World) (hb : ¬ ppOK v k h) :
    Calls Try.prog 5 #[.int .i64 v, .int .i64 k, .int .i64 h] w fun e w' => ∃ r, e = .returned (.tuple #[r, .int .i64 1]) ∧ w'.ownsRow w.heap.size 5 1 r 0 (([] : List Int).map (Value.int .u8)) ∧ Below w.heap.size w w' := by
  by_cases hv : 0 ≤ v ∧ v ≤ 4611686018427387903
  · refine ppI_bad v k h w hv (fun u => ?_)
    by_cases hk : 1 ≤ k ∧ k ≤ 8
    · by_cases hh : 0 ≤ h ∧ h ≤ 255
      · obtain ⟨j, rfl⟩ := Int.eq_ofNat_of_zero_le (show 0 ≤ k by omega)
        refine validI_ok h j false u (by omega) (by omega) hh.1 hh.2 ?_
        rw [decide_eq_false]
        intro e
        exact hb ⟨⟨hv.1, hv.2, hk.1, hk.2, hh.1, hh.2⟩, by rw [Int.toNat_natCast]; exact e⟩
      · exact validI_bad h k u hk (by omega)
    · exact validI_bits h k u hk
  · exact ppI_num v k h w hv
theorem bytes2 {l : List Int} (h : Bytes l) : Bytes ([1, 255] ++ l) := by
  intro x hx
  rcases List.mem_append.1 hx with h1 | h1
  · simp at h1
    rcases h1 with rfl | rfl <;> omega
  · exact h x h1
theorem row_head {w : World} {g q cp : Nat} {L : List Int} (hg : g < w.heap.size) (hq : 0 < q) (hl : q = L.length) (hcp : q ≤ cp ∧ cp ≤ maxLen) (hc : ∀ j, j < q → w.cell? ⟨g, j, none⟩ = some (.int .u8 (L.getD j 0))) : Row w .u8 (.slice (some ⟨g, 0, none⟩) (q - 1) cp) (L.take (q - 1)) := by
  refine Or.inr ⟨g, 0, cp, by rw [List.length_take]; congr 1; omega, hg, ⟨by rw [List.length_take]; omega, hcp.2⟩, fun j hj => ?_⟩
  rw [List.length_take] at hj
  rw [Nat.zero_add, hc j (by omega)]
  simp [List.getD, show j < q - 1 by omega]
theorem prefix_huge (ao : Option Addr) (n cap : Nat) (w : World) (h : 1048576 < n) (hm : n ≤ 9223372036854775807) :
    Calls Try.prog 3 #[.slice ao n cap] w fun e w' => e = .returned (.bool true) ∧ Below w.heap.size w w' := by
  go_enter Try.func3, Try.ntmps3
  go_wp2
  go_ret
  exact ⟨rfl, Below.refl _ _⟩
theorem lit2P (w : World) : (w.alloc (.cells #[.int .u8 1, .int .u8 255] 5)).ownsRow w.heap.size 5 1 (.slice (some ⟨w.heap.size, 0, none⟩) 2 2) 2 (([1, 255] : List Int).map (Value.int .u8)) := World.ownsRow_lit w #[.int .u8 1, .int .u8 255] 2 (Nat.le_refl _) (by decide) rfl
set_option maxHeartbeats 2000000 in
theorem prefix_law (v : Value) (xs : List Int) (w : World) (hrow : Row w .u8 v xs) (hB : Bytes xs) (hl : xs.length ≤ 1048576) :
    Calls Try.prog 3 #[v] w fun e w' => e = .returned (.bool true) ∧ Below w.heap.size w w' := by
  have D := drawPf v xs w hrow hB hl
  obtain ⟨ao, cap, rfl⟩ := hrow.form
  have HD : Hid _ := And.intro D True.intro
  obtain ⟨n, en⟩ : ∃ n, n = xs.length := ⟨_, rfl⟩
  rw [← en] at hl HD ⊢
  clear D hrow hB en
  go_enter Try.func3, Try.ntmps3
  go_wp2_with fail
  go_at_call 4
  refine HD.out.1.mono ?_
  rintro e w1 ⟨a, k, h, rfl, b1⟩
  have H1 : Hid _ := And.intro b1 True.intro
  clear b1 HD
  by_cases hok : ppOK a k h
  · have CI : Hid (∀ u, _) := fun u => implPP_ok a k h u hok
    have CS : Hid (∀ u, _) := fun u => specPP_ok a k h u hok
    obtain ⟨⟨h1, h2, h3, h4, h5, h6⟩, hm⟩ := id hok
    have ef : fl k.toNat = fl k.toNat := rfl
    have f2 := fl_two k.toNat (by omega)
    have hrm := fl_room k.toNat (by omega) h h5 h6 hm
    have ne := pfx_ne a (fl k.toNat) h
    have le := pfx_len a (fl k.toNat) h
    have by' := pfx_bytes a (fl k.toNat) h h1 h2 f2 h5 hrm
    have back : ∀ u (r : Value), Row u .u8 r ([1, 255] ++ pfx a (fl k.toNat) h) → Calls Try.prog 7 #[r, .int .i64 2, .int .i64 k] u fun e w' => e = .returned (.tuple #[.int .i64 a, .int .i64 (2 + ((pfx a (fl k.toNat) h).length : Int)), .int .i64 0]) ∧ ∃ m, w' = u.drewN m := by
      intro u r hr
      have I := implGP r _ 2 k u hr (by simp; omega) (bytes2 by')
      have e0 : gpA ([1, 255] ++ pfx a (fl k.toNat) h) 2 k = (a, 2 + ((pfx a (fl k.toNat) h).length : Int), 0) := by
        unfold gpA
        rw [if_neg (by simp; omega), if_neg (by simp; omega)]
        rw [pfx_back a (fl k.toNat) h h1 h2 f2 hm _ (Int.toNat 2) (by simp)]
        simp; omega
      rw [e0] at I
      exact I
    have cutc : ∀ u (r : Value), Row u .u8 r ((pfx a (fl k.toNat) h).take ((pfx a (fl k.toNat) h).length - 1)) → Calls Try.prog 7 #[r, .int .i64 0, .int .i64 k] u fun e w' => e = .returned (.tuple #[.int .i64 0, .int .i64 0, .int .i64 2]) ∧ ∃ m, w' = u.drewN m := by
      intro u r hr
      have I := implGP r _ 0 k u hr (by simp; omega) (by'.take _)
      have e0 : gpA ((pfx a (fl k.toNat) h).take ((pfx a (fl k.toNat) h).length - 1)) 0 k = (0, 0, 2) := by
        unfold gpA
        rw [if_neg (by simp; omega), if_neg (by simp; omega), ← List.dropLast_eq_take]
        exact pfx_cut a (fl k.toNat) h h1 h2 f2 hm
      rw [e0] at I
      exact I
    obtain ⟨L, eL⟩ : ∃ L, L = pfx a (fl k.toNat) h := ⟨_, rfl⟩
    rw [← eL] at ne le back cutc
    have CI' := CI.out
    have CS' := CS.out
    rw [← eL] at CI' CS'
    obtain ⟨q, eq⟩ : ∃ q, q = L.length := ⟨_, rfl⟩
    rw [← eq] at ne le back cutc CI' CS'
    have K : Hid _ := And.intro CI' (And.intro CS' (And.intro back (And.intro cutc eq)))
    clear CI CS CI' CS' back cutc eL eq by' ef hm hrm f2 hok
    go_wp2_with fail
    go_at_call 5
    refine (K.out.1 _).mono ?_
    rintro e w2 ⟨r2, rfl, o2, b2⟩
    obtain ⟨g, cp, er2, gl, gb, hc1, hc2, hcell⟩ := own_formN o2 (by omega)
    subst er2
    have H2 : Hid _ := And.intro o2 (And.intro (H1.out.1.trans (b2.mono H1.out.1.size)) (And.intro gl hcell))
    clear o2 b2 H1 gl hcell
    go_wp2_with fail
    go_at_call 6
    refine (K.out.2.1 _).mono ?_
    rintro e w3 ⟨r3, rfl, o3, b3⟩
    obtain ⟨ao3, cp3, er3⟩ := own_formQ o3
    subst er3
    have H3 : Hid _ := And.intro (owns_below H2.out.1 b3) (And.intro b3 (And.intro b3.size (H2.out.2.1.trans (b3.mono H2.out.2.1.size))))
    clear o3 b3
    go_wp2_with (at_builtin; refine wpList_append_row rfl (.tmp 52) (.tmp 53) rfl w3.heap.size (.slice (some ⟨w3.heap.size, 0, none⟩) 2 2) 2 [1, 255] rfl (lit2P w3) (.slice (some ⟨g, 0, none⟩) q cp) L rfl ((row_of_owns H3.out.1).below ((Below.refl _ _).alloc (Nat.le_refl _) _)) (by rw [← K.out.2.2.2.2]; omega) (by simp) ?_; intro v4 w4 o4 g4; have H4 : Hid _ := And.intro (row_of_owns o4) (appP2 H3.out.2.2.2 g4); clear o4 g4)
    go_at_call 7
    refine (K.out.2.2.1 _ _ H4.out.1).mono ?_
    rintro e w5 ⟨rfl, m5, hw5⟩
    have b5 : Below w4.heap.size w4 w5 := by rw [hw5]; exact below_drewN (Below.refl _ _) m5
    have H5 : Hid _ := And.intro (H4.out.2.1.trans (b5.mono H4.out.2.1.size)) (H4.out.2.2.trans (b5.mono H4.out.2.2.size))
    clear hw5 b5
    have R5 : Hid (Row w5 .u8 (.slice (some ⟨g, 0, none⟩) (q - 1) cp) (L.take (q - 1))) := row_head (Nat.lt_of_lt_of_le H2.out.2.2.1 (Nat.le_trans H3.out.2.2.1 H5.out.2.size)) ne K.out.2.2.2.2 ⟨hc1, hc2⟩ (fun j hj => ((H3.out.2.1.trans (H5.out.2.mono H3.out.2.2.1)).cell (p := ⟨g, j, none⟩) H2.out.2.2.1).trans (H2.out.2.2.2 j hj))
    go_wp2_with fail
    go_at_call 7
    refine (K.out.2.2.2.1 _ _ R5.out).mono ?_
    rintro e w6 ⟨rfl, m6, hw6⟩
    have b6 : Below w5.heap.size w5 w6 := by rw [hw6]; exact below_drewN (Below.refl _ _) m6
    have H6 : Hid _ := And.intro (H5.out.1.trans (b6.mono H5.out.1.size)) True.intro
    clear hw6 b6
    go_wp2
    go_ret
    exact ⟨rfl, H6.out.1⟩
  · have CI : Hid (∀ u, _) := fun u => implPP_bad a k h u hok
    have CS : Hid (∀ u, _) := fun u => specPP_bad a k h u hok
    clear hok
    go_wp2_with fail
    go_at_call 5
    refine (CI.out _).mono ?_
    rintro e w2 ⟨r2, rfl, o2, b2⟩
    obtain ⟨ao2, cp2, er2⟩ := own_formQ o2
    subst er2
    have H2 : Hid _ := And.intro (H1.out.1.trans (b2.mono H1.out.1.size)) True.intro
    clear o2 b2
    go_wp2_with fail
    go_at_call 6
    refine (CS.out _).mono ?_
    rintro e w3 ⟨r3, rfl, o3, b3⟩
    obtain ⟨ao3, cp3, er3⟩ := own_formQ o3
    subst er3
    have H3 : Hid _ := And.intro (H2.out.1.trans (b3.mono H2.out.1.size)) True.intro
    clear o3 b3
    go_wp2
    go_ret
    exact ⟨rfl, H3.out.1⟩
theorem fnPrefix_walk (v : Value) (xs : List Int) (hl : xs.length ≤ maxLen) (hwf : ∀ x ∈ xs, (Lit.int .u8 x).wf = true) (w : World) (hrow : Row w .u8 v xs) :
    Calls Try.prog 3 #[v] w fun e w' => e = .returned (.bool true) ∧ Below w.heap.size w w' := by
  have hm : xs.length ≤ 9223372036854775807 := by unfold maxLen at hl; omega
  by_cases h20 : 1048576 < xs.length
  · obtain ⟨ao, cap, rfl⟩ := hrow.form
    exact prefix_huge ao _ cap w h20 hm
  · exact prefix_law v xs w hrow (bytes_of_wf hwf) (by omega)
end Go.Proofs.Ytklppacfomfkaaa
