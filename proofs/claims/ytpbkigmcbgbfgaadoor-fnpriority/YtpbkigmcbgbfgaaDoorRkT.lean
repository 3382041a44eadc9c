import Derived.Test.YtpbkigmcbgbfgaaDoorRkP
import Derived.WalkKit
import Derived.Laws.IdiomStrings
import Derived.Deep.RegionWith
namespace Go.Proofs.YtpbkigmcbgbfgaaDoor
open Go.RowKit
set_option linter.unusedVariables false

theorem ixB (l : List UInt8) (i : Nat) (h : i < l.length) (u : World) : (Instr.index 9 (.string (bl l)) (.int .i64 (i : Int))).run Tryd.prog u = .ok (.int .u8 ((l[i]'h).toNat : Int)) u := by
  have hi : 0 ≤ (i : Int) ∧ (i : Int) < ((bl l).size : Nat) := ⟨by omega, by rw [bl_size]; omega⟩
  refine (run_index_string u 9 _ .i64 (i : Int) Tryd.underlying9).trans ((dif_pos hi).trans ?_)
  have e := bl_get l i (by rw [bl_size]; exact h)
  simp only [Int.toNat_natCast]
  rw [e]
def lenS : Value → Nat
  | .string s => s.size
  | _ => 0
set_option maxHeartbeats 1000000 in
theorem trimLI (l : List UInt8) (w : World) (hl : l.length ≤ 1048576) :
    Calls Tryd.prog 18 #[.string (bl l), .int .u8 32] w fun e w' => e = .returned (.string (bl (tL l))) ∧ w' = w := by
  go_enter Tryd.func18, Tryd.ntmps18
  go_wp2
  go_loopw [0] (fun v wr => ∃ m : List UInt8, v = .string (bl m) ∧ tL m = tL l ∧ m.length ≤ l.length ∧ wr = w) (fun v _ => lenS v)
  case atStart => exact ⟨l, rfl, rfl, Nat.le_refl _, rfl⟩
  case round =>
    obtain ⟨m, rfl, hm, hml, hwr⟩ := hrel
    subst hwr
    cases m with
    | nil =>
      have hz : (bl ([] : List UInt8)).size = 0 := rfl
      go_wp2
      go_ret
      exact ⟨by rw [← hm]; rfl, rfl⟩
    | cons x r =>
      have hx : ∀ u : World, (Instr.index 9 (.string (bl (x :: r))) (.int .i64 0)).run Tryd.prog u = .ok (.int .u8 (x.toNat : Int)) u := fun u => ixB (x :: r) 0 (by simp) u
      have hz : (bl (x :: r)).size = r.length + 1 := bl_size _
      obtain ⟨c, ec⟩ : ∃ c : Int, c = (x.toNat : Int) := ⟨_, rfl⟩
      obtain ⟨S, eS⟩ : ∃ S, S = bl (x :: r) := ⟨_, rfl⟩
      rw [← eS, ← ec] at hx
      rw [← eS] at hz ⊢
      have HM : Hid _ := And.intro hm (And.intro hml (And.intro ec eS))
      by_cases h : x = 32
      · have hb : (c == 32) = true := by rw [ec, h]; rfl
        have HX : Hid _ := And.intro h True.intro
        clear hm hml ec eS h
        go_wp2
        have e : S.extract 1 (r.length + 1) = bl r := by rw [HM.out.2.2.2, bl_ext]; simp
        rw [e]
        refine ⟨⟨r, rfl, ?_, by have := HM.out.2.1; simp at this; omega, trivial⟩, ?_⟩
        · rw [← HM.out.1, HX.out.1]; simp only [tL, if_true]
        · simp only [lenS, bl_size, hz]; omega
      · have hb : (c == 32) = false := by
          have : x.toNat ≠ 32 := fun e => h (UInt8.toNat_inj.1 e)
          simpa using (by omega : ¬ c = 32)
        have HX : Hid _ := And.intro h True.intro
        clear hm hml ec eS h
        go_wp2
        go_ret
        refine ⟨?_, rfl⟩
        rw [← HM.out.1]
        simp only [tL]
        rw [if_neg HX.out.1, ← HM.out.2.2.2]
        rfl
set_option maxHeartbeats 1000000 in
theorem trimRI (l : List UInt8) (w : World) (hl : l.length ≤ 1048576) :
    Calls Tryd.prog 19 #[.string (bl l), .int .u8 32] w fun e w' => e = .returned (.string (bl (tR l))) ∧ w' = w := by
  go_enter Tryd.func19, Tryd.ntmps19
  go_wp2
  go_loopw [0] (fun v wr => ∃ m : List UInt8, v = .string (bl m) ∧ tR m = tR l ∧ m.length ≤ l.length ∧ wr = w) (fun v _ => lenS v)
  case atStart => exact ⟨l, rfl, rfl, Nat.le_refl _, rfl⟩
  case round =>
    obtain ⟨m, rfl, hm, hml, hwr⟩ := hrel
    subst hwr
    rcases (List.eq_nil_or_concat m).imp_right (fun ⟨r, x, e⟩ => (⟨r, x, by rw [e, List.concat_eq_append]⟩ : ∃ r x, m = r ++ [x])) with rfl | ⟨r, x, rfl⟩
    · have hz : (bl ([] : List UInt8)).size = 0 := rfl
      go_wp2
      go_ret
      exact ⟨by rw [← hm]; rfl, rfl⟩
    · have hx := ixB (r ++ [x]) r.length (by simp)
      rw [show (r ++ [x])[r.length]'(by simp) = x by simp] at hx
      have hz : (bl (r ++ [x])).size = r.length + 1 := by rw [bl_size]; simp
      have hr : r.length < 1048576 := by simp at hml; omega
      obtain ⟨c, ec⟩ : ∃ c : Int, c = (x.toNat : Int) := ⟨_, rfl⟩
      obtain ⟨S, eS⟩ : ∃ S, S = bl (r ++ [x]) := ⟨_, rfl⟩
      rw [← eS, ← ec] at hx
      rw [← eS] at hz ⊢
      have HM : Hid _ := And.intro hm (And.intro hml (And.intro ec eS))
      by_cases h : x = 32
      · have hb : (c == 32) = true := by rw [ec, h]; rfl
        have HX : Hid _ := And.intro h True.intro
        clear hm hml ec eS h
        generalize hk : r.length = k at *
        have HK : Hid _ := And.intro hk True.intro
        clear hk
        go_wp2
        have e : S.extract 0 k = bl r := by rw [HM.out.2.2.2, bl_ext, ← HK.out.1]; simp
        rw [e]
        refine ⟨⟨r, rfl, ?_, by have := HM.out.2.1; simp at this; omega, trivial⟩, ?_⟩
        · rw [← HM.out.1, HX.out.1]; exact (tR_rep 1 r).symm
        · simp only [lenS, bl_size, hz]; have := HK.out.1; omega
      · have hb : (c == 32) = false := by
          have : x.toNat ≠ 32 := fun e => h (UInt8.toNat_inj.1 e)
          simpa using (by omega : ¬ c = 32)
        have HX : Hid _ := And.intro h True.intro
        clear hm hml ec eS h
        generalize hk : r.length = k at *
        clear hk
        go_wp2
        go_ret
        exact ⟨by rw [← HM.out.1, tR_last _ _ HX.out.1, ← HM.out.2.2.2]; rfl, rfl⟩
theorem tl_litR (a : ByteArray) (x : Array UInt8) (c : Bool) (h : (a == (⟨x⟩ : ByteArray)) = c) : (a.toList == x.toList) = c := by
  have e1 : (a == (⟨x⟩ : ByteArray)) = (a.data == x) := rfl
  rw [e1] at h
  rw [ByteArray.toList_eq]
  subst h
  cases hd : (a.data == x) with
  | true => simpa using hd
  | false =>
    rw [beq_eq_false_iff_ne] at hd ⊢
    intro e
    exact hd (Array.ext' e)
set_option maxHeartbeats 1000000 in
theorem trimI (l : List UInt8) (w : World) (hl : l.length ≤ 1048576) :
    Calls Tryd.prog 14 #[.string (bl l), .string ⟨#[32]⟩] w fun e w' => e = .returned (.string (bl (tL (tR l)))) ∧ Below w.heap.size w w' := by
  by_cases h0 : l = []
  · subst h0
    have q : (bl [] == (⟨#[]⟩ : ByteArray)) = true := rfl
    have t := tl_litR _ _ _ q
    go_enter Tryd.func14, Tryd.ntmps14
    go_wp2
    go_ret
    exact ⟨rfl, Below.refl _ _⟩
  · have q : (bl l == (⟨#[]⟩ : ByteArray)) = false := by rw [show (⟨#[]⟩ : ByteArray) = bl [] from rfl, bl_eq]; simpa using h0
    have t := tl_litR _ _ _ q
    have hx : ∀ u : World, (Instr.index 9 (.string ⟨#[32]⟩) (.int .i64 0)).run Tryd.prog u = .ok (.int .u8 32) u := fun u => ixB [32] 0 (by simp) u
    have R := fun u => trimRI l u hl
    have hR : (tR l).length ≤ 1048576 := by obtain ⟨i, e⟩ := tR_dec l; have := congrArg List.length e; rw [List.length_append] at this; omega
    have L := fun u => trimLI (tR l) u hR
    generalize bl (tL (tR l)) = Y at *
    generalize bl (tR l) = Z at *
    generalize bl l = S at *
    have H : Hid _ := And.intro R L
    clear R L hR
    go_enter Tryd.func14, Tryd.ntmps14
    go_wp2_with fail
    go_region_with (first | (go_at_call 19; refine (H.out.1 _).mono ?_; rintro e w1 ⟨rfl, hw⟩; subst hw) | (go_at_call 18; refine (H.out.2 _).mono ?_; rintro e w1 ⟨rfl, hw⟩; subst hw))
    all_goals (
      go_wp2
      go_ret
      exact ⟨rfl, (Below.refl w.heap.size w).drew⟩)
set_option maxHeartbeats 1000000 in
theorem ibI (l : List UInt8) (w : World) :
    Calls Tryd.prog 45 #[.string (bl l), .int .u8 44] w fun e w' => e = .returned (.int .i64 (if ci l < l.length then (ci l : Int) else -1)) ∧ w' = w := by
  rw [← ib_ci]
  go_enter Tryd.func45, Tryd.ntmps45
  go_wp2
  rw [run_callFunc_extern Tryd.func53 (by kernel_rfl) (by kernel_rfl) (by kernel_rfl) (e := Extern.BytealgIndexByte.indexByte) (by kernel_rfl), Lib.run_indexByteString]
  simp only [Result.andThen]
  rw [Oper.upon_value]
  go_wp2
  go_ret
  exact ⟨by rw [bl_data]; rfl, rfl⟩
end Go.Proofs.YtpbkigmcbgbfgaaDoor
