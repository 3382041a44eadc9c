import Derived.Test.YtpbkigmcbgbfgaaDoorPrE
import Derived.Test.YtpbkigmcbgbfgaaDoorRkS
import Derived.Test.YtpbkigmcbgbfgaaDoorLift
namespace Go.Proofs.YtpbkigmcbgbfgaaDoor
open Go.RowKit
set_option linter.unusedVariables false

theorem bothP (s : ByteArray) (hm : s.size ≤ 9223372036854775807) : ∃ V : Int × Bool, (∀ u, Calls Tryd.prog 7 #[.string s] u fun e w' => e = .returned (.tuple #[.int .i64 V.1, .bool V.2]) ∧ w' = u) ∧ (∀ u, Calls Tryd.prog 6 #[.string s] u fun e w' => e = .returned (.tuple #[.int .i64 V.1, .bool V.2]) ∧ Below u.heap.size u w') := by
  by_cases h : 1024 < s.size
  · exact ⟨(3, false), fun u => specP_long s u h hm, fun u => readP_long s u h hm⟩
  · have e := bl_of s
    have hl : s.data.toList.length ≤ 1024 := by have := congrArg ByteArray.size e; rw [bl_size] at this; omega
    rw [e]
    exact ⟨rpV s.data.toList, fun u => specP _ u hl, fun u => readP _ u hl⟩
theorem prio_huge (ao : Option Addr) (n cap : Nat) (w : World) (h : 1048576 < n) (hm : n ≤ 9223372036854775807) :
    Calls Tryd.prog 3 #[.slice ao n cap] w fun e w' => e = .returned (.bool true) ∧ Below w.heap.size w w' := by
  go_enter Tryd.func3, Tryd.ntmps3
  go_wp2
  go_ret
  exact ⟨rfl, Below.refl _ _⟩
set_option maxRecDepth 20000 in
set_option maxHeartbeats 4000000 in
theorem prio_law (v : Value) (xs : List Int) (w : World) (hrow : Row w .u8 v xs) (hB : Bytes xs) (hl : xs.length ≤ 1048576) :
    Calls Tryd.prog 3 #[v] w fun e w' => e = .returned (.bool true) ∧ Below w.heap.size w w' := by
  have D := drawP v xs w hrow hB hl
  obtain ⟨ao, cap, ev⟩ := hrow.form
  obtain ⟨n, en⟩ : ∃ n, n = xs.length := ⟨_, rfl⟩
  rw [← en] at ev hl
  subst ev
  have HD : Hid _ := And.intro D True.intro
  clear D hrow hB en
  go_enter Tryd.func3, Tryd.ntmps3
  go_wp2_with fail
  go_at_call 4
  refine HD.out.1.mono ?_
  rintro e w1 ⟨s, rfl, hs, b1⟩
  obtain ⟨O, eO⟩ : ∃ O, O = s.data.toList := ⟨_, rfl⟩
  have es : s = bl O := by rw [eO]; exact bl_of s
  have hso : s.size = O.length := by rw [es, bl_size]
  have H1 : Hid _ := And.intro b1 es
  clear b1 eO es
  go_wp2_with fail
  go_loopw [4] (fun i wr => ∃ j : Nat, j ≤ 8 ∧ i = .int .i64 (j : Int) ∧ Below w.heap.size w wr) (fun i _ => 8 - (intOf i).toNat)
  case atStart => exact ⟨0, by omega, rfl, H1.out.1⟩
  case round =>
    obtain ⟨j, hj, rfl, hb⟩ := hrel
    by_cases hlt : j < 8
    · have hlt' : (j : Int) < 8 := by omega
      have HB : Hid _ := And.intro hb True.intro
      clear hb
      go_wp2_with fail
      go_loopw [5] (fun i wr' => ∃ k : Nat, k ≤ 2 ∧ i = .int .i64 (k : Int) ∧ Below w.heap.size w wr') (fun i _ => 2 - (intOf i).toNat)
      case atStart => exact ⟨0, by omega, rfl, HB.out.1⟩
      case round =>
        obtain ⟨k, hk, rfl, hbk⟩ := hrel
        by_cases hlk : k < 2
        · have hlk' : (k : Int) < 2 := by omega
          obtain ⟨B, eB⟩ : ∃ B : Bool, B = ((k : Int) == 1) := ⟨_, rfl⟩
          have eB2 : ((k : Int) == 1) = B := eB.symm
          have C1 := ptI (j : Int) B wr
          rw [pt_tx j hlt B] at C1
          have C2 := readP (tx j B) wr (by rw [tx_len]; split <;> omega)
          rw [tx_back j hlt B] at C2
          have C3 : (O ++ [44, 32, 105, 61, 63, 48, 32, 44] ++ tx j B).length ≤ 1024 → ∀ u, Calls Tryd.prog 6 #[.string (s ++ (⟨#[44, 32, 105, 61, 63, 48, 32, 44]⟩ : ByteArray) ++ bl (tx j B))] u fun e w' => e = .returned (.tuple #[.int .i64 (j : Int), .bool B]) ∧ Below u.heap.size u w' := fun h u => by
            have := readP (O ++ [44, 32, 105, 61, 63, 48, 32, 44] ++ tx j B) u h
            rw [tx_odd O j hlt B h] at this
            rw [H1.out.2, show (⟨#[44, 32, 105, 61, 63, 48, 32, 44]⟩ : ByteArray) = bl [44, 32, 105, 61, 63, 48, 32, 44] from rfl, bl_app, bl_app]
            exact this
          have htl : (tx j B).length ≤ 6 := by rw [tx_len]; split <;> omega
          have ht0 : (bl (tx j B) == (⟨#[]⟩ : ByteArray)) = false := (bl_eq (tx j B) []).trans (decide_eq_false (by cases B <;> simp [tx]))
          have ht1 := tl_litR _ _ _ ht0
          have hts : (bl (tx j B)).size = (tx j B).length := bl_size _
          have hlen : (O ++ [44, 32, 105, 61, 63, 48, 32, 44] ++ tx j B).length = s.size + (tx j B).length + 8 := by rw [hso]; simp; omega
          rw [hlen] at C3
          obtain ⟨T, eT⟩ : ∃ T, T = bl (tx j B) := ⟨_, rfl⟩
          obtain ⟨t, et⟩ : ∃ t, t = (tx j B).length := ⟨_, rfl⟩
          rw [← eT] at C1 C2 C3 ht0 ht1 hts
          rw [← et] at C3 hts htl
          have HC : Hid _ := And.intro C1 (And.intro C2 (And.intro C3 hbk))
          have hjj : ((j : Int) == (j : Int)) = true := by simp
          have hBB : (B == B) = true := by simp
          clear C1 C2 C3 hlen eT et hbk eB
          go_wp2_with fail
          go_at_call 5
          refine HC.out.1.mono ?_
          rintro e w2 ⟨rfl, hw2⟩
          subst hw2
          go_wp2_with fail
          go_at_call 6
          refine HC.out.2.1.mono ?_
          rintro e w3 ⟨rfl, b3⟩
          have H3 : Hid _ := And.intro (HC.out.2.2.2.trans (b3.mono HC.out.2.2.2.size)) True.intro
          clear b3
          have hw4 : IntKind.i64.wrap ((s.size : Int) + (t : Int)) = (s.size : Int) + (t : Int) := by rw [IntKind.wrap_i64]; omega
          have hw5 : IntKind.i64.wrap ((s.size : Int) + (t : Int) + 8) = (s.size : Int) + (t : Int) + 8 := by rw [IntKind.wrap_i64]; omega
          by_cases hsum : s.size + t + 8 ≤ 1024
          · have hsum' : (s.size : Int) + (t : Int) + 8 ≤ 1024 := by omega
            have hcat1 : ¬ 9223372036854775807 < s.size + 8 := by omega
            have hcat2 : ¬ 9223372036854775807 < s.size + 8 + t := by omega
            have hsz : (s ++ (⟨#[44, 32, 105, 61, 63, 48, 32, 44]⟩ : ByteArray)).size = s.size + 8 := by rw [ByteArray.size_append]; rfl
            have hcat3 : ¬ 9223372036854775807 < (s ++ (⟨#[44, 32, 105, 61, 63, 48, 32, 44]⟩ : ByteArray)).size + t := by omega
            go_wp2_with fail
            go_at_call 6
            refine (HC.out.2.2.1 hsum w3).mono ?_
            rintro e w4 ⟨rfl, b4⟩
            have H4 : Hid _ := And.intro (H3.out.1.trans (b4.mono H3.out.1.size)) True.intro
            clear b4
            go_wp2
            go_roundw
            case rel => exact ⟨k + 1, by omega, by go_num, H4.out.1⟩
            case measure => simp [intOf]; omega
          · have hsum' : ¬ (s.size : Int) + (t : Int) + 8 ≤ 1024 := by omega
            go_wp2
            go_roundw
            case rel => exact ⟨k + 1, by omega, by go_num, H3.out.1⟩
            case measure => simp [intOf]; omega
        · have hlk' : ¬ (k : Int) < 2 := by omega
          have HK : Hid _ := And.intro hbk True.intro
          clear hbk
          go_wp2
          go_roundw
          case rel => exact ⟨j + 1, by omega, by go_num, HK.out.1⟩
          case measure => simp [intOf]; omega
    · have hlt' : ¬ (j : Int) < 8 := by omega
      obtain ⟨V, CS, CI⟩ := bothP s (by omega)
      have h1 : (V.1 == V.1) = true := by simp
      have h2 : (V.2 == V.2) = true := by simp
      have C8 := fun u => ptI 8 false u
      have C9 := fun u => ptI (-1) true u
      rw [show ptV 8 false = (⟨#[]⟩ : ByteArray) from rfl] at C8
      rw [show ptV (-1) true = (⟨#[]⟩ : ByteArray) from rfl] at C9
      have HC : Hid _ := And.intro CS (And.intro CI (And.intro C8 (And.intro C9 hb)))
      clear CS CI C8 C9 hb
      go_wp2_with fail
      go_at_call 6
      refine (HC.out.2.1 wr).mono ?_
      rintro e w2 ⟨rfl, b2⟩
      have H2 : Hid _ := And.intro (HC.out.2.2.2.2.trans (b2.mono HC.out.2.2.2.2.size)) True.intro
      clear b2
      go_wp2_with fail
      go_at_call 7
      refine (HC.out.1 w2).mono ?_
      rintro e w3 ⟨rfl, hw3⟩
      subst hw3
      go_wp2_with (first | (go_at_call 5; refine (HC.out.2.2.1 w3).mono ?_; rintro e w4 ⟨rfl, hw4⟩; subst hw4) | (go_at_call 5; refine (HC.out.2.2.2.1 _).mono ?_; rintro e w5 ⟨rfl, hw5⟩; subst hw5))
      go_ret
      exact ⟨rfl, H2.out.1⟩
theorem fnPriority_walk (v : Value) (xs : List Int) (hl : xs.length ≤ maxLen) (hwf : ∀ x ∈ xs, (Lit.int .u8 x).wf = true) (w : World) (hrow : Row w .u8 v xs) :
    Calls Tryd.prog 3 #[v] w fun e w' => e = .returned (.bool true) ∧ Below w.heap.size w w' := by
  have hm : xs.length ≤ 9223372036854775807 := by unfold maxLen at hl; omega
  by_cases h20 : 1048576 < xs.length
  · obtain ⟨ao, cap, rfl⟩ := hrow.form
    exact prio_huge ao _ cap w h20 hm
  · exact prio_law v xs w hrow (bytes_of_wf hwf) (by omega)
end Go.Proofs.YtpbkigmcbgbfgaaDoor
