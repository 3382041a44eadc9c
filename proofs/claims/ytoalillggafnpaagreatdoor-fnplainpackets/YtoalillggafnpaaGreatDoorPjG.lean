import Derived.Test.YtoalillggafnpaaGreatDoorPjB
import Derived.Test.YtoalillggafnpaaGreatDoorPjC
import Derived.Test.YtoalillggafnpaaGreatDoorPjD
import Derived.Test.YtoalillggafnpaaGreatDoorPjA
import Derived.Test.YtoalillggafnpaaGreatDoorPjI
import Derived.Deep.RegionWith
namespace Go.Proofs.YtoalillggafnpaaGreatDoor
open Go.RowKit
set_option linter.unusedVariables false

theorem pkVer_err {xs : List Int} {p : Nat} {c : Int} (h : pkVer xs p = .error c) : c = 3 := by
  unfold pkVer at h
  split at h
  · cases h; rfl
  · split at h
    · cases h
    · cases h; rfl
theorem pkVer_len {xs : List Int} {p : Nat} {L : List Int} (h : pkVer xs p = .ok L) : 1 ≤ L.length := by
  unfold pkVer at h
  split at h
  · cases h
  · rename_i hb
    split at h
    · cases h; rw [versL_length]; omega
    · cases h
theorem varV_nat (xs : List Int) (p : Nat) : ∃ U : Nat, varV xs p = (U : Int) := ⟨(varV xs p).toNat, by have := varV_bd xs p; omega⟩
theorem num1_nat (xs : List Int) (hB : Bytes xs) (p : Nat) : ∃ U : Nat, vals (sub xs p 1) = (U : Int) := ⟨(vals (sub xs p 1)).toNat, by have := numK_lt xs hB p 1 (by decide); omega⟩
theorem first_lt (xs : List Int) (hB : Bytes xs) (h : 1 ≤ xs.length) : vals (sub xs 0 1) < 256 := by
  have h1 := vals_lt (sub xs 0 1) (sub_bytes hB 0 1)
  rw [sub_len xs 0 1 (by omega)] at h1
  simpa using h1
theorem peekS (ao : Option Addr) (n cap m : Nat) (xs : List Int) (w : World) (hlie : n = 0 ∨ ∃ b off, ao = some ⟨b, off, none⟩ ∧ Lies w b off n cap xs) (hlen : xs.length = n) (hB : Bytes xs) (hn : n ≤ 65536) (hm : m ≤ 8) :
    Calls Tryz.prog 38 #[.slice ao n cap, .int .i64 m] w fun e w' => PkPost xs m w e w' := by
  by_cases h0 : n < 1
  · exact peekS_none ao n cap m xs w hlen h0 hm
  obtain ⟨b, off, rfl, hl⟩ : ∃ b off, ao = some ⟨b, off, none⟩ ∧ Lies w b off n cap xs := by
    rcases hlie with h | h
    · omega
    · exact h
  have h1 : 1 ≤ n := by omega
  have hF256 := first_lt xs hB (by omega)
  by_cases f1 : vals (sub xs 0 1) < 64
  · exact peekS_low b off n cap m xs w hl hB hn h1 hm f1
  by_cases f2 : vals (sub xs 0 1) < 128
  · by_cases hs : n < 1 + m
    · exact peekS_sa b off n cap m xs w hl hB hn h1 hm f1 f2 hs
    · by_cases hs2 : n < 1 + m + 12
      · exact peekS_sb b off n cap m xs w hl hB hn h1 hm f1 f2 hs hs2
      · exact peekS_sc b off n cap m xs w hl hB hn h1 hm f1 f2 hs hs2
  by_cases h5 : n < 5
  · exact peekS_l01 b off n cap m xs w hl hB hn h1 hm f2 h5
  by_cases h6 : n < 6
  · exact peekS_l02 b off n cap m xs w hl hB hn h1 hm f2 h5 h6
  obtain ⟨L1, hL1⟩ := num1_nat xs hB 5
  by_cases h81 : 8 < L1
  · exact peekS_l03 b off n cap m xs w hl hB hn h1 hm f2 h6 L1 hL1 h81
  by_cases hs1 : n < 6 + L1
  · exact peekS_l04 b off n cap m xs w hl hB hn h1 hm f2 h6 L1 hL1 h81 hs1
  by_cases h7 : n < 7 + L1
  · exact peekS_l05 b off n cap m xs w hl hB hn h1 hm f2 h6 L1 hL1 h81 hs1 h7
  obtain ⟨L2, hL2⟩ := num1_nat xs hB (6 + L1)
  by_cases h82 : 8 < L2
  · exact peekS_l06 b off n cap m xs w hl hB hn h1 hm f2 h6 L1 hL1 h81 hs1 h7 L2 hL2 h82
  by_cases hs2 : n < 7 + L1 + L2
  · exact peekS_l07 b off n cap m xs w hl hB hn h1 hm f2 h6 L1 hL1 h81 hs1 h7 L2 hL2 h82 hs2
  by_cases hv0 : vals (sub xs 1 4) = 0
  · by_cases h128 : vals (sub xs 0 1) = 128
    · cases hpv : pkVer xs (6 + L1 + 1 + L2) with
      | error c =>
        obtain rfl := pkVer_err hpv
        exact peekS_l09 b off n cap m xs w hl hB hn h1 hm f2 h6 L1 hL1 h81 hs1 h7 L2 hL2 h82 hs2 hv0 h128 hpv
      | ok L => exact peekS_l10 b off n cap m xs w hl hB hn h1 hm f2 h6 L1 hL1 h81 hs1 h7 L2 hL2 h82 hs2 hv0 h128 L hpv (pkVer_len hpv)
    · exact peekS_l08 b off n cap m xs w hl hB hn h1 hm f2 h6 L1 hL1 h81 hs1 h7 L2 hL2 h82 hs2 hv0 h128
  by_cases k1 : vals (sub xs 0 1) < 192
  · exact peekS_l11 b off n cap m xs w hl hB hn h1 hm f2 h6 L1 hL1 h81 hs1 h7 L2 hL2 h82 hs2 hv0 k1
  by_cases k2 : vals (sub xs 0 1) < 208
  · by_cases hv : varOK xs (6 + L1 + 1 + L2)
    case neg => exact peekS_l15 b off n cap m xs w hl hB hn h1 hm f2 h6 L1 hL1 h81 hs1 h7 L2 hL2 h82 hs2 hv0 (by omega) k2 hv
    obtain ⟨U, hU⟩ := varV_nat xs (6 + L1 + 1 + L2)
    obtain ⟨M, hM⟩ : ∃ M : Nat, varN xs (6 + L1 + 1 + L2) = M := ⟨_, rfl⟩
    have hMn : M ≤ n := by have := (varN_bd xs _ hv).2; omega
    by_cases h64 : 64 < U
    · exact peekS_l16 b off n cap m xs w hl hB hn h1 hm f2 h6 L1 hL1 h81 hs1 h7 L2 hL2 h82 hs2 hv0 (by omega) k2 hv U M hU hM h64
    by_cases hst : n < M + U
    · exact peekS_l17 b off n cap m xs w hl hB hn h1 hm f2 h6 L1 hL1 h81 hs1 h7 L2 hL2 h82 hs2 hv0 (by omega) k2 hv U M hU hM hMn h64 hst
    by_cases hv2 : varOK xs (M + U)
    case neg => exact peekS_l18 b off n cap m xs w hl hB hn h1 hm f2 h6 L1 hL1 h81 hs1 h7 L2 hL2 h82 hs2 hv0 (by omega) k2 hv U M hU hM hMn h64 hst hv2
    obtain ⟨U2, hU2⟩ := varV_nat xs (M + U)
    obtain ⟨M2, hM2⟩ : ∃ M2 : Nat, varN xs (M + U) = M2 := ⟨_, rfl⟩
    have hM2n : M2 ≤ n := by have := (varN_bd xs _ hv2).2; omega
    by_cases hb : U2 < 12
    · exact peekS_l19 b off n cap m xs w hl hB hn h1 hm f2 h6 L1 hL1 h81 hs1 h7 L2 hL2 h82 hs2 hv0 (by omega) k2 hv U M hU hM hMn h64 hst hv2 U2 M2 hU2 hM2 hb
    by_cases hb2 : 1508 < U2
    · exact peekS_l20 b off n cap m xs w hl hB hn h1 hm f2 h6 L1 hL1 h81 hs1 h7 L2 hL2 h82 hs2 hv0 (by omega) k2 hv U M hU hM hMn h64 hst hv2 U2 M2 hU2 hM2 hb hb2
    by_cases hs3 : n < M2 + U2
    · exact peekS_l21 b off n cap m xs w hl hB hn h1 hm f2 h6 L1 hL1 h81 hs1 h7 L2 hL2 h82 hs2 hv0 (by omega) k2 hv U M hU hM hMn h64 hst hv2 U2 M2 hU2 hM2 hM2n hb hb2 hs3
    · exact peekS_l22 b off n cap m xs w hl hB hn h1 hm f2 h6 L1 hL1 h81 hs1 h7 L2 hL2 h82 hs2 hv0 (by omega) k2 hv U M hU hM hMn h64 hst hv2 U2 M2 hU2 hM2 hM2n hb hb2 hs3
  by_cases k3 : vals (sub xs 0 1) < 224
  · exact peekS_l12 b off n cap m xs w hl hB hn h1 hm f2 h6 L1 hL1 h81 hs1 h7 L2 hL2 h82 hs2 hv0 (by omega) k3
  by_cases k4 : vals (sub xs 0 1) < 240
  · by_cases hv2 : varOK xs (6 + L1 + 1 + L2)
    case neg => exact peekS_l24 b off n cap m xs w hl hB hn h1 hm f2 h6 L1 hL1 h81 hs1 h7 L2 hL2 h82 hs2 hv0 (by omega) k4 hv2
    obtain ⟨U2, hU2⟩ := varV_nat xs (6 + L1 + 1 + L2)
    obtain ⟨M2, hM2⟩ : ∃ M2 : Nat, varN xs (6 + L1 + 1 + L2) = M2 := ⟨_, rfl⟩
    have hM2n : M2 ≤ n := by have := (varN_bd xs _ hv2).2; omega
    by_cases hb : U2 < 12
    · exact peekS_l25 b off n cap m xs w hl hB hn h1 hm f2 h6 L1 hL1 h81 hs1 h7 L2 hL2 h82 hs2 hv0 (by omega) k4 hv2 U2 M2 hU2 hM2 hb
    by_cases hb2 : 1508 < U2
    · exact peekS_l26 b off n cap m xs w hl hB hn h1 hm f2 h6 L1 hL1 h81 hs1 h7 L2 hL2 h82 hs2 hv0 (by omega) k4 hv2 U2 M2 hU2 hM2 hb hb2
    by_cases hs3 : n < M2 + U2
    · exact peekS_l27 b off n cap m xs w hl hB hn h1 hm f2 h6 L1 hL1 h81 hs1 h7 L2 hL2 h82 hs2 hv0 (by omega) k4 hv2 U2 M2 hU2 hM2 hM2n hb hb2 hs3
    · exact peekS_l28 b off n cap m xs w hl hB hn h1 hm f2 h6 L1 hL1 h81 hs1 h7 L2 hL2 h82 hs2 hv0 (by omega) k4 hv2 U2 M2 hU2 hM2 hM2n hb hb2 hs3
  cases hpr : pkRet xs (6 + L1 + 1 + L2) with
  | error c => exact peekS_l13 b off n cap m xs w hl hB hn h1 hm f2 h6 L1 hL1 h81 hs1 h7 L2 hL2 h82 hs2 hv0 (by omega) (by omega) c hpr
  | ok t => exact peekS_l14 b off n cap m xs w hl hB hn h1 hm f2 h6 L1 hL1 h81 hs1 h7 L2 hL2 h82 hs2 hv0 (by omega) (by omega) t hpr
end Go.Proofs.YtoalillggafnpaaGreatDoor

namespace Go.Proofs.YtoalillggafnpaaGreatDoor
open Go.RowKit
set_option linter.unusedVariables false

/-- The three variables that the readers read. -/
structure T3 (w : World) : Prop where
  tab : Tab w
  tabL : TabL w
  err : errT w
theorem T3.lt {w : World} (h : T3 w) : 2 < w.heap.size := h.tab.lt
theorem T3.below {w w' : World} {B : Nat} (h : T3 w) (hb : Below B w w') (h0 : 2 < B) : T3 w' := ⟨h.tab.below hb h0, h.tabL.below hb (by omega), h.err.below hb (by omega)⟩
def rvL (xs : List Int) : List Int := match pk xs 0 with | .ok K => if K.f = 5 then K.vers else [] | .error _ => []
def rvC (xs : List Int) : Int := match pk xs 0 with | .ok K => if K.f = 5 then 0 else 3 | .error c => c
theorem row_lies {w : World} {v : Value} {xs : List Int} (h : Row w .u8 v xs) : ∃ ao cap, v = .slice ao xs.length cap ∧ (xs.length = 0 ∨ ∃ b off, ao = some ⟨b, off, none⟩ ∧ Lies w b off xs.length cap xs) := by
  rcases h with ⟨rfl, ao, cap, rfl⟩ | ⟨b, off, cap, rfl, hb, hc, hcell⟩
  · exact ⟨ao, cap, rfl, Or.inl rfl⟩
  · exact ⟨_, cap, rfl, Or.inr ⟨b, off, rfl, ⟨rfl, hb, hc.1, hc.2, hcell⟩⟩⟩
set_option maxRecDepth 20000 in
set_option maxHeartbeats 1000000 in
theorem implRV_bad (ao : Option Addr) (n cap : Nat) (c : Int) (w : World) (he : errT w)
    (hp : Calls Tryz.prog 36 #[.slice ao n cap, .int .i64 0] w fun e w' => Below w.heap.size w w' ∧ e = .returned (.tuple #[.agg #[.int .i64 0, .int .i64 0, .slice none 0 0, .slice none 0 0, .slice none 0 0, .int .i64 0, .int .i64 0, .int .i64 0, .slice none 0 0, .int .i64 0, .int .i64 0], faultV c])) :
    Calls Tryz.prog 14 #[.slice ao n cap] w fun e w' => ∃ r, e = .returned (.tuple #[r, .int .i64 c]) ∧ w'.ownsRow w.heap.size 3 1 r 0 (([] : List Int).map (Value.int .i64)) ∧ Below w.heap.size w w' := by
  have HE : Hid _ := And.intro he True.intro
  clear he
  go_enter Tryz.func14, Tryz.ntmps14
  go_wp2_with fail
  go_at_call 36
  refine hp.mono ?_
  rintro e w1 ⟨b1, rfl⟩
  have ba : ∀ o, Below w.heap.size w (w1.alloc o) := fun o => b1.alloc b1.size o
  have hcd : ∀ o, _ := fun o => codeC_fault c (w1.alloc o) (HE.out.1.below (ba o) HE.out.1.lt)
  have HB : Hid _ := And.intro ba True.intro
  clear b1 ba
  unfold faultV at hcd ⊢
  go_wp2_with fail
  go_at_call 37
  refine (hcd _).mono ?_
  rintro e w2 ⟨rfl, b2⟩
  go_wp2_with fail
  go_ret2
  exact ⟨_, rfl, World.ownsRow_nil _ _ _ _, (HB.out.1 _).trans (b2.mono (HB.out.1 _).size)⟩
set_option maxRecDepth 20000 in
set_option maxHeartbeats 1000000 in
theorem implRV_ok (ao : Option Addr) (n cap : Nat) (K : PK) (w : World)
    (hp : Calls Tryz.prog 36 #[.slice ao n cap, .int .i64 0] w fun e w' => Below w.heap.size w w' ∧ ∃ vd vs vt vv, e = .returned (.tuple #[.agg (pkA K vd vs vt vv), .nilIface]) ∧ HOwn w' w.heap.size vd vs vt ⟨K.f, K.v, K.d, K.s, K.t, 0, 0, 0⟩ ∧ w'.ownsRow w.heap.size 3 1 vv K.vers.length (K.vers.map (Value.int .i64))) :
    Calls Tryz.prog 14 #[.slice ao n cap] w fun e w' => ∃ r, e = .returned (.tuple #[r, .int .i64 (if K.f = 5 then 0 else 3)]) ∧ w'.ownsRow w.heap.size 3 1 r (if K.f = 5 then K.vers else []).length ((if K.f = 5 then K.vers else []).map (Value.int .i64)) ∧ Below w.heap.size w w' := by
  by_cases h5 : K.f = 5
  · rw [if_pos h5, if_pos h5]
    have d5 : (K.f != 5) = false := by simp [h5]
    clear h5
    go_enter Tryz.func14, Tryz.ntmps14
    go_wp2_with fail
    go_at_call 36
    refine hp.mono ?_
    rintro e w1 ⟨b1, vd, vs, vt, vv, rfl, q2, q3⟩
    obtain ⟨da, dp, ed⟩ := (row_of_owns q2.o0).form
    obtain ⟨sa, sp, es⟩ := (row_of_owns q2.o1).form
    obtain ⟨ta, tp, et⟩ := (row_of_owns q2.o2).form
    obtain ⟨va, vp, ev⟩ := (row_of_owns (k := .i64) q3).form
    have ba : ∀ o, Below w.heap.size w (w1.alloc o) := fun o => b1.alloc b1.size o
    have oa : ∀ o, (w1.alloc o).ownsRow w.heap.size 3 1 vv K.vers.length (K.vers.map (Value.int .i64)) := fun o => q3.alloc o
    subst ed es et ev
    have HB : Hid _ := And.intro ba oa
    clear b1 ba oa q2 q3 hp
    unfold pkA
    go_wp2_with fail
    go_ret2
    exact ⟨_, rfl, HB.out.2 _, HB.out.1 _⟩
  · rw [if_neg h5, if_neg h5]
    have d5 : (K.f != 5) = true := by simp [h5]
    clear h5
    go_enter Tryz.func14, Tryz.ntmps14
    go_wp2_with fail
    go_at_call 36
    refine hp.mono ?_
    rintro e w1 ⟨b1, vd, vs, vt, vv, rfl, q2, q3⟩
    obtain ⟨da, dp, ed⟩ := (row_of_owns q2.o0).form
    obtain ⟨sa, sp, es⟩ := (row_of_owns q2.o1).form
    obtain ⟨ta, tp, et⟩ := (row_of_owns q2.o2).form
    obtain ⟨va, vp, ev⟩ := (row_of_owns (k := .i64) q3).form
    have ba : ∀ o, Below w.heap.size w (w1.alloc o) := fun o => b1.alloc b1.size o
    subst ed es et ev
    have HB : Hid _ := And.intro ba True.intro
    clear b1 ba q2 q3 hp
    unfold pkA
    go_wp2_with fail
    go_ret2
    exact ⟨_, rfl, World.ownsRow_nil _ _ _ _, HB.out.1 _⟩
theorem implRV (v : Value) (xs : List Int) (w : World) (ht : T3 w) (hrow : Row w .u8 v xs) (hB : Bytes xs) (hm : xs.length ≤ 9223372036854775807) :
    Calls Tryz.prog 14 #[v] w fun e w' => ∃ r, e = .returned (.tuple #[r, .int .i64 (rvC xs)]) ∧ w'.ownsRow w.heap.size 3 1 r (rvL xs).length ((rvL xs).map (Value.int .i64)) ∧ Below w.heap.size w w' := by
  obtain ⟨ao, cap, rfl, hlie⟩ := row_lies hrow
  cases hp : pk xs 0 with
  | error c =>
    have e1 : rvC xs = c := by unfold rvC; rw [hp]
    have e2 : rvL xs = [] := by unfold rvL; rw [hp]
    rw [e1, e2]
    exact implRV_bad ao _ cap c w ht.err (peek_bad ao _ cap 0 c xs w ht.tab ht.tabL hlie rfl hB hm hp)
  | ok K =>
    have e1 : rvC xs = if K.f = 5 then 0 else 3 := by unfold rvC; rw [hp]
    have e2 : rvL xs = if K.f = 5 then K.vers else [] := by unfold rvL; rw [hp]
    rw [e1, e2]
    exact implRV_ok ao _ cap K w (peek_ok ao _ cap 0 K xs w ht.tab ht.tabL hlie rfl hB hm hp)
end Go.Proofs.YtoalillggafnpaaGreatDoor

namespace Go.Proofs.YtoalillggafnpaaGreatDoor
open Go.RowKit
set_option linter.unusedVariables false

theorem rvL_length (xs : List Int) : (rvL xs).length ≤ 4096 := by
  unfold rvL
  split
  · rename_i K hK
    split
    · rename_i h5
      have h1 := (pk_vers hK h5).1
      unfold pkVer at h1
      split at h1
      · cases h1
      · split at h1
        · have e := Except.ok.inj h1
          rw [← e, versL_length]
          omega
        · cases h1
    · simp
  · simp
end Go.Proofs.YtoalillggafnpaaGreatDoor

namespace Go.Proofs.YtoalillggafnpaaGreatDoor
open Go.RowKit
set_option linter.unusedVariables false

theorem sub_le (xs : List Int) (p k : Nat) : (sub xs p k).length ≤ xs.length := by
  unfold sub
  rw [List.length_take, List.length_drop]
  omega
theorem ret_small {xs t : List Int} {p : Nat} (h : pkRet xs p = .ok t) : t.length ≤ xs.length := by
  unfold pkRet at h
  split at h
  · cases h
  · split at h
    · cases h
    · cases h; exact sub_le _ _ _
theorem ini_small {xs d s : List Int} {v : Int} {p : Nat} {K : PK} (h : pkIni xs v d s p = .ok K) : K.d = d ∧ K.s = s ∧ K.t.length ≤ xs.length := by
  unfold pkIni at h
  split at h
  · split at h
    · cases h
    · split at h
      · cases h
      · split at h
        · cases h
        · cases h; exact ⟨rfl, rfl, sub_le _ _ _⟩
  · cases h
theorem tail_small {xs d s : List Int} {f v : Int} {p : Nat} {K : PK} (h : pkTail xs f v d s p = .ok K) : K.d = d ∧ K.s = s ∧ K.t.length ≤ xs.length := by
  unfold pkTail at h
  split at h
  · split at h
    · cases h
    · split at h
      · cases h
      · cases h; exact ⟨rfl, rfl, Nat.zero_le _⟩
  · split at h
    · split at h
      · cases h
      · rename_i hb; cases h; exact ⟨rfl, rfl, ret_small hb⟩
    · split at h
      · exact ini_small h
      · split at h
        · split at h
          · cases h
          · cases h; exact ⟨rfl, rfl, Nat.zero_le _⟩
        · cases h
/-- What is told of a packet's clear part is no longer than the packet. -/
theorem pk_small {xs : List Int} {cl : Int} {K : PK} (h : pk xs cl = .ok K) : K.d.length ≤ 65536 ∧ K.s.length ≤ 65536 ∧ K.t.length ≤ 65536 := by
  unfold pk at h
  split at h
  · cases h
  · rename_i h16
    split at h
    · cases h
    · split at h
      · cases h
      · split at h
        · cases h
        · split at h
          · unfold pkShP at h
            split at h
            · cases h
            · rename_i d q hb
              cases h
              unfold pkSho at hb
              split at hb
              · cases hb
              · cases hb
                have := sub_le xs 1 cl.toNat
                exact ⟨by show (sub xs 1 cl.toNat).length ≤ 65536; omega, Nat.zero_le _, Nat.zero_le _⟩
          · unfold pkLong at h
            split at h
            · cases h
            · split at h
              · cases h
              · rename_i d p1 hc1
                split at h
                · cases h
                · rename_i s p2 hc2
                  obtain ⟨t1, t2, t3⟩ := tail_small h
                  obtain ⟨a1, a2⟩ := cid_spec hc1
                  obtain ⟨b1, b2⟩ := cid_spec hc2
                  rw [t1, t2]
                  exact ⟨by omega, by omega, by omega⟩
abbrev hd0 : Obj := .cells #[.int .i64 0, .int .i64 0, .slice none 0 0, .slice none 0 0, .slice none 0 0, .int .i64 0, .int .i64 0, .int .i64 0] 24
theorem pe_facts {w w1 w2 : World} {P : Obj} (b1 : Below (w.alloc hd0).heap.size (w.alloc hd0) w1) (b2 : Below ((w1.alloc P).drew).heap.size ((w1.alloc P).drew) w2) :
    hdB w2 w.heap.size (.int .i64 0) (.int .i64 0) (.slice none 0 0) (.slice none 0 0) (.slice none 0 0) (.int .i64 0) (.int .i64 0) (.int .i64 0) ∧ w2.heap[w1.heap.size]? = some P ∧ Below w.heap.size w w2 ∧ w1.heap.size ≠ w.heap.size ∧ ∀ t v m L, w1.ownsRow (w.alloc hd0).heap.size t 1 v m L → w2.ownsRow (w.alloc hd0).heap.size t 1 v m L := by
  have hs : (w.alloc hd0).heap.size = w.heap.size + 1 := by simp
  have h1 := b1.size
  rw [hs] at h1
  have hsz : ((w1.alloc P).drew).heap.size = w1.heap.size + 1 := by simp [World.drew]
  have hb0 : Below w.heap.size w (w.alloc hd0) := (Below.refl _ _).alloc (Nat.le_refl _) _
  have hb1 : Below w.heap.size w w1 := hb0.trans (b1.mono hb0.size)
  have hb2 : Below w.heap.size w ((w1.alloc P).drew) := (hb1.alloc hb1.size _).drew
  refine ⟨?_, ?_, ?_, ?_, ?_⟩
  · have e0 := heap_alloc_new w hd0
    have e1 := (b1.block w.heap.size (by omega)).trans e0
    have e2 : ((w1.alloc P).drew).heap[w.heap.size]? = some hd0 := by
      rw [drew_heap, Below.heap_alloc _ _ _ (by omega)]; exact e1
    exact (b2.block w.heap.size (by omega)).trans e2
  · have e2 : ((w1.alloc P).drew).heap[w1.heap.size]? = some P := by
      rw [drew_heap]; exact heap_alloc_new w1 P
    exact (b2.block w1.heap.size (by omega)).trans e2
  · exact hb2.trans (b2.mono hb2.size)
  · omega
  · intro t v m L h
    exact owns_below (owns_drewN (h.alloc P) 1) b2
theorem pe_far {w : World} {g k : Nat} {a0 a1 a2 a3 a4 a5 a6 a7 u : Value} (hg : k ≠ g) (h : w.cell? ⟨k, 10, none⟩ = some u) : (st8 w g a0 a1 a2 a3 a4 a5 a6 a7).cell? ⟨k, 10, none⟩ = some u := by
  have hk : ∀ (W : World) (i : Nat) (x : Value), W.cell? ⟨k, 10, none⟩ = some u → (W.setCell ⟨g, i, none⟩ x).cell? ⟨k, 10, none⟩ = some u := by
    intro W i x hW
    rw [World.cell?, bk_other hg]
    exact hW
  exact hk _ _ _ (hk _ _ _ (hk _ _ _ (hk _ _ _ (hk _ _ _ (hk _ _ _ (hk _ _ _ (hk _ _ _ h)))))))
def pkH (xs : List Int) (cl : Int) : H8 := match pk xs cl with | .ok K => ⟨K.f, K.v, K.d, K.s, K.t, 0, 0, 0⟩ | .error _ => ⟨0, 0, [], [], [], 0, 0, 0⟩
def pkEnd (xs : List Int) (cl : Int) : Int := match pk xs cl with | .ok K => (K.fin : Int) | .error _ => 0
def pkCode (xs : List Int) (cl : Int) : Int := match pk xs cl with | .ok _ => 0 | .error c => c
theorem pkH_small (xs : List Int) (cl : Int) : (pkH xs cl).small 1048576 := by
  unfold pkH
  split
  · rename_i K hK
    obtain ⟨h1, h2, h3⟩ := pk_small hK
    exact ⟨Nat.le_trans h1 (by decide), Nat.le_trans h2 (by decide), Nat.le_trans h3 (by decide)⟩
  · exact ⟨Nat.zero_le _, Nat.zero_le _, Nat.zero_le _⟩
theorem pk_apart (v : Value) : Apart (.slice none 0 0) v := fun g h => by simp [Value.ownBlock] at h
theorem pkPost_own {xs : List Int} {cl : Int} {w w' : World} {e : Ending} (h : PkPost xs cl w e w') : ∃ r, e = .returned (.tuple #[r, .int .i64 (pkEnd xs cl), .int .i64 (pkCode xs cl)]) ∧ HOwns w' w.heap.size r (pkH xs cl) ∧ Below w.heap.size w w' := by
  obtain ⟨hb, ⟨c, hc, rfl⟩ | ⟨K, vd, vs, vt, hc, rfl, ho⟩⟩ := h
  · have e1 : pkH xs cl = ⟨0, 0, [], [], [], 0, 0, 0⟩ := by unfold pkH; rw [hc]
    have e2 : pkEnd xs cl = 0 := by unfold pkEnd; rw [hc]
    have e3 : pkCode xs cl = c := by unfold pkCode; rw [hc]
    rw [e1, e2, e3]
    exact ⟨_, rfl, ⟨_, _, _, rfl, ⟨World.ownsRow_nil _ _ _ _, World.ownsRow_nil _ _ _ _, World.ownsRow_nil _ _ _ _, pk_apart _, pk_apart _, pk_apart _⟩⟩, hb⟩
  · have e1 : pkH xs cl = ⟨K.f, K.v, K.d, K.s, K.t, 0, 0, 0⟩ := by unfold pkH; rw [hc]
    have e2 : pkEnd xs cl = (K.fin : Int) := by unfold pkEnd; rw [hc]
    have e3 : pkCode xs cl = 0 := by unfold pkCode; rw [hc]
    rw [e1, e2, e3]
    exact ⟨_, rfl, ⟨_, _, _, rfl, ho⟩, hb⟩
end Go.Proofs.YtoalillggafnpaaGreatDoor
