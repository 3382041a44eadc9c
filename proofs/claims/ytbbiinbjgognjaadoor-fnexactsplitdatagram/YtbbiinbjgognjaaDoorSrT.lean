import Derived.Test.YtbbiinbjgognjaaDoorSrQ
import Derived.Test.YtbbiinbjgognjaaDoorSrLa
import Derived.Test.YtbbiinbjgognjaaDoorSrLb
import Derived.Test.YtbbiinbjgognjaaDoorSrLc
import Derived.Test.YtbbiinbjgognjaaDoorSrLd
namespace Go.Proofs.YtbbiinbjgognjaaDoor
open Go.RowKit
set_option linter.unusedVariables false

theorem pkVer_err {xs : List Int} {p : Nat} {c : Int} (h : pkVer xs p = .error c) : c = 3 := by
  unfold pkVer at h
  split at h
  · cases h; rfl
  · split at h
    · cases h
    · cases h; rfl
theorem pkVer_len {xs : List Int} {p : Nat} {L : List Int} (h : pkVer xs p = .ok L) : 1 ≤ L.length := by
  unfold pkVer at h
  split at h
  · cases h
  · rename_i hb
    split at h
    · cases h; rw [versL_length]; omega
    · cases h
theorem varV_nat (xs : List Int) (p : Nat) : ∃ U : Nat, varV xs p = (U : Int) := ⟨(varV xs p).toNat, by have := varV_bd xs p; omega⟩
theorem num1_nat (xs : List Int) (hB : Bytes xs) (p : Nat) : ∃ U : Nat, vals (sub xs p 1) = (U : Int) := ⟨(vals (sub xs p 1)).toNat, by have := numK_lt xs hB p 1 (by decide); omega⟩
theorem first_lt (xs : List Int) (hB : Bytes xs) (h : 1 ≤ xs.length) : vals (sub xs 0 1) < 256 := by
  have h1 := vals_lt (sub xs 0 1) (sub_bytes hB 0 1)
  rw [sub_len xs 0 1 (by omega)] at h1
  simpa using h1
theorem peekS (ao : Option Addr) (n cap m : Nat) (xs : List Int) (w : World) (hlie : n = 0 ∨ ∃ b off, ao = some ⟨b, off, none⟩ ∧ Lies w b off n cap xs) (hlen : xs.length = n) (hB : Bytes xs) (hn : n ≤ 65536) (hm : m ≤ 8) :
    Calls Tryd.prog 27 #[.slice ao n cap, .int .i64 m] w fun e w' => PkPost xs m w e w' := by
  by_cases h0 : n < 1
  · exact peekS_none ao n cap m xs w hlen h0 hm
  obtain ⟨b, off, rfl, hl⟩ : ∃ b off, ao = some ⟨b, off, none⟩ ∧ Lies w b off n cap xs := by
    rcases hlie with h | h
    · omega
    · exact h
  have h1 : 1 ≤ n := by omega
  have hF256 := first_lt xs hB (by omega)
  by_cases f1 : vals (sub xs 0 1) < 64
  · exact peekS_low b off n cap m xs w hl hB hn h1 hm f1
  by_cases f2 : vals (sub xs 0 1) < 128
  · by_cases hs : n < 1 + m
    · exact peekS_sa b off n cap m xs w hl hB hn h1 hm f1 f2 hs
    · by_cases hs2 : n < 1 + m + 12
      · exact peekS_sb b off n cap m xs w hl hB hn h1 hm f1 f2 hs hs2
      · exact peekS_sc b off n cap m xs w hl hB hn h1 hm f1 f2 hs hs2
  by_cases h5 : n < 5
  · exact peekS_l01 b off n cap m xs w hl hB hn h1 hm f2 h5
  by_cases h6 : n < 6
  · exact peekS_l02 b off n cap m xs w hl hB hn h1 hm f2 h5 h6
  obtain ⟨L1, hL1⟩ := num1_nat xs hB 5
  by_cases h81 : 8 < L1
  · exact peekS_l03 b off n cap m xs w hl hB hn h1 hm f2 h6 L1 hL1 h81
  by_cases hs1 : n < 6 + L1
  · exact peekS_l04 b off n cap m xs w hl hB hn h1 hm f2 h6 L1 hL1 h81 hs1
  by_cases h7 : n < 7 + L1
  · exact peekS_l05 b off n cap m xs w hl hB hn h1 hm f2 h6 L1 hL1 h81 hs1 h7
  obtain ⟨L2, hL2⟩ := num1_nat xs hB (6 + L1)
  by_cases h82 : 8 < L2
  · exact peekS_l06 b off n cap m xs w hl hB hn h1 hm f2 h6 L1 hL1 h81 hs1 h7 L2 hL2 h82
  by_cases hs2 : n < 7 + L1 + L2
  · exact peekS_l07 b off n cap m xs w hl hB hn h1 hm f2 h6 L1 hL1 h81 hs1 h7 L2 hL2 h82 hs2
  by_cases hv0 : vals (sub xs 1 4) = 0
  · by_cases h128 : vals (sub xs 0 1) = 128
    · cases hpv : pkVer xs (6 + L1 + 1 + L2) with
      | error c =>
        obtain rfl := pkVer_err hpv
        exact peekS_l09 b off n cap m xs w hl hB hn h1 hm f2 h6 L1 hL1 h81 hs1 h7 L2 hL2 h82 hs2 hv0 h128 hpv
      | ok L => exact peekS_l10 b off n cap m xs w hl hB hn h1 hm f2 h6 L1 hL1 h81 hs1 h7 L2 hL2 h82 hs2 hv0 h128 L hpv (pkVer_len hpv)
    · exact peekS_l08 b off n cap m xs w hl hB hn h1 hm f2 h6 L1 hL1 h81 hs1 h7 L2 hL2 h82 hs2 hv0 h128
  by_cases k1 : vals (sub xs 0 1) < 192
  · exact peekS_l11 b off n cap m xs w hl hB hn h1 hm f2 h6 L1 hL1 h81 hs1 h7 L2 hL2 h82 hs2 hv0 k1
  by_cases k2 : vals (sub xs 0 1) < 208
  · by_cases hv : varOK xs (6 + L1 + 1 + L2)
    case neg => exact peekS_l15 b off n cap m xs w hl hB hn h1 hm f2 h6 L1 hL1 h81 hs1 h7 L2 hL2 h82 hs2 hv0 (by omega) k2 hv
    obtain ⟨U, hU⟩ := varV_nat xs (6 + L1 + 1 + L2)
    obtain ⟨M, hM⟩ : ∃ M : Nat, varN xs (6 + L1 + 1 + L2) = M := ⟨_, rfl⟩
    have hMn : M ≤ n := by have := (varN_bd xs _ hv).2; omega
    by_cases h64 : 64 < U
    · exact peekS_l16 b off n cap m xs w hl hB hn h1 hm f2 h6 L1 hL1 h81 hs1 h7 L2 hL2 h82 hs2 hv0 (by omega) k2 hv U M hU hM h64
    by_cases hst : n < M + U
    · exact peekS_l17 b off n cap m xs w hl hB hn h1 hm f2 h6 L1 hL1 h81 hs1 h7 L2 hL2 h82 hs2 hv0 (by omega) k2 hv U M hU hM hMn h64 hst
    by_cases hv2 : varOK xs (M + U)
    case neg => exact peekS_l18 b off n cap m xs w hl hB hn h1 hm f2 h6 L1 hL1 h81 hs1 h7 L2 hL2 h82 hs2 hv0 (by omega) k2 hv U M hU hM hMn h64 hst hv2
    obtain ⟨U2, hU2⟩ := varV_nat xs (M + U)
    obtain ⟨M2, hM2⟩ : ∃ M2 : Nat, varN xs (M + U) = M2 := ⟨_, rfl⟩
    have hM2n : M2 ≤ n := by have := (varN_bd xs _ hv2).2; omega
    by_cases hb : U2 < 12
    · exact peekS_l19 b off n cap m xs w hl hB hn h1 hm f2 h6 L1 hL1 h81 hs1 h7 L2 hL2 h82 hs2 hv0 (by omega) k2 hv U M hU hM hMn h64 hst hv2 U2 M2 hU2 hM2 hb
    by_cases hb2 : 1508 < U2
    · exact peekS_l20 b off n cap m xs w hl hB hn h1 hm f2 h6 L1 hL1 h81 hs1 h7 L2 hL2 h82 hs2 hv0 (by omega) k2 hv U M hU hM hMn h64 hst hv2 U2 M2 hU2 hM2 hb hb2
    by_cases hs3 : n < M2 + U2
    · exact peekS_l21 b off n cap m xs w hl hB hn h1 hm f2 h6 L1 hL1 h81 hs1 h7 L2 hL2 h82 hs2 hv0 (by omega) k2 hv U M hU hM hMn h64 hst hv2 U2 M2 hU2 hM2 hM2n hb hb2 hs3
    · exact peekS_l22 b off n cap m xs w hl hB hn h1 hm f2 h6 L1 hL1 h81 hs1 h7 L2 hL2 h82 hs2 hv0 (by omega) k2 hv U M hU hM hMn h64 hst hv2 U2 M2 hU2 hM2 hM2n hb hb2 hs3
  by_cases k3 : vals (sub xs 0 1) < 224
  · exact peekS_l12 b off n cap m xs w hl hB hn h1 hm f2 h6 L1 hL1 h81 hs1 h7 L2 hL2 h82 hs2 hv0 (by omega) k3
  by_cases k4 : vals (sub xs 0 1) < 240
  · by_cases hv2 : varOK xs (6 + L1 + 1 + L2)
    case neg => exact peekS_l24 b off n cap m xs w hl hB hn h1 hm f2 h6 L1 hL1 h81 hs1 h7 L2 hL2 h82 hs2 hv0 (by omega) k4 hv2
    obtain ⟨U2, hU2⟩ := varV_nat xs (6 + L1 + 1 + L2)
    obtain ⟨M2, hM2⟩ : ∃ M2 : Nat, varN xs (6 + L1 + 1 + L2) = M2 := ⟨_, rfl⟩
    have hM2n : M2 ≤ n := by have := (varN_bd xs _ hv2).2; omega
    by_cases hb : U2 < 12
    · exact peekS_l25 b off n cap m xs w hl hB hn h1 hm f2 h6 L1 hL1 h81 hs1 h7 L2 hL2 h82 hs2 hv0 (by omega) k4 hv2 U2 M2 hU2 hM2 hb
    by_cases hb2 : 1508 < U2
    · exact peekS_l26 b off n cap m xs w hl hB hn h1 hm f2 h6 L1 hL1 h81 hs1 h7 L2 hL2 h82 hs2 hv0 (by omega) k4 hv2 U2 M2 hU2 hM2 hb hb2
    by_cases hs3 : n < M2 + U2
    · exact peekS_l27 b off n cap m xs w hl hB hn h1 hm f2 h6 L1 hL1 h81 hs1 h7 L2 hL2 h82 hs2 hv0 (by omega) k4 hv2 U2 M2 hU2 hM2 hM2n hb hb2 hs3
    · exact peekS_l28 b off n cap m xs w hl hB hn h1 hm f2 h6 L1 hL1 h81 hs1 h7 L2 hL2 h82 hs2 hv0 (by omega) k4 hv2 U2 M2 hU2 hM2 hM2n hb hb2 hs3
  cases hpr : pkRet xs (6 + L1 + 1 + L2) with
  | error c => exact peekS_l13 b off n cap m xs w hl hB hn h1 hm f2 h6 L1 hL1 h81 hs1 h7 L2 hL2 h82 hs2 hv0 (by omega) (by omega) c hpr
  | ok t => exact peekS_l14 b off n cap m xs w hl hB hn h1 hm f2 h6 L1 hL1 h81 hs1 h7 L2 hL2 h82 hs2 hv0 (by omega) (by omega) t hpr
end Go.Proofs.YtbbiinbjgognjaaDoor
