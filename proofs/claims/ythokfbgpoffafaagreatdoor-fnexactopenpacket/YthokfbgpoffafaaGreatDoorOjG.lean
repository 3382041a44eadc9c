import Derived.Test.YthokfbgpoffafaaGreatDoorOjB
import Derived.Test.YthokfbgpoffafaaGreatDoorOjC
import Derived.Test.YthokfbgpoffafaaGreatDoorOjD
import Derived.Test.YthokfbgpoffafaaGreatDoorOjA
import Derived.Test.YthokfbgpoffafaaGreatDoorOjI
import Derived.Deep.RegionWith
import Derived.Test.YthokfbgpoffafaaGreatDoorOjF
import Derived.Test.YthokfbgpoffafaaGreatDoorIKeysOK
import Derived.Test.YthokfbgpoffafaaGreatDoorKeysOK
import Derived.Test.YthokfbgpoffafaaGreatDoorOjE
import Derived.Deep.CutRange
namespace Go.Proofs.YthokfbgpoffafaaGreatDoor
open Go.RowKit
set_option linter.unusedVariables false

theorem pkVer_err {xs : List Int} {p : Nat} {c : Int} (h : pkVer xs p = .error c) : c = 3 := by
  unfold pkVer at h
  split at h
  · cases h; rfl
  · split at h
    · cases h
    · cases h; rfl
theorem pkVer_len {xs : List Int} {p : Nat} {L : List Int} (h : pkVer xs p = .ok L) : 1 ≤ L.length := by
  unfold pkVer at h
  split at h
  · cases h
  · rename_i hb
    split at h
    · cases h; rw [versL_length]; omega
    · cases h
theorem varV_nat (xs : List Int) (p : Nat) : ∃ U : Nat, varV xs p = (U : Int) := ⟨(varV xs p).toNat, by have := varV_bd xs p; omega⟩
theorem num1_nat (xs : List Int) (hB : Bytes xs) (p : Nat) : ∃ U : Nat, vals (sub xs p 1) = (U : Int) := ⟨(vals (sub xs p 1)).toNat, by have := numK_lt xs hB p 1 (by decide); omega⟩
theorem first_lt (xs : List Int) (hB : Bytes xs) (h : 1 ≤ xs.length) : vals (sub xs 0 1) < 256 := by
  have h1 := vals_lt (sub xs 0 1) (sub_bytes hB 0 1)
  rw [sub_len xs 0 1 (by omega)] at h1
  simpa using h1
theorem peekS (ao : Option Addr) (n cap m : Nat) (xs : List Int) (w : World) (hlie : n = 0 ∨ ∃ b off, ao = some ⟨b, off, none⟩ ∧ Lies w b off n cap xs) (hlen : xs.length = n) (hB : Bytes xs) (hn : n ≤ 65536) (hm : m ≤ 8) :
    Calls Tryz.prog 19 #[.slice ao n cap, .int .i64 m] w fun e w' => PkPost xs m w e w' := by
  by_cases h0 : n < 1
  · exact peekS_none ao n cap m xs w hlen h0 hm
  obtain ⟨b, off, rfl, hl⟩ : ∃ b off, ao = some ⟨b, off, none⟩ ∧ Lies w b off n cap xs := by
    rcases hlie with h | h
    · omega
    · exact h
  have h1 : 1 ≤ n := by omega
  have hF256 := first_lt xs hB (by omega)
  by_cases f1 : vals (sub xs 0 1) < 64
  · exact peekS_low b off n cap m xs w hl hB hn h1 hm f1
  by_cases f2 : vals (sub xs 0 1) < 128
  · by_cases hs : n < 1 + m
    · exact peekS_sa b off n cap m xs w hl hB hn h1 hm f1 f2 hs
    · by_cases hs2 : n < 1 + m + 12
      · exact peekS_sb b off n cap m xs w hl hB hn h1 hm f1 f2 hs hs2
      · exact peekS_sc b off n cap m xs w hl hB hn h1 hm f1 f2 hs hs2
  by_cases h5 : n < 5
  · exact peekS_l01 b off n cap m xs w hl hB hn h1 hm f2 h5
  by_cases h6 : n < 6
  · exact peekS_l02 b off n cap m xs w hl hB hn h1 hm f2 h5 h6
  obtain ⟨L1, hL1⟩ := num1_nat xs hB 5
  by_cases h81 : 8 < L1
  · exact peekS_l03 b off n cap m xs w hl hB hn h1 hm f2 h6 L1 hL1 h81
  by_cases hs1 : n < 6 + L1
  · exact peekS_l04 b off n cap m xs w hl hB hn h1 hm f2 h6 L1 hL1 h81 hs1
  by_cases h7 : n < 7 + L1
  · exact peekS_l05 b off n cap m xs w hl hB hn h1 hm f2 h6 L1 hL1 h81 hs1 h7
  obtain ⟨L2, hL2⟩ := num1_nat xs hB (6 + L1)
  by_cases h82 : 8 < L2
  · exact peekS_l06 b off n cap m xs w hl hB hn h1 hm f2 h6 L1 hL1 h81 hs1 h7 L2 hL2 h82
  by_cases hs2 : n < 7 + L1 + L2
  · exact peekS_l07 b off n cap m xs w hl hB hn h1 hm f2 h6 L1 hL1 h81 hs1 h7 L2 hL2 h82 hs2
  by_cases hv0 : vals (sub xs 1 4) = 0
  · by_cases h128 : vals (sub xs 0 1) = 128
    · cases hpv : pkVer xs (6 + L1 + 1 + L2) with
      | error c =>
        obtain rfl := pkVer_err hpv
        exact peekS_l09 b off n cap m xs w hl hB hn h1 hm f2 h6 L1 hL1 h81 hs1 h7 L2 hL2 h82 hs2 hv0 h128 hpv
      | ok L => exact peekS_l10 b off n cap m xs w hl hB hn h1 hm f2 h6 L1 hL1 h81 hs1 h7 L2 hL2 h82 hs2 hv0 h128 L hpv (pkVer_len hpv)
    · exact peekS_l08 b off n cap m xs w hl hB hn h1 hm f2 h6 L1 hL1 h81 hs1 h7 L2 hL2 h82 hs2 hv0 h128
  by_cases k1 : vals (sub xs 0 1) < 192
  · exact peekS_l11 b off n cap m xs w hl hB hn h1 hm f2 h6 L1 hL1 h81 hs1 h7 L2 hL2 h82 hs2 hv0 k1
  by_cases k2 : vals (sub xs 0 1) < 208
  · by_cases hv : varOK xs (6 + L1 + 1 + L2)
    case neg => exact peekS_l15 b off n cap m xs w hl hB hn h1 hm f2 h6 L1 hL1 h81 hs1 h7 L2 hL2 h82 hs2 hv0 (by omega) k2 hv
    obtain ⟨U, hU⟩ := varV_nat xs (6 + L1 + 1 + L2)
    obtain ⟨M, hM⟩ : ∃ M : Nat, varN xs (6 + L1 + 1 + L2) = M := ⟨_, rfl⟩
    have hMn : M ≤ n := by have := (varN_bd xs _ hv).2; omega
    by_cases h64 : 64 < U
    · exact peekS_l16 b off n cap m xs w hl hB hn h1 hm f2 h6 L1 hL1 h81 hs1 h7 L2 hL2 h82 hs2 hv0 (by omega) k2 hv U M hU hM h64
    by_cases hst : n < M + U
    · exact peekS_l17 b off n cap m xs w hl hB hn h1 hm f2 h6 L1 hL1 h81 hs1 h7 L2 hL2 h82 hs2 hv0 (by omega) k2 hv U M hU hM hMn h64 hst
    by_cases hv2 : varOK xs (M + U)
    case neg => exact peekS_l18 b off n cap m xs w hl hB hn h1 hm f2 h6 L1 hL1 h81 hs1 h7 L2 hL2 h82 hs2 hv0 (by omega) k2 hv U M hU hM hMn h64 hst hv2
    obtain ⟨U2, hU2⟩ := varV_nat xs (M + U)
    obtain ⟨M2, hM2⟩ : ∃ M2 : Nat, varN xs (M + U) = M2 := ⟨_, rfl⟩
    have hM2n : M2 ≤ n := by have := (varN_bd xs _ hv2).2; omega
    by_cases hb : U2 < 12
    · exact peekS_l19 b off n cap m xs w hl hB hn h1 hm f2 h6 L1 hL1 h81 hs1 h7 L2 hL2 h82 hs2 hv0 (by omega) k2 hv U M hU hM hMn h64 hst hv2 U2 M2 hU2 hM2 hb
    by_cases hb2 : 1508 < U2
    · exact peekS_l20 b off n cap m xs w hl hB hn h1 hm f2 h6 L1 hL1 h81 hs1 h7 L2 hL2 h82 hs2 hv0 (by omega) k2 hv U M hU hM hMn h64 hst hv2 U2 M2 hU2 hM2 hb hb2
    by_cases hs3 : n < M2 + U2
    · exact peekS_l21 b off n cap m xs w hl hB hn h1 hm f2 h6 L1 hL1 h81 hs1 h7 L2 hL2 h82 hs2 hv0 (by omega) k2 hv U M hU hM hMn h64 hst hv2 U2 M2 hU2 hM2 hM2n hb hb2 hs3
    · exact peekS_l22 b off n cap m xs w hl hB hn h1 hm f2 h6 L1 hL1 h81 hs1 h7 L2 hL2 h82 hs2 hv0 (by omega) k2 hv U M hU hM hMn h64 hst hv2 U2 M2 hU2 hM2 hM2n hb hb2 hs3
  by_cases k3 : vals (sub xs 0 1) < 224
  · exact peekS_l12 b off n cap m xs w hl hB hn h1 hm f2 h6 L1 hL1 h81 hs1 h7 L2 hL2 h82 hs2 hv0 (by omega) k3
  by_cases k4 : vals (sub xs 0 1) < 240
  · by_cases hv2 : varOK xs (6 + L1 + 1 + L2)
    case neg => exact peekS_l24 b off n cap m xs w hl hB hn h1 hm f2 h6 L1 hL1 h81 hs1 h7 L2 hL2 h82 hs2 hv0 (by omega) k4 hv2
    obtain ⟨U2, hU2⟩ := varV_nat xs (6 + L1 + 1 + L2)
    obtain ⟨M2, hM2⟩ : ∃ M2 : Nat, varN xs (6 + L1 + 1 + L2) = M2 := ⟨_, rfl⟩
    have hM2n : M2 ≤ n := by have := (varN_bd xs _ hv2).2; omega
    by_cases hb : U2 < 12
    · exact peekS_l25 b off n cap m xs w hl hB hn h1 hm f2 h6 L1 hL1 h81 hs1 h7 L2 hL2 h82 hs2 hv0 (by omega) k4 hv2 U2 M2 hU2 hM2 hb
    by_cases hb2 : 1508 < U2
    · exact peekS_l26 b off n cap m xs w hl hB hn h1 hm f2 h6 L1 hL1 h81 hs1 h7 L2 hL2 h82 hs2 hv0 (by omega) k4 hv2 U2 M2 hU2 hM2 hb hb2
    by_cases hs3 : n < M2 + U2
    · exact peekS_l27 b off n cap m xs w hl hB hn h1 hm f2 h6 L1 hL1 h81 hs1 h7 L2 hL2 h82 hs2 hv0 (by omega) k4 hv2 U2 M2 hU2 hM2 hM2n hb hb2 hs3
    · exact peekS_l28 b off n cap m xs w hl hB hn h1 hm f2 h6 L1 hL1 h81 hs1 h7 L2 hL2 h82 hs2 hv0 (by omega) k4 hv2 U2 M2 hU2 hM2 hM2n hb hb2 hs3
  cases hpr : pkRet xs (6 + L1 + 1 + L2) with
  | error c => exact peekS_l13 b off n cap m xs w hl hB hn h1 hm f2 h6 L1 hL1 h81 hs1 h7 L2 hL2 h82 hs2 hv0 (by omega) (by omega) c hpr
  | ok t => exact peekS_l14 b off n cap m xs w hl hB hn h1 hm f2 h6 L1 hL1 h81 hs1 h7 L2 hL2 h82 hs2 hv0 (by omega) (by omega) t hpr
end Go.Proofs.YthokfbgpoffafaaGreatDoor

namespace Go.Proofs.YthokfbgpoffafaaGreatDoor
open Go.RowKit
set_option linter.unusedVariables false

/-- The three variables that the readers read. -/
structure T3 (w : World) : Prop where
  tab : Tab w
  tabL : TabL w
  err : errT w
theorem T3.lt {w : World} (h : T3 w) : 2 < w.heap.size := h.tab.lt
theorem T3.below {w w' : World} {B : Nat} (h : T3 w) (hb : Below B w w') (h0 : 2 < B) : T3 w' := ⟨h.tab.below hb h0, h.tabL.below hb (by omega), h.err.below hb (by omega)⟩
def rvL (xs : List Int) : List Int := match pk xs 0 with | .ok K => if K.f = 5 then K.vers else [] | .error _ => []
def rvC (xs : List Int) : Int := match pk xs 0 with | .ok K => if K.f = 5 then 0 else 3 | .error c => c
theorem row_lies {w : World} {v : Value} {xs : List Int} (h : Row w .u8 v xs) : ∃ ao cap, v = .slice ao xs.length cap ∧ (xs.length = 0 ∨ ∃ b off, ao = some ⟨b, off, none⟩ ∧ Lies w b off xs.length cap xs) := by
  rcases h with ⟨rfl, ao, cap, rfl⟩ | ⟨b, off, cap, rfl, hb, hc, hcell⟩
  · exact ⟨ao, cap, rfl, Or.inl rfl⟩
  · exact ⟨_, cap, rfl, Or.inr ⟨b, off, rfl, ⟨rfl, hb, hc.1, hc.2, hcell⟩⟩⟩
end Go.Proofs.YthokfbgpoffafaaGreatDoor

namespace Go.Proofs.YthokfbgpoffafaaGreatDoor
open Go.RowKit
set_option linter.unusedVariables false

theorem rvL_length (xs : List Int) : (rvL xs).length ≤ 4096 := by
  unfold rvL
  split
  · rename_i K hK
    split
    · rename_i h5
      have h1 := (pk_vers hK h5).1
      unfold pkVer at h1
      split at h1
      · cases h1
      · split at h1
        · have e := Except.ok.inj h1
          rw [← e, versL_length]
          omega
        · cases h1
    · simp
  · simp
end Go.Proofs.YthokfbgpoffafaaGreatDoor

namespace Go.Proofs.YthokfbgpoffafaaGreatDoor
open Go.RowKit
set_option linter.unusedVariables false

theorem sub_le (xs : List Int) (p k : Nat) : (sub xs p k).length ≤ xs.length := by
  unfold sub
  rw [List.length_take, List.length_drop]
  omega
theorem ret_small {xs t : List Int} {p : Nat} (h : pkRet xs p = .ok t) : t.length ≤ xs.length := by
  unfold pkRet at h
  split at h
  · cases h
  · split at h
    · cases h
    · cases h; exact sub_le _ _ _
theorem ini_small {xs d s : List Int} {v : Int} {p : Nat} {K : PK} (h : pkIni xs v d s p = .ok K) : K.d = d ∧ K.s = s ∧ K.t.length ≤ xs.length := by
  unfold pkIni at h
  split at h
  · split at h
    · cases h
    · split at h
      · cases h
      · split at h
        · cases h
        · cases h; exact ⟨rfl, rfl, sub_le _ _ _⟩
  · cases h
theorem tail_small {xs d s : List Int} {f v : Int} {p : Nat} {K : PK} (h : pkTail xs f v d s p = .ok K) : K.d = d ∧ K.s = s ∧ K.t.length ≤ xs.length := by
  unfold pkTail at h
  split at h
  · split at h
    · cases h
    · split at h
      · cases h
      · cases h; exact ⟨rfl, rfl, Nat.zero_le _⟩
  · split at h
    · split at h
      · cases h
      · rename_i hb; cases h; exact ⟨rfl, rfl, ret_small hb⟩
    · split at h
      · exact ini_small h
      · split at h
        · split at h
          · cases h
          · cases h; exact ⟨rfl, rfl, Nat.zero_le _⟩
        · cases h
/-- What is told of a packet's clear part is no longer than the packet. -/
theorem pk_small {xs : List Int} {cl : Int} {K : PK} (h : pk xs cl = .ok K) : K.d.length ≤ 65536 ∧ K.s.length ≤ 65536 ∧ K.t.length ≤ 65536 := by
  unfold pk at h
  split at h
  · cases h
  · rename_i h16
    split at h
    · cases h
    · split at h
      · cases h
      · split at h
        · cases h
        · split at h
          · unfold pkShP at h
            split at h
            · cases h
            · rename_i d q hb
              cases h
              unfold pkSho at hb
              split at hb
              · cases hb
              · cases hb
                have := sub_le xs 1 cl.toNat
                exact ⟨by show (sub xs 1 cl.toNat).length ≤ 65536; omega, Nat.zero_le _, Nat.zero_le _⟩
          · unfold pkLong at h
            split at h
            · cases h
            · split at h
              · cases h
              · rename_i d p1 hc1
                split at h
                · cases h
                · rename_i s p2 hc2
                  obtain ⟨t1, t2, t3⟩ := tail_small h
                  obtain ⟨a1, a2⟩ := cid_spec hc1
                  obtain ⟨b1, b2⟩ := cid_spec hc2
                  rw [t1, t2]
                  exact ⟨by omega, by omega, by omega⟩
abbrev hd0 : Obj := .cells #[.int .i64 0, .int .i64 0, .slice none 0 0, .slice none 0 0, .slice none 0 0, .int .i64 0, .int .i64 0, .int .i64 0] 27
theorem pe_facts {w w1 w2 : World} {P : Obj} (b1 : Below (w.alloc hd0).heap.size (w.alloc hd0) w1) (b2 : Below ((w1.alloc P).drew).heap.size ((w1.alloc P).drew) w2) :
    hdB w2 w.heap.size (.int .i64 0) (.int .i64 0) (.slice none 0 0) (.slice none 0 0) (.slice none 0 0) (.int .i64 0) (.int .i64 0) (.int .i64 0) ∧ w2.heap[w1.heap.size]? = some P ∧ Below w.heap.size w w2 ∧ w1.heap.size ≠ w.heap.size ∧ ∀ t v m L, w1.ownsRow (w.alloc hd0).heap.size t 1 v m L → w2.ownsRow (w.alloc hd0).heap.size t 1 v m L := by
  have hs : (w.alloc hd0).heap.size = w.heap.size + 1 := by simp
  have h1 := b1.size
  rw [hs] at h1
  have hsz : ((w1.alloc P).drew).heap.size = w1.heap.size + 1 := by simp [World.drew]
  have hb0 : Below w.heap.size w (w.alloc hd0) := (Below.refl _ _).alloc (Nat.le_refl _) _
  have hb1 : Below w.heap.size w w1 := hb0.trans (b1.mono hb0.size)
  have hb2 : Below w.heap.size w ((w1.alloc P).drew) := (hb1.alloc hb1.size _).drew
  refine ⟨?_, ?_, ?_, ?_, ?_⟩
  · have e0 := heap_alloc_new w hd0
    have e1 := (b1.block w.heap.size (by omega)).trans e0
    have e2 : ((w1.alloc P).drew).heap[w.heap.size]? = some hd0 := by
      rw [drew_heap, Below.heap_alloc _ _ _ (by omega)]; exact e1
    exact (b2.block w.heap.size (by omega)).trans e2
  · have e2 : ((w1.alloc P).drew).heap[w1.heap.size]? = some P := by
      rw [drew_heap]; exact heap_alloc_new w1 P
    exact (b2.block w1.heap.size (by omega)).trans e2
  · exact hb2.trans (b2.mono hb2.size)
  · omega
  · intro t v m L h
    exact owns_below (owns_drewN (h.alloc P) 1) b2
theorem pe_far {w : World} {g k : Nat} {a0 a1 a2 a3 a4 a5 a6 a7 u : Value} (hg : k ≠ g) (h : w.cell? ⟨k, 10, none⟩ = some u) : (st8 w g a0 a1 a2 a3 a4 a5 a6 a7).cell? ⟨k, 10, none⟩ = some u := by
  have hk : ∀ (W : World) (i : Nat) (x : Value), W.cell? ⟨k, 10, none⟩ = some u → (W.setCell ⟨g, i, none⟩ x).cell? ⟨k, 10, none⟩ = some u := by
    intro W i x hW
    rw [World.cell?, bk_other hg]
    exact hW
  exact hk _ _ _ (hk _ _ _ (hk _ _ _ (hk _ _ _ (hk _ _ _ (hk _ _ _ (hk _ _ _ (hk _ _ _ h)))))))
def pkH (xs : List Int) (cl : Int) : H8 := match pk xs cl with | .ok K => ⟨K.f, K.v, K.d, K.s, K.t, 0, 0, 0⟩ | .error _ => ⟨0, 0, [], [], [], 0, 0, 0⟩
def pkEnd (xs : List Int) (cl : Int) : Int := match pk xs cl with | .ok K => (K.fin : Int) | .error _ => 0
def pkCode (xs : List Int) (cl : Int) : Int := match pk xs cl with | .ok _ => 0 | .error c => c
theorem pkH_small (xs : List Int) (cl : Int) : (pkH xs cl).small 1048576 := by
  unfold pkH
  split
  · rename_i K hK
    obtain ⟨h1, h2, h3⟩ := pk_small hK
    exact ⟨Nat.le_trans h1 (by decide), Nat.le_trans h2 (by decide), Nat.le_trans h3 (by decide)⟩
  · exact ⟨Nat.zero_le _, Nat.zero_le _, Nat.zero_le _⟩
theorem pk_apart (v : Value) : Apart (.slice none 0 0) v := fun g h => by simp [Value.ownBlock] at h
theorem pkPost_own {xs : List Int} {cl : Int} {w w' : World} {e : Ending} (h : PkPost xs cl w e w') : ∃ r, e = .returned (.tuple #[r, .int .i64 (pkEnd xs cl), .int .i64 (pkCode xs cl)]) ∧ HOwns w' w.heap.size r (pkH xs cl) ∧ Below w.heap.size w w' := by
  obtain ⟨hb, ⟨c, hc, rfl⟩ | ⟨K, vd, vs, vt, hc, rfl, ho⟩⟩ := h
  · have e1 : pkH xs cl = ⟨0, 0, [], [], [], 0, 0, 0⟩ := by unfold pkH; rw [hc]
    have e2 : pkEnd xs cl = 0 := by unfold pkEnd; rw [hc]
    have e3 : pkCode xs cl = c := by unfold pkCode; rw [hc]
    rw [e1, e2, e3]
    exact ⟨_, rfl, ⟨_, _, _, rfl, ⟨World.ownsRow_nil _ _ _ _, World.ownsRow_nil _ _ _ _, World.ownsRow_nil _ _ _ _, pk_apart _, pk_apart _, pk_apart _⟩⟩, hb⟩
  · have e1 : pkH xs cl = ⟨K.f, K.v, K.d, K.s, K.t, 0, 0, 0⟩ := by unfold pkH; rw [hc]
    have e2 : pkEnd xs cl = (K.fin : Int) := by unfold pkEnd; rw [hc]
    have e3 : pkCode xs cl = 0 := by unfold pkCode; rw [hc]
    rw [e1, e2, e3]
    exact ⟨_, rfl, ⟨_, _, _, rfl, ho⟩, hb⟩
end Go.Proofs.YthokfbgpoffafaaGreatDoor

namespace Go.Proofs.YthokfbgpoffafaaGreatDoor
open Go.RowKit
set_option linter.unusedVariables false

def OpErr (c : Int) (w : World) (e : Ending) (w' : World) : Prop := ∃ r1, e = .returned (.tuple #[.agg #[.int .i64 0, .int .i64 0, .slice none 0 0, .slice none 0 0, .slice none 0 0, .int .i64 0, .int .i64 0, .int .i64 0], r1, .int .i64 c]) ∧ w'.ownsRow w.heap.size 5 1 r1 0 [] ∧ Below w.heap.size w w'
theorem op_w0 (o : Obj) (w : World) : Below w.heap.size w ((w.alloc o).alloc hd0) ∧ ((w.alloc o).alloc hd0).heap[w.heap.size]? = some o ∧ hdB ((w.alloc o).alloc hd0) (w.heap.size + 1) (.int .i64 0) (.int .i64 0) (.slice none 0 0) (.slice none 0 0) (.slice none 0 0) (.int .i64 0) (.int .i64 0) (.int .i64 0) := by
  have hb : Below w.heap.size w (w.alloc o) := (Below.refl _ _).alloc (Nat.le_refl _) _
  have hs : (w.alloc o).heap.size = w.heap.size + 1 := by simp
  refine ⟨hb.alloc hb.size _, (Below.heap_alloc _ _ _ (by simp)).trans (heap_alloc_new w o), ?_⟩
  have := heap_alloc_new (w.alloc o) hd0
  rw [hs] at this
  exact this
set_option maxRecDepth 20000 in
set_option maxHeartbeats 400000 in
theorem opI_long (a0 a1 a2 a3 ao : Option Addr) (p0 p1 p2 p3 n cap : Nat) (k : K4) (cl l : Int) (w : World) (h : 65536 < n) (hn : n ≤ 9223372036854775807) :
    Calls Tryz.prog 8 #[.agg #[.slice a0 k.a.length p0, .slice a1 k.b.length p1, .slice a2 k.c.length p2, .slice a3 k.d.length p3], .slice ao n cap, .int .i64 cl, .int .i64 l] w fun e w' => OpErr 4 w e w' := by
  obtain ⟨kb0, kk0, k0⟩ := op_w0 (.cells #[.slice a0 k.a.length p0, .slice a1 k.b.length p1, .slice a2 k.c.length p2, .slice a3 k.d.length p3] 30) w
  obtain ⟨zc0, zc1, zc2, zc3, zc4, zc5, zc6, zc7⟩ := hdB_cells k0
  obtain ⟨zf0, zf1, zf2, zf3, zf4, zf5, zf6, zf7⟩ := hdB_free k0
  have dn : decide ((65536 : Int) < (n : Int)) = true := decide_eq_true (by omega)
  have HQ : Hid _ := And.intro k0 kb0
  clear k0 kb0 kk0 h hn
  go_enter Tryz.func8, Tryz.ntmps8
  go_wp2_with fail
  refine bodyPost_ret (v := .tuple #[.agg #[.int .i64 0, .int .i64 0, .slice none 0 0, .slice none 0 0, .slice none 0 0, .int .i64 0, .int .i64 0, .int .i64 0], .slice none 0 0, .int .i64 4]) ?_ rfl ?_
  · exact results_row_tmp2 (t := 27) rfl _ _ (w.heap.size + 1) _ (fr := (0, 0)) _ _ _ rfl rfl rfl HQ.out.1 Tryz.underlying27 rfl infoHd
  · exact ⟨_, rfl, World.ownsRow_nil _ _ _ _, HQ.out.2⟩
set_option maxRecDepth 20000 in
set_option maxHeartbeats 400000 in
theorem opI_key (a0 a1 a2 a3 ao : Option Addr) (p0 p1 p2 p3 n cap : Nat) (k : K4) (cl l : Int) (w : World) (h : n ≤ 65536) (hk : KRow w (.agg #[.slice a0 k.a.length p0, .slice a1 k.b.length p1, .slice a2 k.c.length p2, .slice a3 k.d.length p3]) k) (ho : ¬ kok k) :
    Calls Tryz.prog 8 #[.agg #[.slice a0 k.a.length p0, .slice a1 k.b.length p1, .slice a2 k.c.length p2, .slice a3 k.d.length p3], .slice ao n cap, .int .i64 cl, .int .i64 l] w fun e w' => OpErr 1 w e w' := by
  obtain ⟨kb0, kk0, k0⟩ := op_w0 (.cells #[.slice a0 k.a.length p0, .slice a1 k.b.length p1, .slice a2 k.c.length p2, .slice a3 k.d.length p3] 30) w
  have y0 : _ = some (Value.slice a0 k.a.length p0) := (bk_cell kk0 0).trans rfl
  have y1 : _ = some (Value.slice a1 k.b.length p1) := (bk_cell kk0 1).trans rfl
  have y2 : _ = some (Value.slice a2 k.c.length p2) := (bk_cell kk0 2).trans rfl
  have y3 : _ = some (Value.slice a3 k.d.length p3) := (bk_cell kk0 3).trans rfl
  have dn : decide ((65536 : Int) < (n : Int)) = false := decide_eq_false (by omega)
  have HK : Hid _ := hk.below kb0
  clear hk
  go_enter Tryz.func8, Tryz.ntmps8
  go_wp2_with fail
  go_at_call 27
  refine (ivk_false _ k _ HK.out ho).mono ?_
  rintro e w1 ⟨rfl, b1⟩
  have kb1 := kb0.trans (b1.mono kb0.size)
  have kk1 := (b1.block w.heap.size (by have := (Array.getElem?_eq_some_iff.1 kk0).1; exact this)).trans kk0
  have k1 := (b1.block (w.heap.size + 1) (by have := (Array.getElem?_eq_some_iff.1 k0).1; exact this)).trans k0
  clear b1 kb0 kk0 k0
  obtain ⟨zc0, zc1, zc2, zc3, zc4, zc5, zc6, zc7⟩ := hdB_cells k1
  obtain ⟨zf0, zf1, zf2, zf3, zf4, zf5, zf6, zf7⟩ := hdB_free k1
  have hE8 : (st8 w1 (w.heap.size + 1) (.int .i64 0) (.int .i64 0) (.slice none 0 0) (.slice none 0 0) (.slice none 0 0) (.int .i64 0) (.int .i64 0) (.int .i64 0)).heap[w.heap.size + 1]? = _ := st8_heap k1
  have HQ : Hid _ := And.intro hE8 (show Below w.heap.size w (st8 w1 (w.heap.size + 1) (.int .i64 0) (.int .i64 0) (.slice none 0 0) (.slice none 0 0) (.slice none 0 0) (.int .i64 0) (.int .i64 0) (.int .i64 0)) from st8_below kb1 (by omega))
  clear hE8
  clear k1 kb1 kk1
  go_wp2_with fail
  refine bodyPost_ret (v := .tuple #[.agg #[.int .i64 0, .int .i64 0, .slice none 0 0, .slice none 0 0, .slice none 0 0, .int .i64 0, .int .i64 0, .int .i64 0], .slice none 0 0, .int .i64 1]) ?_ rfl ?_
  · exact results_row_tmp2 (t := 27) rfl _ _ (w.heap.size + 1) _ (fr := (0, 0)) _ _ _ rfl rfl rfl HQ.out.1 Tryz.underlying27 rfl infoHd
  · exact ⟨_, rfl, World.ownsRow_nil _ _ _ _, HQ.out.2⟩
set_option maxRecDepth 20000 in
set_option maxHeartbeats 400000 in
theorem opI_cid (a0 a1 a2 a3 ao : Option Addr) (p0 p1 p2 p3 n cap : Nat) (k : K4) (cl l : Int) (w : World) (h : n ≤ 65536) (hk : KRow w (.agg #[.slice a0 k.a.length p0, .slice a1 k.b.length p1, .slice a2 k.c.length p2, .slice a3 k.d.length p3]) k) (ho : kok k) (hc : ¬ (0 ≤ cl ∧ cl ≤ 8)) :
    Calls Tryz.prog 8 #[.agg #[.slice a0 k.a.length p0, .slice a1 k.b.length p1, .slice a2 k.c.length p2, .slice a3 k.d.length p3], .slice ao n cap, .int .i64 cl, .int .i64 l] w fun e w' => OpErr 1 w e w' := by
  obtain ⟨kb0, kk0, k0⟩ := op_w0 (.cells #[.slice a0 k.a.length p0, .slice a1 k.b.length p1, .slice a2 k.c.length p2, .slice a3 k.d.length p3] 30) w
  have y0 : _ = some (Value.slice a0 k.a.length p0) := (bk_cell kk0 0).trans rfl
  have y1 : _ = some (Value.slice a1 k.b.length p1) := (bk_cell kk0 1).trans rfl
  have y2 : _ = some (Value.slice a2 k.c.length p2) := (bk_cell kk0 2).trans rfl
  have y3 : _ = some (Value.slice a3 k.d.length p3) := (bk_cell kk0 3).trans rfl
  have dn : decide ((65536 : Int) < (n : Int)) = false := decide_eq_false (by omega)
  have HK : Hid _ := hk.below kb0
  clear hk
  have HC : Hid _ := hc
  clear hc
  go_enter Tryz.func8, Tryz.ntmps8
  go_wp2_with fail
  go_at_call 27
  refine (ivk_true _ k _ HK.out ho).mono ?_
  rintro e w1 ⟨rfl, b1⟩
  have kb1 := kb0.trans (b1.mono kb0.size)
  have kk1 := (b1.block w.heap.size (by have := (Array.getElem?_eq_some_iff.1 kk0).1; exact this)).trans kk0
  have k1 := (b1.block (w.heap.size + 1) (by have := (Array.getElem?_eq_some_iff.1 k0).1; exact this)).trans k0
  clear b1 kb0 kk0 k0
  obtain ⟨zc0, zc1, zc2, zc3, zc4, zc5, zc6, zc7⟩ := hdB_cells k1
  obtain ⟨zf0, zf1, zf2, zf3, zf4, zf5, zf6, zf7⟩ := hdB_free k1
  have hE8 : (st8 w1 (w.heap.size + 1) (.int .i64 0) (.int .i64 0) (.slice none 0 0) (.slice none 0 0) (.slice none 0 0) (.int .i64 0) (.int .i64 0) (.int .i64 0)).heap[w.heap.size + 1]? = _ := st8_heap k1
  have HQ : Hid _ := And.intro hE8 (show Below w.heap.size w (st8 w1 (w.heap.size + 1) (.int .i64 0) (.int .i64 0) (.slice none 0 0) (.slice none 0 0) (.slice none 0 0) (.int .i64 0) (.int .i64 0) (.int .i64 0)) from st8_below kb1 (by omega))
  clear hE8
  clear k1 kb1 kk1
  go_wp2_with fail
  go_at_call 28
  refine (vcl_n cl _ HC.out).mono ?_
  rintro e w2 ⟨rfl, rfl⟩
  go_wp2_with fail
  refine bodyPost_ret (v := .tuple #[.agg #[.int .i64 0, .int .i64 0, .slice none 0 0, .slice none 0 0, .slice none 0 0, .int .i64 0, .int .i64 0, .int .i64 0], .slice none 0 0, .int .i64 1]) ?_ rfl ?_
  · exact results_row_tmp2 (t := 27) rfl _ _ (w.heap.size + 1) _ (fr := (0, 0)) _ _ _ rfl rfl rfl HQ.out.1 Tryz.underlying27 rfl infoHd
  · exact ⟨_, rfl, World.ownsRow_nil _ _ _ _, HQ.out.2⟩
set_option maxRecDepth 20000 in
set_option maxHeartbeats 400000 in
theorem opI_low (a0 a1 a2 a3 ao : Option Addr) (p0 p1 p2 p3 n cap : Nat) (k : K4) (cl l : Int) (w : World) (h : n ≤ 65536) (hk : KRow w (.agg #[.slice a0 k.a.length p0, .slice a1 k.b.length p1, .slice a2 k.c.length p2, .slice a3 k.d.length p3]) k) (ho : kok k) (hc : 0 ≤ cl ∧ cl ≤ 8) (hl : l < -1) :
    Calls Tryz.prog 8 #[.agg #[.slice a0 k.a.length p0, .slice a1 k.b.length p1, .slice a2 k.c.length p2, .slice a3 k.d.length p3], .slice ao n cap, .int .i64 cl, .int .i64 l] w fun e w' => OpErr 1 w e w' := by
  obtain ⟨kb0, kk0, k0⟩ := op_w0 (.cells #[.slice a0 k.a.length p0, .slice a1 k.b.length p1, .slice a2 k.c.length p2, .slice a3 k.d.length p3] 30) w
  have y0 : _ = some (Value.slice a0 k.a.length p0) := (bk_cell kk0 0).trans rfl
  have y1 : _ = some (Value.slice a1 k.b.length p1) := (bk_cell kk0 1).trans rfl
  have y2 : _ = some (Value.slice a2 k.c.length p2) := (bk_cell kk0 2).trans rfl
  have y3 : _ = some (Value.slice a3 k.d.length p3) := (bk_cell kk0 3).trans rfl
  have dn : decide ((65536 : Int) < (n : Int)) = false := decide_eq_false (by omega)
  have HK : Hid _ := hk.below kb0
  clear hk
  have HC : Hid _ := hc
  clear hc
  have g0 : decide (l < -1) = true := decide_eq_true (by omega)
  go_enter Tryz.func8, Tryz.ntmps8
  go_wp2_with fail
  go_at_call 27
  refine (ivk_true _ k _ HK.out ho).mono ?_
  rintro e w1 ⟨rfl, b1⟩
  have kb1 := kb0.trans (b1.mono kb0.size)
  have kk1 := (b1.block w.heap.size (by have := (Array.getElem?_eq_some_iff.1 kk0).1; exact this)).trans kk0
  have k1 := (b1.block (w.heap.size + 1) (by have := (Array.getElem?_eq_some_iff.1 k0).1; exact this)).trans k0
  clear b1 kb0 kk0 k0
  obtain ⟨zc0, zc1, zc2, zc3, zc4, zc5, zc6, zc7⟩ := hdB_cells k1
  obtain ⟨zf0, zf1, zf2, zf3, zf4, zf5, zf6, zf7⟩ := hdB_free k1
  have hE8 : (st8 w1 (w.heap.size + 1) (.int .i64 0) (.int .i64 0) (.slice none 0 0) (.slice none 0 0) (.slice none 0 0) (.int .i64 0) (.int .i64 0) (.int .i64 0)).heap[w.heap.size + 1]? = _ := st8_heap k1
  have HQ : Hid _ := And.intro hE8 (show Below w.heap.size w (st8 w1 (w.heap.size + 1) (.int .i64 0) (.int .i64 0) (.slice none 0 0) (.slice none 0 0) (.slice none 0 0) (.int .i64 0) (.int .i64 0) (.int .i64 0)) from st8_below kb1 (by omega))
  clear hE8
  clear k1 kb1 kk1
  go_wp2_with fail
  go_at_call 28
  refine (vcl_y cl _ HC.out).mono ?_
  rintro e w2 ⟨rfl, rfl⟩
  go_wp2_with fail
  refine bodyPost_ret (v := .tuple #[.agg #[.int .i64 0, .int .i64 0, .slice none 0 0, .slice none 0 0, .slice none 0 0, .int .i64 0, .int .i64 0, .int .i64 0], .slice none 0 0, .int .i64 1]) ?_ rfl ?_
  · exact results_row_tmp2 (t := 27) rfl _ _ (w.heap.size + 1) _ (fr := (0, 0)) _ _ _ rfl rfl rfl HQ.out.1 Tryz.underlying27 rfl infoHd
  · exact ⟨_, rfl, World.ownsRow_nil _ _ _ _, HQ.out.2⟩
set_option maxRecDepth 20000 in
set_option maxHeartbeats 400000 in
theorem opI_high (a0 a1 a2 a3 ao : Option Addr) (p0 p1 p2 p3 n cap : Nat) (k : K4) (cl l : Int) (w : World) (h : n ≤ 65536) (hk : KRow w (.agg #[.slice a0 k.a.length p0, .slice a1 k.b.length p1, .slice a2 k.c.length p2, .slice a3 k.d.length p3]) k) (ho : kok k) (hc : 0 ≤ cl ∧ cl ≤ 8) (hl : 4611686018427387903 < l) :
    Calls Tryz.prog 8 #[.agg #[.slice a0 k.a.length p0, .slice a1 k.b.length p1, .slice a2 k.c.length p2, .slice a3 k.d.length p3], .slice ao n cap, .int .i64 cl, .int .i64 l] w fun e w' => OpErr 1 w e w' := by
  obtain ⟨kb0, kk0, k0⟩ := op_w0 (.cells #[.slice a0 k.a.length p0, .slice a1 k.b.length p1, .slice a2 k.c.length p2, .slice a3 k.d.length p3] 30) w
  have y0 : _ = some (Value.slice a0 k.a.length p0) := (bk_cell kk0 0).trans rfl
  have y1 : _ = some (Value.slice a1 k.b.length p1) := (bk_cell kk0 1).trans rfl
  have y2 : _ = some (Value.slice a2 k.c.length p2) := (bk_cell kk0 2).trans rfl
  have y3 : _ = some (Value.slice a3 k.d.length p3) := (bk_cell kk0 3).trans rfl
  have dn : decide ((65536 : Int) < (n : Int)) = false := decide_eq_false (by omega)
  have HK : Hid _ := hk.below kb0
  clear hk
  have HC : Hid _ := hc
  clear hc
  have g0 : decide (l < -1) = false := decide_eq_false (by omega)
  have g1 : decide (4611686018427387903 < l) = true := decide_eq_true (by omega)
  go_enter Tryz.func8, Tryz.ntmps8
  go_wp2_with fail
  go_at_call 27
  refine (ivk_true _ k _ HK.out ho).mono ?_
  rintro e w1 ⟨rfl, b1⟩
  have kb1 := kb0.trans (b1.mono kb0.size)
  have kk1 := (b1.block w.heap.size (by have := (Array.getElem?_eq_some_iff.1 kk0).1; exact this)).trans kk0
  have k1 := (b1.block (w.heap.size + 1) (by have := (Array.getElem?_eq_some_iff.1 k0).1; exact this)).trans k0
  clear b1 kb0 kk0 k0
  obtain ⟨zc0, zc1, zc2, zc3, zc4, zc5, zc6, zc7⟩ := hdB_cells k1
  obtain ⟨zf0, zf1, zf2, zf3, zf4, zf5, zf6, zf7⟩ := hdB_free k1
  have hE8 : (st8 w1 (w.heap.size + 1) (.int .i64 0) (.int .i64 0) (.slice none 0 0) (.slice none 0 0) (.slice none 0 0) (.int .i64 0) (.int .i64 0) (.int .i64 0)).heap[w.heap.size + 1]? = _ := st8_heap k1
  have HQ : Hid _ := And.intro hE8 (show Below w.heap.size w (st8 w1 (w.heap.size + 1) (.int .i64 0) (.int .i64 0) (.slice none 0 0) (.slice none 0 0) (.slice none 0 0) (.int .i64 0) (.int .i64 0) (.int .i64 0)) from st8_below kb1 (by omega))
  clear hE8
  clear k1 kb1 kk1
  go_wp2_with fail
  go_at_call 28
  refine (vcl_y cl _ HC.out).mono ?_
  rintro e w2 ⟨rfl, rfl⟩
  go_wp2_with fail
  refine bodyPost_ret (v := .tuple #[.agg #[.int .i64 0, .int .i64 0, .slice none 0 0, .slice none 0 0, .slice none 0 0, .int .i64 0, .int .i64 0, .int .i64 0], .slice none 0 0, .int .i64 1]) ?_ rfl ?_
  · exact results_row_tmp2 (t := 27) rfl _ _ (w.heap.size + 1) _ (fr := (0, 0)) _ _ _ rfl rfl rfl HQ.out.1 Tryz.underlying27 rfl infoHd
  · exact ⟨_, rfl, World.ownsRow_nil _ _ _ _, HQ.out.2⟩
end Go.Proofs.YthokfbgpoffafaaGreatDoor

namespace Go.Proofs.YthokfbgpoffafaaGreatDoor
open Go.RowKit
set_option linter.unusedVariables false

set_option maxRecDepth 20000 in
set_option maxHeartbeats 400000 in
theorem opI_bad (a0 a1 a2 a3 ao : Option Addr) (p0 p1 p2 p3 n cap : Nat) (k : K4) (cl l : Int) (w : World) (xs : List Int) (c : Int) (h : n ≤ 65536) (hk : KRow w (.agg #[.slice a0 k.a.length p0, .slice a1 k.b.length p1, .slice a2 k.c.length p2, .slice a3 k.d.length p3]) k) (ho : kok k) (hc : 0 ≤ cl ∧ cl ≤ 8) (hl0 : -1 ≤ l) (hl1 : l ≤ 4611686018427387903) (hlie : n = 0 ∨ ∃ b off, ao = some ⟨b, off, none⟩ ∧ Lies w b off n cap xs) (hlen : xs.length = n) (hB : Bytes xs) (ht : T3 w) (hp : pk xs cl = .error c) :
    Calls Tryz.prog 8 #[.agg #[.slice a0 k.a.length p0, .slice a1 k.b.length p1, .slice a2 k.c.length p2, .slice a3 k.d.length p3], .slice ao n cap, .int .i64 cl, .int .i64 l] w fun e w' => OpErr c w e w' := by
  obtain ⟨kb0, kk0, k0⟩ := op_w0 (.cells #[.slice a0 k.a.length p0, .slice a1 k.b.length p1, .slice a2 k.c.length p2, .slice a3 k.d.length p3] 30) w
  have y0 : _ = some (Value.slice a0 k.a.length p0) := (bk_cell kk0 0).trans rfl
  have y1 : _ = some (Value.slice a1 k.b.length p1) := (bk_cell kk0 1).trans rfl
  have y2 : _ = some (Value.slice a2 k.c.length p2) := (bk_cell kk0 2).trans rfl
  have y3 : _ = some (Value.slice a3 k.d.length p3) := (bk_cell kk0 3).trans rfl
  have dn : decide ((65536 : Int) < (n : Int)) = false := decide_eq_false (by omega)
  have HK : Hid _ := hk.below kb0
  clear hk
  have g0 : decide (l < -1) = false := decide_eq_false (by omega)
  have g1 : decide (4611686018427387903 < l) = false := decide_eq_false (by omega)
  have HC : Hid _ := hc
  have HX : Hid _ := And.intro hlie (And.intro hlen (And.intro hB (And.intro ht (And.intro hp (And.intro hl0 hl1)))))
  clear hlie hB ht hp hc hl0 hl1
  go_enter Tryz.func8, Tryz.ntmps8
  go_wp2_with fail
  go_at_call 27
  refine (ivk_true _ k _ HK.out ho).mono ?_
  rintro e w1 ⟨rfl, b1⟩
  have kb1 := kb0.trans (b1.mono kb0.size)
  have kk1 := (b1.block w.heap.size (by have := (Array.getElem?_eq_some_iff.1 kk0).1; exact this)).trans kk0
  have k1 := (b1.block (w.heap.size + 1) (by have := (Array.getElem?_eq_some_iff.1 k0).1; exact this)).trans k0
  clear b1 kb0 kk0 k0
  go_wp2_with fail
  go_at_call 28
  refine (vcl_y cl _ HC.out).mono ?_
  rintro e w2 ⟨rfl, hw2⟩
  subst w2
  have t1 := HX.out.2.2.2.1.below kb1 HX.out.2.2.2.1.lt
  have lie1 : n = 0 ∨ ∃ b off, ao = some ⟨b, off, none⟩ ∧ Lies w1 b off n cap xs := HX.out.1.imp id (fun ⟨b, off, h1, h2⟩ => ⟨b, off, h1, h2.below kb1⟩)
  have Q1 : Hid _ := And.intro k1 (And.intro kk1 (And.intro kb1 t1))
  clear k1 kk1 kb1
  go_wp2_with fail
  go_at_call 29
  refine (peek_bad ao n cap cl c xs _ t1.tab t1.tabL lie1 HX.out.2.1 HX.out.2.2.1 (by omega) HX.out.2.2.2.2.1).mono ?_
  rintro e w3 ⟨b3, rfl⟩
  have kk3 := (b3.block (w.heap.size + 1) (by have := (Array.getElem?_eq_some_iff.1 Q1.out.1).1; exact this)).trans Q1.out.1
  have k3 : ∀ o, hdB (w3.alloc o) (w.heap.size + 1) (.int .i64 0) (.int .i64 0) (.slice none 0 0) (.slice none 0 0) (.slice none 0 0) (.int .i64 0) (.int .i64 0) (.int .i64 0) := fun o => (Below.heap_alloc _ _ _ ((Array.getElem?_eq_some_iff.1 kk3).1)).trans kk3
  have ba : ∀ o, Below w.heap.size w (w3.alloc o) := fun o => by
    have h1 := Q1.out.2.2.1.trans (b3.mono Q1.out.2.2.1.size)
    exact h1.alloc h1.size o
  have hcd : ∀ o, _ := fun o => codeC_fault c (w3.alloc o) (HX.out.2.2.2.1.err.below (ba o) HX.out.2.2.2.1.err.lt)
  have HB : Hid _ := And.intro k3 ba
  clear k3 ba b3 kk3 t1 lie1
  unfold faultV at hcd ⊢
  go_wp2_with fail
  go_at_call 30
  refine (hcd _).mono ?_
  rintro e w4 ⟨rfl, b4⟩
  have k4 : hdB w4 (w.heap.size + 1) (.int .i64 0) (.int .i64 0) (.slice none 0 0) (.slice none 0 0) (.slice none 0 0) (.int .i64 0) (.int .i64 0) (.int .i64 0) := (b4.block _ ((Array.getElem?_eq_some_iff.1 (HB.out.1 _)).1)).trans (HB.out.1 _)
  have kb4 : Below w.heap.size w w4 := (HB.out.2 _).trans (b4.mono (HB.out.2 _).size)
  obtain ⟨zc0, zc1, zc2, zc3, zc4, zc5, zc6, zc7⟩ := hdB_cells k4
  obtain ⟨zf0, zf1, zf2, zf3, zf4, zf5, zf6, zf7⟩ := hdB_free k4
  have hE8 : (st8 w4 (w.heap.size + 1) (.int .i64 0) (.int .i64 0) (.slice none 0 0) (.slice none 0 0) (.slice none 0 0) (.int .i64 0) (.int .i64 0) (.int .i64 0)).heap[w.heap.size + 1]? = _ := st8_heap k4
  have HQ : Hid _ := And.intro hE8 (show Below w.heap.size w (st8 w4 (w.heap.size + 1) (.int .i64 0) (.int .i64 0) (.slice none 0 0) (.slice none 0 0) (.slice none 0 0) (.int .i64 0) (.int .i64 0) (.int .i64 0)) from st8_below kb4 (by omega))
  clear hE8
  clear k4 kb4 b4 hcd
  go_wp2_with fail
  refine bodyPost_ret (v := .tuple #[.agg #[.int .i64 0, .int .i64 0, .slice none 0 0, .slice none 0 0, .slice none 0 0, .int .i64 0, .int .i64 0, .int .i64 0], .slice none 0 0, .int .i64 c]) ?_ rfl ?_
  · exact results_row_tmp2 (t := 27) rfl _ _ (w.heap.size + 1) _ (fr := (0, 0)) _ _ _ rfl rfl rfl HQ.out.1 Tryz.underlying27 rfl infoHd
  · exact ⟨_, rfl, World.ownsRow_nil _ _ _ _, HQ.out.2⟩
set_option maxRecDepth 20000 in
set_option maxHeartbeats 400000 in
theorem opI_na (a0 a1 a2 a3 ao : Option Addr) (p0 p1 p2 p3 n cap : Nat) (k : K4) (cl l : Int) (w : World) (xs : List Int) (f v : Int) (d s t vers : List Int) (fin : Nat) (h : n ≤ 65536) (hk : KRow w (.agg #[.slice a0 k.a.length p0, .slice a1 k.b.length p1, .slice a2 k.c.length p2, .slice a3 k.d.length p3]) k) (ho : kok k) (hc : 0 ≤ cl ∧ cl ≤ 8) (hl0 : -1 ≤ l) (hl1 : l ≤ 4611686018427387903) (hlie : n = 0 ∨ ∃ b off, ao = some ⟨b, off, none⟩ ∧ Lies w b off n cap xs) (hlen : xs.length = n) (hB : Bytes xs) (ht : T3 w) (hp : pk xs cl = .ok ⟨f, v, d, s, t, vers, 0, fin⟩) :
    Calls Tryz.prog 8 #[.agg #[.slice a0 k.a.length p0, .slice a1 k.b.length p1, .slice a2 k.c.length p2, .slice a3 k.d.length p3], .slice ao n cap, .int .i64 cl, .int .i64 l] w fun e w' => OpErr 3 w e w' := by
  obtain ⟨kb0, kk0, k0⟩ := op_w0 (.cells #[.slice a0 k.a.length p0, .slice a1 k.b.length p1, .slice a2 k.c.length p2, .slice a3 k.d.length p3] 30) w
  have y0 : _ = some (Value.slice a0 k.a.length p0) := (bk_cell kk0 0).trans rfl
  have y1 : _ = some (Value.slice a1 k.b.length p1) := (bk_cell kk0 1).trans rfl
  have y2 : _ = some (Value.slice a2 k.c.length p2) := (bk_cell kk0 2).trans rfl
  have y3 : _ = some (Value.slice a3 k.d.length p3) := (bk_cell kk0 3).trans rfl
  have dn : decide ((65536 : Int) < (n : Int)) = false := decide_eq_false (by omega)
  have HK : Hid _ := hk.below kb0
  clear hk
  have g0 : decide (l < -1) = false := decide_eq_false (by omega)
  have g1 : decide (4611686018427387903 < l) = false := decide_eq_false (by omega)
  have HC : Hid _ := hc
  have HX : Hid _ := And.intro hlie (And.intro hlen (And.intro hB (And.intro ht (And.intro hp (And.intro hl0 hl1)))))
  clear hlie hB ht hp hc hl0 hl1
  go_enter Tryz.func8, Tryz.ntmps8
  go_wp2_with fail
  go_at_call 27
  refine (ivk_true _ k _ HK.out ho).mono ?_
  rintro e w1 ⟨rfl, b1⟩
  have kb1 := kb0.trans (b1.mono kb0.size)
  have kk1 := (b1.block w.heap.size (by have := (Array.getElem?_eq_some_iff.1 kk0).1; exact this)).trans kk0
  have k1 := (b1.block (w.heap.size + 1) (by have := (Array.getElem?_eq_some_iff.1 k0).1; exact this)).trans k0
  clear b1 kb0 kk0 k0
  go_wp2_with fail
  go_at_call 28
  refine (vcl_y cl _ HC.out).mono ?_
  rintro e w2 ⟨rfl, hw2⟩
  subst w2
  have t1 := HX.out.2.2.2.1.below kb1 HX.out.2.2.2.1.lt
  have lie1 : n = 0 ∨ ∃ b off, ao = some ⟨b, off, none⟩ ∧ Lies w1 b off n cap xs := HX.out.1.imp id (fun ⟨b, off, h1, h2⟩ => ⟨b, off, h1, h2.below kb1⟩)
  have Q1 : Hid _ := And.intro k1 (And.intro kk1 (And.intro kb1 t1))
  clear k1 kk1 kb1
  go_wp2_with fail
  go_at_call 29
  refine (peek_ok ao n cap cl _ xs _ t1.tab t1.tabL lie1 HX.out.2.1 HX.out.2.2.1 (by omega) HX.out.2.2.2.2.1).mono ?_
  rintro e w3 ⟨b3, vd, vs, vt, vv, rfl, q2, q3⟩
  obtain ⟨da, dp, ed⟩ := (row_of_owns q2.o0).form
  obtain ⟨sa, sp, es⟩ := (row_of_owns q2.o1).form
  obtain ⟨ta, tp, et⟩ := (row_of_owns q2.o2).form
  obtain ⟨va, vp, ev⟩ := (row_of_owns (k := .i64) q3).form
  subst ed es et ev
  simp only at q2 q3
  have kk3 := (b3.block (w.heap.size + 1) (by have := (Array.getElem?_eq_some_iff.1 Q1.out.1).1; exact this)).trans Q1.out.1
  have kq3 := (b3.block w.heap.size (by have := (Array.getElem?_eq_some_iff.1 Q1.out.2.1).1; exact this)).trans Q1.out.2.1
  have ba3 : Below w.heap.size w w3 := Q1.out.2.2.1.trans (b3.mono Q1.out.2.2.1.size)
  have k4 : hdB (w3.alloc (.cells #[.int .i64 f, .int .i64 v, .slice da d.length dp, .slice sa s.length sp, .slice ta t.length tp, .int .i64 0, .int .i64 0, .int .i64 0, .slice va vers.length vp, .int .i64 0, .int .i64 (fin : Int)] 53)) (w.heap.size + 1) (.int .i64 0) (.int .i64 0) (.slice none 0 0) (.slice none 0 0) (.slice none 0 0) (.int .i64 0) (.int .i64 0) (.int .i64 0) := (Below.heap_alloc _ _ _ ((Array.getElem?_eq_some_iff.1 kk3).1)).trans kk3
  have kb4 : Below w.heap.size w (w3.alloc (.cells #[.int .i64 f, .int .i64 v, .slice da d.length dp, .slice sa s.length sp, .slice ta t.length tp, .int .i64 0, .int .i64 0, .int .i64 0, .slice va vers.length vp, .int .i64 0, .int .i64 (fin : Int)] 53)) := ba3.alloc ba3.size _
  obtain ⟨zc0, zc1, zc2, zc3, zc4, zc5, zc6, zc7⟩ := hdB_cells k4
  obtain ⟨zf0, zf1, zf2, zf3, zf4, zf5, zf6, zf7⟩ := hdB_free k4
  have hE8 : (st8 (w3.alloc (.cells #[.int .i64 f, .int .i64 v, .slice da d.length dp, .slice sa s.length sp, .slice ta t.length tp, .int .i64 0, .int .i64 0, .int .i64 0, .slice va vers.length vp, .int .i64 0, .int .i64 (fin : Int)] 53)) (w.heap.size + 1) (.int .i64 0) (.int .i64 0) (.slice none 0 0) (.slice none 0 0) (.slice none 0 0) (.int .i64 0) (.int .i64 0) (.int .i64 0)).heap[w.heap.size + 1]? = _ := st8_heap k4
  have HQ : Hid _ := And.intro hE8 (show Below w.heap.size w (st8 (w3.alloc (.cells #[.int .i64 f, .int .i64 v, .slice da d.length dp, .slice sa s.length sp, .slice ta t.length tp, .int .i64 0, .int .i64 0, .int .i64 0, .slice va vers.length vp, .int .i64 0, .int .i64 (fin : Int)] 53)) (w.heap.size + 1) (.int .i64 0) (.int .i64 0) (.slice none 0 0) (.slice none 0 0) (.slice none 0 0) (.int .i64 0) (.int .i64 0) (.int .i64 0)) from st8_below kb4 (by omega))
  clear hE8
  clear k4 kb4 b3 kk3 kq3 ba3 t1 lie1 q2 q3
  unfold pkA
  simp only [Int.natCast_zero]
  go_wp2_with fail
  refine bodyPost_ret (v := .tuple #[.agg #[.int .i64 0, .int .i64 0, .slice none 0 0, .slice none 0 0, .slice none 0 0, .int .i64 0, .int .i64 0, .int .i64 0], .slice none 0 0, .int .i64 3]) ?_ rfl ?_
  · exact results_row_tmp2 (t := 27) rfl _ _ (w.heap.size + 1) _ (fr := (0, 0)) _ _ _ rfl rfl rfl HQ.out.1 Tryz.underlying27 rfl infoHd
  · exact ⟨_, rfl, World.ownsRow_nil _ _ _ _, HQ.out.2⟩
end Go.Proofs.YthokfbgpoffafaaGreatDoor

namespace Go.Proofs.YthokfbgpoffafaaGreatDoor
open Go.RowKit
set_option linter.unusedVariables false

def OpPost (R : H8 × List Int × Int) (w : World) (e : Ending) (w' : World) : Prop := ∃ r0 r1, e = .returned (.tuple #[r0, r1, .int .i64 R.2.2]) ∧ HOwns w' w.heap.size r0 R.1 ∧ w'.ownsRow w.heap.size 5 1 r1 R.2.1.length (R.2.1.map (Value.int .u8)) ∧ (∀ g, HBlk r0 g → Value.ownBlock r1 = some g → False) ∧ Below w.heap.size w w'
theorem zH_blk (g : Nat) : ¬ HBlk (.agg #[.int .i64 0, .int .i64 0, .slice none 0 0, .slice none 0 0, .slice none 0 0, .int .i64 0, .int .i64 0, .int .i64 0]) g := by
  rintro ⟨a0, a1, v2, v3, v4, a5, a6, a7, e, h⟩
  simp only [Value.agg.injEq, Array.mk.injEq, List.cons.injEq] at e
  obtain ⟨_, _, rfl, rfl, rfl, _⟩ := e
  simp [Value.ownBlock] at h
theorem zH_owns (w : World) (b : Nat) : HOwns w b (.agg #[.int .i64 0, .int .i64 0, .slice none 0 0, .slice none 0 0, .slice none 0 0, .int .i64 0, .int .i64 0, .int .i64 0]) zH :=
  ⟨.slice none 0 0, .slice none 0 0, .slice none 0 0, rfl, World.ownsRow_nil _ _ _ _, World.ownsRow_nil _ _ _ _, World.ownsRow_nil _ _ _ _, pk_apart _, pk_apart _, pk_apart _⟩
theorem OpErr.post {c : Int} {w w' : World} {e : Ending} (h : OpErr c w e w') : OpPost (zH, [], c) w e w' := by
  obtain ⟨r1, rfl, h1, h2⟩ := h
  exact ⟨_, r1, rfl, zH_owns _ _, h1, fun g hg _ => zH_blk g hg, h2⟩

set_option maxRecDepth 20000 in
set_option maxHeartbeats 400000 in
theorem opI_open (a0 a1 a2 a3 ao : Option Addr) (p0 p1 p2 p3 n cap : Nat) (k : K4) (cl l : Int) (w : World) (xs : List Int) (f v : Int) (d s t vers : List Int) (na fin : Nat) (h : n ≤ 65536) (hk : KRow w (.agg #[.slice a0 k.a.length p0, .slice a1 k.b.length p1, .slice a2 k.c.length p2, .slice a3 k.d.length p3]) k) (kby : k.bytes) (ho : kok k) (hc : 0 ≤ cl ∧ cl ≤ 8) (hl0 : -1 ≤ l) (hl1 : l ≤ 4611686018427387903) (hlie : n = 0 ∨ ∃ b off, ao = some ⟨b, off, none⟩ ∧ Lies w b off n cap xs) (hlen : xs.length = n) (hB : Bytes xs) (ht : T3 w) (hp : pk xs cl = .ok ⟨f, v, d, s, t, vers, na, fin⟩) (hna : 0 < na) (hf : na + 12 ≤ fin) (hfn : fin ≤ n) (h64 : 64 ≤ xs.getD 0 0) :
    Calls Tryz.prog 8 #[.agg #[.slice a0 k.a.length p0, .slice a1 k.b.length p1, .slice a2 k.c.length p2, .slice a3 k.d.length p3], .slice ao n cap, .int .i64 cl, .int .i64 l] w fun e w' => OpPost (opT k xs ⟨f, v, d, s, t, vers, na, fin⟩ l) w e w' := by
  obtain ⟨kb0, kk0, k0⟩ := op_w0 (.cells #[.slice a0 k.a.length p0, .slice a1 k.b.length p1, .slice a2 k.c.length p2, .slice a3 k.d.length p3] 30) w
  have HKO : Hid _ := And.intro hk (And.intro kby (And.intro ho (And.intro h64 True.intro)))
  clear kby h64
  have y0 : _ = some (Value.slice a0 k.a.length p0) := (bk_cell kk0 0).trans rfl
  have y1 : _ = some (Value.slice a1 k.b.length p1) := (bk_cell kk0 1).trans rfl
  have y2 : _ = some (Value.slice a2 k.c.length p2) := (bk_cell kk0 2).trans rfl
  have y3 : _ = some (Value.slice a3 k.d.length p3) := (bk_cell kk0 3).trans rfl
  have dn : decide ((65536 : Int) < (n : Int)) = false := decide_eq_false (by omega)
  have HK : Hid _ := hk.below kb0
  clear hk
  have g0 : decide (l < -1) = false := decide_eq_false (by omega)
  have g1 : decide (4611686018427387903 < l) = false := decide_eq_false (by omega)
  have HC : Hid _ := hc
  have HX : Hid _ := And.intro hlie (And.intro hlen (And.intro hB (And.intro ht (And.intro hp (And.intro hl0 hl1)))))
  clear hlie hB ht hp hc hl0 hl1
  go_enter Tryz.func8, Tryz.ntmps8
  go_wp2_with fail
  go_at_call 27
  refine (ivk_true _ k _ HK.out ho).mono ?_
  rintro e w1 ⟨rfl, b1⟩
  have kb1 := kb0.trans (b1.mono kb0.size)
  have kk1 := (b1.block w.heap.size (by have := (Array.getElem?_eq_some_iff.1 kk0).1; exact this)).trans kk0
  have k1 := (b1.block (w.heap.size + 1) (by have := (Array.getElem?_eq_some_iff.1 k0).1; exact this)).trans k0
  clear b1 kb0 kk0 k0
  go_wp2_with fail
  go_at_call 28
  refine (vcl_y cl _ HC.out).mono ?_
  rintro e w2 ⟨rfl, hw2⟩
  subst w2
  have t1 := HX.out.2.2.2.1.below kb1 HX.out.2.2.2.1.lt
  have lie1 : n = 0 ∨ ∃ b off, ao = some ⟨b, off, none⟩ ∧ Lies w1 b off n cap xs := HX.out.1.imp id (fun ⟨b, off, h1, h2⟩ => ⟨b, off, h1, h2.below kb1⟩)
  have Q1 : Hid _ := And.intro k1 (And.intro kk1 (And.intro kb1 t1))
  clear k1 kk1 kb1
  go_wp2_with fail
  go_at_call 29
  refine (peek_ok ao n cap cl _ xs _ t1.tab t1.tabL lie1 HX.out.2.1 HX.out.2.2.1 (by omega) HX.out.2.2.2.2.1).mono ?_
  rintro e w3 ⟨b3, vd, vs, vt, vv, rfl, q2, q3⟩
  obtain ⟨da, dp, ed⟩ := (row_of_owns q2.o0).form
  obtain ⟨sa, sp, es⟩ := (row_of_owns q2.o1).form
  obtain ⟨ta, tp, et⟩ := (row_of_owns q2.o2).form
  obtain ⟨va, vp, ev⟩ := (row_of_owns (k := .i64) q3).form
  subst ed es et ev
  simp only at q2 q3
  have kk3 := (b3.block (w.heap.size + 1) (by have := (Array.getElem?_eq_some_iff.1 Q1.out.1).1; exact this)).trans Q1.out.1
  have kq3 := (b3.block w.heap.size (by have := (Array.getElem?_eq_some_iff.1 Q1.out.2.1).1; exact this)).trans Q1.out.2.1
  have ba3 : Below w.heap.size w w3 := Q1.out.2.2.1.trans (b3.mono Q1.out.2.2.1.size)
  obtain ⟨b, off, rfl, lie⟩ := HX.out.1.resolve_left (by omega)
  have BA : Below w3.heap.size w3 (w3.alloc (.cells #[.int .i64 f, .int .i64 v, .slice da d.length dp, .slice sa s.length sp, .slice ta t.length tp, .int .i64 0, .int .i64 0, .int .i64 0, .slice va vers.length vp, .int .i64 (na : Int), .int .i64 (fin : Int)] 53)) := (Below.refl _ _).alloc (Nat.le_refl _) _
  have k4 : hdB (w3.alloc (.cells #[.int .i64 f, .int .i64 v, .slice da d.length dp, .slice sa s.length sp, .slice ta t.length tp, .int .i64 0, .int .i64 0, .int .i64 0, .slice va vers.length vp, .int .i64 (na : Int), .int .i64 (fin : Int)] 53)) (w.heap.size + 1) (.int .i64 0) (.int .i64 0) (.slice none 0 0) (.slice none 0 0) (.slice none 0 0) (.int .i64 0) (.int .i64 0) (.int .i64 0) := (Below.heap_alloc _ _ _ ((Array.getElem?_eq_some_iff.1 kk3).1)).trans kk3
  have kq4 : (w3.alloc (.cells #[.int .i64 f, .int .i64 v, .slice da d.length dp, .slice sa s.length sp, .slice ta t.length tp, .int .i64 0, .int .i64 0, .int .i64 0, .slice va vers.length vp, .int .i64 (na : Int), .int .i64 (fin : Int)] 53)).heap[w.heap.size]? = _ := (Below.heap_alloc _ _ _ ((Array.getElem?_eq_some_iff.1 kq3).1)).trans kq3
  have kp4 : pkB (w3.alloc (.cells #[.int .i64 f, .int .i64 v, .slice da d.length dp, .slice sa s.length sp, .slice ta t.length tp, .int .i64 0, .int .i64 0, .int .i64 0, .slice va vers.length vp, .int .i64 (na : Int), .int .i64 (fin : Int)] 53)) w3.heap.size f v (.slice da d.length dp) (.slice sa s.length sp) (.slice ta t.length tp) (.slice va vers.length vp) na fin := heap_alloc_new w3 _
  have kb4 : Below w.heap.size w (w3.alloc (.cells #[.int .i64 f, .int .i64 v, .slice da d.length dp, .slice sa s.length sp, .slice ta t.length tp, .int .i64 0, .int .i64 0, .int .i64 0, .slice va vers.length vp, .int .i64 (na : Int), .int .i64 (fin : Int)] 53)) := ba3.alloc ba3.size _
  have z13 : w1.heap.size ≤ w3.heap.size := b3.size
  have z01 : w.heap.size + 1 < w1.heap.size := (Array.getElem?_eq_some_iff.1 Q1.out.1).1
  have s4 : (w3.alloc (.cells #[.int .i64 f, .int .i64 v, .slice da d.length dp, .slice sa s.length sp, .slice ta t.length tp, .int .i64 0, .int .i64 0, .int .i64 0, .slice va vers.length vp, .int .i64 (na : Int), .int .i64 (fin : Int)] 53)).heap.size = w3.heap.size + 1 := by simp
  have HW : Hid _ := And.intro k4 (And.intro kq4 (And.intro kp4 (And.intro kb4 (And.intro (q2.o0) (And.intro q2.o1 (And.intro q2.o2 (And.intro q2.a01 (And.intro q2.a02 (And.intro q2.a12 (And.intro BA s4))))))))))
  have hcap : n ≤ cap ∧ cap ≤ 9223372036854775807 := ⟨lie.fits, lie.most⟩
  obtain ⟨hcap1, hcap2⟩ := hcap
  have HL : Hid _ := And.intro lie True.intro
  clear k4 kq4 kp4 kb4 b3 kk3 kq3 ba3 t1 lie1 q2 q3 BA s4 lie y0 y1 y2 y3
  unfold pkA
  simp only
  have dna : ((na : Int) == 0) = false := by simp; omega
  go_upto_region 10 with fail
  generalize ew4 : w3.alloc (.cells #[.int .i64 f, .int .i64 v, .slice da d.length dp, .slice sa s.length sp, .slice ta t.length tp, .int .i64 0, .int .i64 0, .int .i64 0, .slice va vers.length vp, .int .i64 (na : Int), .int .i64 (fin : Int)] 53) = W4 at HW ⊢
  obtain ⟨T, eT⟩ : ∃ T, opT k xs ⟨f, v, d, s, t, vers, na, fin⟩ l = T := ⟨_, rfl⟩
  have HT : Hid _ := eT
  clear eT
  go_cut [13, 14] from 49 to 60 (fun cb ce wx => ce = .int .i64 T.2.2 ∧ wx.ownsRow W4.heap.size 5 1 cb T.2.1.length (T.2.1.map (Value.int .u8)) ∧ Chg (· = w3.heap.size) W4 wx ∧ (T.2.2 = 0 → wx.heap[w3.heap.size]? = some (.cells #[.int .i64 f, .int .i64 v, .slice da d.length dp, .slice sa s.length sp, .slice ta t.length tp, .int .i64 (opNum k xs na l), .int .i64 (opL k xs na), .int .i64 (opPh k xs na), .slice va vers.length vp, .int .i64 (na : Int), .int .i64 (fin : Int)] 53 (0, 0))))
  case first =>
    have D : Hid (Below W4.heap.size W4 W4.drew) := ⟨rfl, rfl, rfl, Nat.le_refl _, fun _ _ => rfl⟩
    have C := openI w W4.drew w3.heap.size b off n cap k a0 a1 a2 a3 da sa ta va p0 p1 p2 p3 d.length s.length t.length vers.length dp sp tp vp ⟨f, v, d, s, t, vers, na, fin⟩ l xs HKO.out.1 HKO.out.2.1 HKO.out.2.2.1 HL.out.1 HX.out.2.2.1 h (HW.out.2.2.2.1.trans (D.out.mono HW.out.2.2.2.1.size)) (by omega) HW.out.2.2.1 hna hf hfn HKO.out.2.2.2.1 HX.out.2.2.2.2.2.1 HX.out.2.2.2.2.2.2
    simp only at C
    rw [HT.out] at C
    have HC2 : Hid _ := And.intro C True.intro
    clear C
    have x0 : W4.cell? ⟨w.heap.size, 0, none⟩ = some (Value.slice a0 k.a.length p0) := (bk_cell HW.out.2.1 0).trans rfl
    have x1 : W4.cell? ⟨w.heap.size, 1, none⟩ = some (Value.slice a1 k.b.length p1) := (bk_cell HW.out.2.1 1).trans rfl
    have x2 : W4.cell? ⟨w.heap.size, 2, none⟩ = some (Value.slice a2 k.c.length p2) := (bk_cell HW.out.2.1 2).trans rfl
    have x3 : W4.cell? ⟨w.heap.size, 3, none⟩ = some (Value.slice a3 k.d.length p3) := (bk_cell HW.out.2.1 3).trans rfl
    have x4 : W4.cell? ⟨w3.heap.size, 10, none⟩ = some (.int .i64 (fin : Int)) := (bk_cell HW.out.2.2.1 10).trans rfl
    have s1 : 0 ≤ (fin : Int) ∧ (fin : Int) ≤ (cap : Int) := by omega
    have s2 : ((fin : Int)).toNat = fin := by omega
    go_region_with (go_at_call 31; refine HC2.out.1.mono ?_; rintro e wy ⟨r, rfl, orr, cr, pr⟩)
    all_goals
      obtain ⟨ra, rp, er⟩ := (row_of_owns orr).form
      subst er
      go_wp2_with fail
      go_meet
      exact ⟨rfl, orr, (Chg.of_below D.out).trans cr, pr⟩
  case rest =>
    obtain ⟨rfl, o5, c5, p5⟩ := hcut
    obtain ⟨ra, rp, er⟩ := (row_of_owns o5).form
    subst er
    have k5 : hdB wc (w.heap.size + 1) (.int .i64 0) (.int .i64 0) (.slice none 0 0) (.slice none 0 0) (.slice none 0 0) (.int .i64 0) (.int .i64 0) (.int .i64 0) := (c5.block _ (by have := HW.out.2.2.2.2.2.2.2.2.2.2.2; omega) (by omega)).trans HW.out.1
    have kb5 : Below w.heap.size w wc := HW.out.2.2.2.1.trans (c5.below HW.out.2.2.2.1.size (fun q hq => by omega))
    have sz5 := c5.size
    have s4 := HW.out.2.2.2.2.2.2.2.2.2.2.2
    have own5 : ∀ u m L, w3.ownsRow w1.heap.size 5 1 u m L → wc.ownsRow w1.heap.size 5 1 u m L := fun u m L hu => c5.owns (owns_below hu HW.out.2.2.2.2.2.2.2.2.2.2.1) (fun q hq => by have := (hu.lt q hq).2; omega)
    obtain ⟨zc0, zc1, zc2, zc3, zc4, zc5, zc6, zc7⟩ := hdB_cells k5
    obtain ⟨zf0, zf1, zf2, zf3, zf4, zf5, zf6, zf7⟩ := hdB_free k5
    have O5 : Hid _ := And.intro o5 (And.intro own5 True.intro)
    by_cases hc0 : T.2.2 = 0
    · have eR : T.1 = ⟨f, v, d, s, t, opNum k xs na l, opL k xs na, opPh k xs na⟩ := by
        rw [← HT.out] at hc0 ⊢
        unfold opT at hc0 ⊢
        split at hc0
        · simp at hc0
        · split at hc0
          · rename_i hh; exact absurd hc0 hh
          · split at hc0
            · simp at hc0
            · rename_i h1 h2 h3
              rw [if_neg h1, if_neg h2, if_neg h3]
      have pb := p5 hc0
      have hE8 : (st8 wc (w.heap.size + 1) (.int .i64 f) (.int .i64 v) (.slice da d.length dp) (.slice sa s.length sp) (.slice ta t.length tp) (.int .i64 (opNum k xs na l)) (.int .i64 (opL k xs na)) (.int .i64 (opPh k xs na))).heap[w.heap.size + 1]? = _ := st8_heap k5
      have HQ : Hid _ := And.intro hE8 (And.intro (show Below w.heap.size w (st8 wc (w.heap.size + 1) (.int .i64 f) (.int .i64 v) (.slice da d.length dp) (.slice sa s.length sp) (.slice ta t.length tp) (.int .i64 (opNum k xs na l)) (.int .i64 (opL k xs na)) (.int .i64 (opPh k xs na))) from st8_below kb5 (by omega)) (And.intro eR True.intro))
      have HS : Hid _ := And.intro z13 (And.intro z01 (And.intro s4 sz5))
      have q0 : wc.cell? ⟨w3.heap.size, 0, none⟩ = _ := (bk_cell pb 0).trans rfl
      have q1 : wc.cell? ⟨w3.heap.size, 1, none⟩ = _ := (bk_cell pb 1).trans rfl
      have q2 : wc.cell? ⟨w3.heap.size, 2, none⟩ = _ := (bk_cell pb 2).trans rfl
      have q3 : wc.cell? ⟨w3.heap.size, 3, none⟩ = _ := (bk_cell pb 3).trans rfl
      have q4 : wc.cell? ⟨w3.heap.size, 4, none⟩ = _ := (bk_cell pb 4).trans rfl
      have q5 : wc.cell? ⟨w3.heap.size, 5, none⟩ = _ := (bk_cell pb 5).trans rfl
      have q6 : wc.cell? ⟨w3.heap.size, 6, none⟩ = _ := (bk_cell pb 6).trans rfl
      have q7 : wc.cell? ⟨w3.heap.size, 7, none⟩ = _ := (bk_cell pb 7).trans rfl
      have HZ : Hid (T.2.2 = 0) := hc0
      rw [hc0]
      clear hE8 k5 kb5 own5 o5 p5 pb c5 eR z13 z01 s4 sz5 hc0
      go_wp2_with fail
      refine bodyPost_ret (v := .tuple #[.agg #[.int .i64 f, .int .i64 v, .slice da d.length dp, .slice sa s.length sp, .slice ta t.length tp, .int .i64 (opNum k xs na l), .int .i64 (opL k xs na), .int .i64 (opPh k xs na)], .slice ra T.2.1.length rp, .int .i64 0]) ?_ rfl ?_
      · exact results_row_tmp2 (t := 27) rfl _ _ (w.heap.size + 1) _ (fr := (0, 0)) _ _ _ rfl rfl rfl HQ.out.1 Tryz.underlying27 rfl infoHd
      · rw [HT.out]
        obtain ⟨e13, e01, e4, e5⟩ := HS.out
        refine ⟨_, _, by rw [HZ.out], ?_, owns_mono (st8_owns O5.out.1 (by omega)) (by omega), ?_, HQ.out.2.1⟩
        · rw [HQ.out.2.2.1]
          exact ⟨_, _, _, rfl, owns_mono (st8_owns (O5.out.2.1 _ _ _ HW.out.2.2.2.2.1) (by omega)) (by omega), owns_mono (st8_owns (O5.out.2.1 _ _ _ HW.out.2.2.2.2.2.1) (by omega)) (by omega), owns_mono (st8_owns (O5.out.2.1 _ _ _ HW.out.2.2.2.2.2.2.1) (by omega)) (by omega), HW.out.2.2.2.2.2.2.2.1, HW.out.2.2.2.2.2.2.2.2.1, HW.out.2.2.2.2.2.2.2.2.2.1⟩
        · intro g hg hr
          have l1 := (O5.out.1.lt g hr).1
          obtain ⟨a0', a1', v2, v3, v4, a5', a6', a7', e, hh⟩ := hg
          simp only [Value.agg.injEq, Array.mk.injEq, List.cons.injEq] at e
          obtain ⟨_, _, rfl, rfl, rfl, _⟩ := e
          rcases hh with hh | hh | hh
          · have := (HW.out.2.2.2.2.1.lt g hh).2; omega
          · have := (HW.out.2.2.2.2.2.1.lt g hh).2; omega
          · have := (HW.out.2.2.2.2.2.2.1.lt g hh).2; omega
    · have hE8 : (st8 wc (w.heap.size + 1) (.int .i64 0) (.int .i64 0) (.slice none 0 0) (.slice none 0 0) (.slice none 0 0) (.int .i64 0) (.int .i64 0) (.int .i64 0)).heap[w.heap.size + 1]? = _ := st8_heap k5
      have HQ : Hid _ := And.intro hE8 (show Below w.heap.size w (st8 wc (w.heap.size + 1) (.int .i64 0) (.int .i64 0) (.slice none 0 0) (.slice none 0 0) (.slice none 0 0) (.int .i64 0) (.int .i64 0) (.int .i64 0)) from st8_below kb5 (by omega))
      have eT2 : T = (zH, [], T.2.2) := by
        rw [← HT.out] at hc0 ⊢
        unfold opT at hc0 ⊢
        split
        · rfl
        · rename_i h1
          split
          · rfl
          · rename_i h2
            split
            · rfl
            · rename_i h3
              rw [if_neg h1, if_neg h2, if_neg h3] at hc0
              exact absurd rfl hc0
      have H2 : Hid _ := eT2
      have hcb : (T.2.2 != 0) = true := by simpa using hc0
      clear hE8 k5 kb5 own5 o5 p5 c5 eT2 z13 z01 s4 sz5
      go_wp2_with fail
      refine bodyPost_ret (v := .tuple #[.agg #[.int .i64 0, .int .i64 0, .slice none 0 0, .slice none 0 0, .slice none 0 0, .int .i64 0, .int .i64 0, .int .i64 0], .slice none 0 0, .int .i64 T.2.2]) ?_ rfl ?_
      · exact results_row_tmp2 (t := 27) rfl _ _ (w.heap.size + 1) _ (fr := (0, 0)) _ _ _ rfl rfl rfl HQ.out.1 Tryz.underlying27 rfl infoHd
      · have hp2 := OpErr.post (c := T.2.2) (w := w) ⟨_, rfl, World.ownsRow_nil _ _ _ _, HQ.out.2⟩
        rw [← H2.out] at hp2
        rw [HT.out]
        exact hp2
end Go.Proofs.YthokfbgpoffafaaGreatDoor

namespace Go.Proofs.YthokfbgpoffafaaGreatDoor
open Go.RowKit
set_option linter.unusedVariables false

theorem implOp (v bv : Value) (k : K4) (xs : List Int) (cl l : Int) (w : World) (hk : KRow w v k) (kb : k.bytes) (hrow : Row w .u8 bv xs) (hB : Bytes xs) (ht : T3 w) (hm : xs.length ≤ 9223372036854775807) :
    Calls Tryz.prog 8 #[v, bv, .int .i64 cl, .int .i64 l] w fun e w' => OpPost (opR k xs cl l) w e w' := by
  obtain ⟨v0, v1, v2, v3, rfl, r0, r1, r2, r3⟩ := id hk
  obtain ⟨a0, p0, rfl⟩ := r0.form
  obtain ⟨a1, p1, rfl⟩ := r1.form
  obtain ⟨a2, p2, rfl⟩ := r2.form
  obtain ⟨a3, p3, rfl⟩ := r3.form
  obtain ⟨ao, cap, rfl, hlie⟩ := row_lies hrow
  by_cases c1 : 65536 < xs.length
  · have e : opR k xs cl l = (zH, [], 4) := by unfold opR; rw [if_pos c1]
    rw [e]
    exact (opI_long a0 a1 a2 a3 ao p0 p1 p2 p3 _ cap k cl l w c1 hm).mono fun _ _ h => h.post
  have hn : xs.length ≤ 65536 := by omega
  by_cases c2 : kok k
  case neg =>
    have e : opR k xs cl l = (zH, [], 1) := by unfold opR; rw [if_neg c1, if_pos (Or.inl c2)]
    rw [e]
    exact (opI_key a0 a1 a2 a3 ao p0 p1 p2 p3 _ cap k cl l w hn hk c2).mono fun _ _ h => h.post
  by_cases c3 : 0 ≤ cl ∧ cl ≤ 8
  case neg =>
    have e : opR k xs cl l = (zH, [], 1) := by unfold opR; rw [if_neg c1, if_pos (Or.inr (Or.inl c3))]
    rw [e]
    exact (opI_cid a0 a1 a2 a3 ao p0 p1 p2 p3 _ cap k cl l w hn hk c2 c3).mono fun _ _ h => h.post
  by_cases c4 : l < -1
  · have e : opR k xs cl l = (zH, [], 1) := by unfold opR; rw [if_neg c1, if_pos (Or.inr (Or.inr (Or.inl c4)))]
    rw [e]
    exact (opI_low a0 a1 a2 a3 ao p0 p1 p2 p3 _ cap k cl l w hn hk c2 c3 c4).mono fun _ _ h => h.post
  by_cases c5 : 4611686018427387903 < l
  · have e : opR k xs cl l = (zH, [], 1) := by unfold opR; rw [if_neg c1, if_pos (Or.inr (Or.inr (Or.inr c5)))]
    rw [e]
    exact (opI_high a0 a1 a2 a3 ao p0 p1 p2 p3 _ cap k cl l w hn hk c2 c3 c5).mono fun _ _ h => h.post
  have hno : ¬ (¬ kok k ∨ ¬ (0 ≤ cl ∧ cl ≤ 8) ∨ l < -1 ∨ 4611686018427387903 < l) := by
    rintro (h | h | h | h)
    · exact h c2
    · exact h c3
    · exact c4 h
    · exact c5 h
  cases hp : pk xs cl with
  | error c =>
    have e : opR k xs cl l = (zH, [], c) := by unfold opR; rw [if_neg c1, if_neg hno, hp]
    rw [e]
    exact (opI_bad a0 a1 a2 a3 ao p0 p1 p2 p3 _ cap k cl l w xs c hn hk c2 c3 (by omega) (by omega) hlie rfl hB ht hp).mono fun _ _ h => h.post
  | ok K =>
    obtain ⟨hK, _, h0, h64⟩ := pk_open hp
    obtain ⟨f, v, d, s, t, vers, na, fin⟩ := K
    by_cases hna : na = 0
    · subst hna
      have e : opR k xs cl l = (zH, [], 3) := by unfold opR; rw [if_neg c1, if_neg hno, hp]; exact if_pos rfl
      rw [e]
      exact (opI_na a0 a1 a2 a3 ao p0 p1 p2 p3 _ cap k cl l w xs f v d s t vers fin hn hk c2 c3 (by omega) (by omega) hlie rfl hB ht hp).mono fun _ _ h => h.post
    · have e : opR k xs cl l = opT k xs ⟨f, v, d, s, t, vers, na, fin⟩ l := by unfold opR; rw [if_neg c1, if_neg hno, hp]; exact if_neg hna
      rw [e]
      rcases hK with ⟨h, _⟩ | ⟨g1, g2, g3, _⟩
      · exact absurd h hna
      · exact opI_open a0 a1 a2 a3 ao p0 p1 p2 p3 _ cap k cl l w xs f v d s t vers na fin hn hk kb c2 c3 (by omega) (by omega) hlie rfl hB ht hp g1 g2 g3 h64
end Go.Proofs.YthokfbgpoffafaaGreatDoor

namespace Go.Proofs.YthokfbgpoffafaaGreatDoor
open Go.RowKit
set_option linter.unusedVariables false

theorem bitsS (f : Int) (w : World) : Calls Tryz.prog 23 #[.int .u8 f] w fun e w' => e = .returned (.int .u8 (if 128 ≤ f then 15 else 31)) ∧ w' = w := by
  by_cases h : 128 ≤ f
  · rw [if_pos h]
    go_enter Tryz.func23, Tryz.ntmps23
    go_wp2
    go_ret
    exact ⟨rfl, rfl⟩
  · rw [if_neg h]
    go_enter Tryz.func23, Tryz.ntmps23
    go_wp2
    go_ret
    exact ⟨rfl, rfl⟩
theorem gvS (b off n cap p : Nat) (xs : List Int) (w : World) (hl : Lies w b off n cap xs) (hB : Bytes xs) (hn : n ≤ 65536) (hv : varOK xs p) :
    Calls Tryz.prog 38 #[.slice (some ⟨b, off, none⟩) n cap, .int .i64 (p : Int)] w fun e w' => e = .returned (.tuple #[.int .i64 (varV xs p), .int .i64 ((varN xs p : Nat) : Int), .int .i64 0]) ∧ w' = w := by
  have hr : Row w .u8 (.slice (some ⟨b, off, none⟩) n cap) xs := by
    have := hl.row 0 n (by omega)
    rwa [Nat.add_zero, Nat.sub_zero, List.drop_zero, List.take_of_length_le (by rw [hl.len]; exact Nat.le_refl _)] at this
  have hg := specGetVar _ xs p w hr hB (by rw [hl.len]; omega)
  rw [gv_yes xs p (by rw [hl.len]; exact hn) hv] at hg
  exact hg
set_option maxRecDepth 20000 in
set_option maxHeartbeats 1000000 in
theorem beginS (b off n cap : Nat) (K : PK) (xs : List Int) (ad as' at' : Option Addr) (pd ps pt : Nat) (q : Int) (w : World) (hl : Lies w b off n cap xs) (hB : Bytes xs) (hn : n ≤ 65536) (hna : K.na ≠ 0) (hK : OpK xs K) (h1 : K.d.length ≤ 65536) (h2 : K.s.length ≤ 65536) (h3 : K.t.length ≤ 65536) :
    Calls Tryz.prog 20 #[.slice (some ⟨b, off, none⟩) n cap, .agg #[.int .i64 K.f, .int .i64 K.v, .slice ad K.d.length pd, .slice as' K.s.length ps, .slice at' K.t.length pt, .int .i64 0, .int .i64 0, .int .i64 0], .int .i64 q] w
      fun e w' => e = .returned (.int .i64 (K.na : Int)) ∧ Below w.heap.size w w' := by
  obtain ⟨f, v, d, s, t, vers, na, fin⟩ := K
  rcases hK with ⟨h0, _⟩ | ⟨_, hf, hfn, hK⟩
  · exact absurd h0 hna
  simp only at hK hf hfn h1 h2 h3 hna ⊢
  obtain ⟨ld, eld⟩ : ∃ m, m = d.length := ⟨_, rfl⟩
  obtain ⟨ls, els⟩ : ∃ m, m = s.length := ⟨_, rfl⟩
  obtain ⟨lt, elt⟩ : ∃ m, m = t.length := ⟨_, rfl⟩
  rw [← eld, ← els, ← elt] at hK
  rw [← eld] at h1
  rw [← els] at h2
  rw [← elt] at h3
  rw [← eld, ← els, ← elt]
  clear eld els elt
  have BW : Below w.heap.size w (w.alloc (.cells #[.int .i64 f, .int .i64 v, .slice ad ld pd, .slice as' ls ps, .slice at' lt pt, .int .i64 0, .int .i64 0, .int .i64 0] 27)) := (Below.refl _ _).alloc (Nat.le_refl _) _
  have HL : Hid _ := And.intro hl (And.intro hB (And.intro hn BW))
  have LW : Lies (w.alloc (.cells #[.int .i64 f, .int .i64 v, .slice ad ld pd, .slice as' ls ps, .slice at' lt pt, .int .i64 0, .int .i64 0, .int .i64 0] 27)) b off n cap xs :=
    ⟨hl.len, Nat.lt_of_lt_of_le hl.lt BW.size, hl.fits, hl.most, fun j hj => (BW.cell (p := ⟨b, off + j, none⟩) hl.lt).trans (hl.cell j hj)⟩
  rcases hK with ⟨rfl, g1, g2, g3⟩ | ⟨g1, ⟨rfl, g2, g3⟩ | ⟨rfl, g2, g3, g4⟩⟩
  · have e : ((na : Nat) : Int) = 1 + (ld : Int) := by omega
    rw [e]
    clear hl LW BW
    go_enter Tryz.func20, Tryz.ntmps20
    go_wp2
    go_ret
    exact ⟨rfl, HL.out.2.2.2⟩
  · have C := gvS b off n cap (7 + ld + ls) xs _ LW hB hn g2
    rw [← g3] at C
    have e : ((7 + ld + ls : Nat) : Int) = 7 + (ld : Int) + (ls : Int) := by omega
    rw [e] at C
    generalize varV xs (7 + ld + ls) = V at C
    clear hl LW BW g2 g3 e
    go_enter Tryz.func20, Tryz.ntmps20
    go_wp2_with (go_at_call 38; refine C.mono ?_; rintro e w' ⟨rfl, rfl⟩)
    go_ret
    exact ⟨rfl, HL.out.2.2.2⟩
  · have C1 := gvS b off n cap (7 + ld + ls) xs _ LW hB hn g2
    have C2 := gvS b off n cap (varN xs (7 + ld + ls) + lt) xs _ LW hB hn g3
    rw [← g4] at C2
    have hN := varN_bd xs _ g2
    rw [hl.len] at hN
    have e : ((7 + ld + ls : Nat) : Int) = 7 + (ld : Int) + (ls : Int) := by omega
    have e2 : ((varN xs (7 + ld + ls) + lt : Nat) : Int) = (varN xs (7 + ld + ls) : Int) + (lt : Int) := by omega
    rw [e] at C1
    rw [e2] at C2
    generalize varV xs (7 + ld + ls) = V at C1
    generalize varV xs (varN xs (7 + ld + ls) + lt) = V2 at C2
    generalize varN xs (7 + ld + ls) = N at *
    clear hl LW BW g2 g3 g4 e e2
    go_enter Tryz.func20, Tryz.ntmps20
    go_wp2_with fail
    go_at_call 38
    refine C1.mono ?_
    rintro e w' ⟨rfl, rfl⟩
    go_wp2_with fail
    go_at_call 38
    refine C2.mono ?_
    rintro e w' ⟨rfl, rfl⟩
    go_wp2
    go_ret
    exact ⟨rfl, HL.out.2.2.2⟩
end Go.Proofs.YthokfbgpoffafaaGreatDoor

namespace Go.Proofs.YthokfbgpoffafaaGreatDoor
open Go.RowKit
set_option linter.unusedVariables false

set_option maxRecDepth 20000 in
set_option maxHeartbeats 400000 in
theorem opS_long (a0 a1 a2 a3 ao : Option Addr) (p0 p1 p2 p3 n cap : Nat) (k : K4) (cl l : Int) (w : World) (h : 65536 < n) (hn : n ≤ 9223372036854775807) :
    Calls Tryz.prog 5 #[.agg #[.slice a0 k.a.length p0, .slice a1 k.b.length p1, .slice a2 k.c.length p2, .slice a3 k.d.length p3], .slice ao n cap, .int .i64 cl, .int .i64 l] w fun e w' => OpErr 4 w e w' := by
  obtain ⟨kb0, kk0, k0⟩ := op_w0 (.cells #[.slice a0 k.a.length p0, .slice a1 k.b.length p1, .slice a2 k.c.length p2, .slice a3 k.d.length p3] 30) w
  have dn : decide ((65536 : Int) < (n : Int)) = true := decide_eq_true (by omega)
  have sz : ((w.alloc (.cells #[.slice a0 k.a.length p0, .slice a1 k.b.length p1, .slice a2 k.c.length p2, .slice a3 k.d.length p3] 30)).alloc hd0).heap.size = w.heap.size + 1 + 1 := by simp
  have kE : hdB (((w.alloc (.cells #[.slice a0 k.a.length p0, .slice a1 k.b.length p1, .slice a2 k.c.length p2, .slice a3 k.d.length p3] 30)).alloc hd0).alloc (.cells #[] 5)) (w.heap.size + 1) (.int .i64 0) (.int .i64 0) (.slice none 0 0) (.slice none 0 0) (.slice none 0 0) (.int .i64 0) (.int .i64 0) (.int .i64 0) := (Below.heap_alloc _ _ _ ((Array.getElem?_eq_some_iff.1 k0).1)).trans k0
  have oE : (((w.alloc (.cells #[.slice a0 k.a.length p0, .slice a1 k.b.length p1, .slice a2 k.c.length p2, .slice a3 k.d.length p3] 30)).alloc hd0).alloc (.cells #[] 5)).ownsRow w.heap.size 5 1 (.slice (some ⟨((w.alloc (.cells #[.slice a0 k.a.length p0, .slice a1 k.b.length p1, .slice a2 k.c.length p2, .slice a3 k.d.length p3] 30)).alloc hd0).heap.size, 0, none⟩) 0 0) 0 [] := World.ownsRow_lit ((w.alloc (.cells #[.slice a0 k.a.length p0, .slice a1 k.b.length p1, .slice a2 k.c.length p2, .slice a3 k.d.length p3] 30)).alloc hd0) #[] 0 kb0.size (by decide) rfl
  have HQ : Hid _ := And.intro kE (And.intro (show Below w.heap.size w (((w.alloc (.cells #[.slice a0 k.a.length p0, .slice a1 k.b.length p1, .slice a2 k.c.length p2, .slice a3 k.d.length p3] 30)).alloc hd0).alloc (.cells #[] 5)) from kb0.alloc kb0.size _) oE)
  rw [sz] at HQ
  clear k0 kb0 kk0 h hn sz kE oE
  go_enter Tryz.func5, Tryz.ntmps5
  go_wp2_with fail
  refine bodyPost_ret (v := .tuple #[.agg #[.int .i64 0, .int .i64 0, .slice none 0 0, .slice none 0 0, .slice none 0 0, .int .i64 0, .int .i64 0, .int .i64 0], .slice (some ⟨w.heap.size + 1 + 1, 0, none⟩) 0 0, .int .i64 4]) ?_ rfl ?_
  · exact results_row_tmp2 (t := 27) rfl _ _ (w.heap.size + 1) _ (fr := (0, 0)) _ _ _ rfl rfl rfl HQ.out.1 Tryz.underlying27 rfl infoHd
  · exact ⟨_, rfl, HQ.out.2.2, HQ.out.2.1⟩
set_option maxRecDepth 20000 in
set_option maxHeartbeats 400000 in
theorem opS_key (a0 a1 a2 a3 ao : Option Addr) (p0 p1 p2 p3 n cap : Nat) (k : K4) (cl l : Int) (w : World) (h : n ≤ 65536) (hk : KRow w (.agg #[.slice a0 k.a.length p0, .slice a1 k.b.length p1, .slice a2 k.c.length p2, .slice a3 k.d.length p3]) k) (ho : ¬ kok k) :
    Calls Tryz.prog 5 #[.agg #[.slice a0 k.a.length p0, .slice a1 k.b.length p1, .slice a2 k.c.length p2, .slice a3 k.d.length p3], .slice ao n cap, .int .i64 cl, .int .i64 l] w fun e w' => OpErr 1 w e w' := by
  obtain ⟨kb0, kk0, k0⟩ := op_w0 (.cells #[.slice a0 k.a.length p0, .slice a1 k.b.length p1, .slice a2 k.c.length p2, .slice a3 k.d.length p3] 30) w
  have y0 : _ = some (Value.slice a0 k.a.length p0) := (bk_cell kk0 0).trans rfl
  have y1 : _ = some (Value.slice a1 k.b.length p1) := (bk_cell kk0 1).trans rfl
  have y2 : _ = some (Value.slice a2 k.c.length p2) := (bk_cell kk0 2).trans rfl
  have y3 : _ = some (Value.slice a3 k.d.length p3) := (bk_cell kk0 3).trans rfl
  have dn : decide ((65536 : Int) < (n : Int)) = false := decide_eq_false (by omega)
  have HK : Hid _ := hk.below kb0
  clear hk
  go_enter Tryz.func5, Tryz.ntmps5
  go_wp2_with fail
  go_at_call 18
  refine (kok_false _ k _ HK.out ho).mono ?_
  rintro e w1 ⟨rfl, b1⟩
  have kb1 := kb0.trans (b1.mono kb0.size)
  have kk1 := (b1.block w.heap.size (by have := (Array.getElem?_eq_some_iff.1 kk0).1; exact this)).trans kk0
  have k1 : hdB w1 (w.heap.size + 1) (.int .i64 0) (.int .i64 0) (.slice none 0 0) (.slice none 0 0) (.slice none 0 0) (.int .i64 0) (.int .i64 0) (.int .i64 0) := (b1.block (w.heap.size + 1) (by have := (Array.getElem?_eq_some_iff.1 k0).1; exact this)).trans k0
  clear b1 kb0 kk0 k0
  have ltE : w.heap.size + 1 < (w1).heap.size := (Array.getElem?_eq_some_iff.1 k1).1
  have kE : hdB ((w1).alloc (.cells #[] 5)) (w.heap.size + 1) (.int .i64 0) (.int .i64 0) (.slice none 0 0) (.slice none 0 0) (.slice none 0 0) (.int .i64 0) (.int .i64 0) (.int .i64 0) := (Below.heap_alloc _ _ _ ltE).trans k1
  have bE : Below w.heap.size w ((w1).alloc (.cells #[] 5)) := (kb1).alloc (kb1).size _
  have hE8 : (st8 ((w1).alloc (.cells #[] 5)) (w.heap.size + 1) (.int .i64 0) (.int .i64 0) (.slice none 0 0) (.slice none 0 0) (.slice none 0 0) (.int .i64 0) (.int .i64 0) (.int .i64 0)).heap[w.heap.size + 1]? = _ := st8_heap kE
  have oE : (st8 ((w1).alloc (.cells #[] 5)) (w.heap.size + 1) (.int .i64 0) (.int .i64 0) (.slice none 0 0) (.slice none 0 0) (.slice none 0 0) (.int .i64 0) (.int .i64 0) (.int .i64 0)).ownsRow w.heap.size 5 1 (.slice (some ⟨(w1).heap.size, 0, none⟩) 0 0) 0 [] := owns_mono (st8_owns (World.ownsRow_lit (w1) #[] 0 (Nat.le_refl _) (by decide) rfl) ltE) (by omega)
  have HQ : Hid _ := And.intro hE8 (And.intro (show Below w.heap.size w (st8 ((w1).alloc (.cells #[] 5)) (w.heap.size + 1) (.int .i64 0) (.int .i64 0) (.slice none 0 0) (.slice none 0 0) (.slice none 0 0) (.int .i64 0) (.int .i64 0) (.int .i64 0)) from st8_below bE (by omega)) oE)
  obtain ⟨zc0, zc1, zc2, zc3, zc4, zc5, zc6, zc7⟩ := hdB_cells kE
  obtain ⟨zf0, zf1, zf2, zf3, zf4, zf5, zf6, zf7⟩ := hdB_free kE
  clear ltE kE bE hE8 oE
  clear k1 kb1 kk1
  go_wp2_with fail
  refine bodyPost_ret (v := .tuple #[.agg #[.int .i64 0, .int .i64 0, .slice none 0 0, .slice none 0 0, .slice none 0 0, .int .i64 0, .int .i64 0, .int .i64 0], .slice (some ⟨(w1).heap.size, 0, none⟩) 0 0, .int .i64 1]) ?_ rfl ?_
  · exact results_row_tmp2 (t := 27) rfl _ _ (w.heap.size + 1) _ (fr := (0, 0)) _ _ _ rfl rfl rfl HQ.out.1 Tryz.underlying27 rfl infoHd
  · exact ⟨_, rfl, HQ.out.2.2, HQ.out.2.1⟩
set_option maxRecDepth 20000 in
set_option maxHeartbeats 400000 in
theorem opS_cid0 (a0 a1 a2 a3 ao : Option Addr) (p0 p1 p2 p3 n cap : Nat) (k : K4) (cl l : Int) (w : World) (h : n ≤ 65536) (hk : KRow w (.agg #[.slice a0 k.a.length p0, .slice a1 k.b.length p1, .slice a2 k.c.length p2, .slice a3 k.d.length p3]) k) (ho : kok k) (hc : cl < 0) :
    Calls Tryz.prog 5 #[.agg #[.slice a0 k.a.length p0, .slice a1 k.b.length p1, .slice a2 k.c.length p2, .slice a3 k.d.length p3], .slice ao n cap, .int .i64 cl, .int .i64 l] w fun e w' => OpErr 1 w e w' := by
  obtain ⟨kb0, kk0, k0⟩ := op_w0 (.cells #[.slice a0 k.a.length p0, .slice a1 k.b.length p1, .slice a2 k.c.length p2, .slice a3 k.d.length p3] 30) w
  have y0 : _ = some (Value.slice a0 k.a.length p0) := (bk_cell kk0 0).trans rfl
  have y1 : _ = some (Value.slice a1 k.b.length p1) := (bk_cell kk0 1).trans rfl
  have y2 : _ = some (Value.slice a2 k.c.length p2) := (bk_cell kk0 2).trans rfl
  have y3 : _ = some (Value.slice a3 k.d.length p3) := (bk_cell kk0 3).trans rfl
  have dn : decide ((65536 : Int) < (n : Int)) = false := decide_eq_false (by omega)
  have HK : Hid _ := hk.below kb0
  clear hk
  have g0 : decide (cl < 0) = true := decide_eq_true (by omega)
  go_enter Tryz.func5, Tryz.ntmps5
  go_wp2_with fail
  go_at_call 18
  refine (kok_true _ k _ HK.out ho).mono ?_
  rintro e w1 ⟨rfl, b1⟩
  have kb1 := kb0.trans (b1.mono kb0.size)
  have kk1 := (b1.block w.heap.size (by have := (Array.getElem?_eq_some_iff.1 kk0).1; exact this)).trans kk0
  have k1 : hdB w1 (w.heap.size + 1) (.int .i64 0) (.int .i64 0) (.slice none 0 0) (.slice none 0 0) (.slice none 0 0) (.int .i64 0) (.int .i64 0) (.int .i64 0) := (b1.block (w.heap.size + 1) (by have := (Array.getElem?_eq_some_iff.1 k0).1; exact this)).trans k0
  clear b1 kb0 kk0 k0
  have ltE : w.heap.size + 1 < (w1).heap.size := (Array.getElem?_eq_some_iff.1 k1).1
  have kE : hdB ((w1).alloc (.cells #[] 5)) (w.heap.size + 1) (.int .i64 0) (.int .i64 0) (.slice none 0 0) (.slice none 0 0) (.slice none 0 0) (.int .i64 0) (.int .i64 0) (.int .i64 0) := (Below.heap_alloc _ _ _ ltE).trans k1
  have bE : Below w.heap.size w ((w1).alloc (.cells #[] 5)) := (kb1).alloc (kb1).size _
  have hE8 : (st8 ((w1).alloc (.cells #[] 5)) (w.heap.size + 1) (.int .i64 0) (.int .i64 0) (.slice none 0 0) (.slice none 0 0) (.slice none 0 0) (.int .i64 0) (.int .i64 0) (.int .i64 0)).heap[w.heap.size + 1]? = _ := st8_heap kE
  have oE : (st8 ((w1).alloc (.cells #[] 5)) (w.heap.size + 1) (.int .i64 0) (.int .i64 0) (.slice none 0 0) (.slice none 0 0) (.slice none 0 0) (.int .i64 0) (.int .i64 0) (.int .i64 0)).ownsRow w.heap.size 5 1 (.slice (some ⟨(w1).heap.size, 0, none⟩) 0 0) 0 [] := owns_mono (st8_owns (World.ownsRow_lit (w1) #[] 0 (Nat.le_refl _) (by decide) rfl) ltE) (by omega)
  have HQ : Hid _ := And.intro hE8 (And.intro (show Below w.heap.size w (st8 ((w1).alloc (.cells #[] 5)) (w.heap.size + 1) (.int .i64 0) (.int .i64 0) (.slice none 0 0) (.slice none 0 0) (.slice none 0 0) (.int .i64 0) (.int .i64 0) (.int .i64 0)) from st8_below bE (by omega)) oE)
  obtain ⟨zc0, zc1, zc2, zc3, zc4, zc5, zc6, zc7⟩ := hdB_cells kE
  obtain ⟨zf0, zf1, zf2, zf3, zf4, zf5, zf6, zf7⟩ := hdB_free kE
  clear ltE kE bE hE8 oE
  clear k1 kb1 kk1
  go_wp2_with fail
  refine bodyPost_ret (v := .tuple #[.agg #[.int .i64 0, .int .i64 0, .slice none 0 0, .slice none 0 0, .slice none 0 0, .int .i64 0, .int .i64 0, .int .i64 0], .slice (some ⟨(w1).heap.size, 0, none⟩) 0 0, .int .i64 1]) ?_ rfl ?_
  · exact results_row_tmp2 (t := 27) rfl _ _ (w.heap.size + 1) _ (fr := (0, 0)) _ _ _ rfl rfl rfl HQ.out.1 Tryz.underlying27 rfl infoHd
  · exact ⟨_, rfl, HQ.out.2.2, HQ.out.2.1⟩
set_option maxRecDepth 20000 in
set_option maxHeartbeats 400000 in
theorem opS_cid1 (a0 a1 a2 a3 ao : Option Addr) (p0 p1 p2 p3 n cap : Nat) (k : K4) (cl l : Int) (w : World) (h : n ≤ 65536) (hk : KRow w (.agg #[.slice a0 k.a.length p0, .slice a1 k.b.length p1, .slice a2 k.c.length p2, .slice a3 k.d.length p3]) k) (ho : kok k) (hc : 8 < cl) :
    Calls Tryz.prog 5 #[.agg #[.slice a0 k.a.length p0, .slice a1 k.b.length p1, .slice a2 k.c.length p2, .slice a3 k.d.length p3], .slice ao n cap, .int .i64 cl, .int .i64 l] w fun e w' => OpErr 1 w e w' := by
  obtain ⟨kb0, kk0, k0⟩ := op_w0 (.cells #[.slice a0 k.a.length p0, .slice a1 k.b.length p1, .slice a2 k.c.length p2, .slice a3 k.d.length p3] 30) w
  have y0 : _ = some (Value.slice a0 k.a.length p0) := (bk_cell kk0 0).trans rfl
  have y1 : _ = some (Value.slice a1 k.b.length p1) := (bk_cell kk0 1).trans rfl
  have y2 : _ = some (Value.slice a2 k.c.length p2) := (bk_cell kk0 2).trans rfl
  have y3 : _ = some (Value.slice a3 k.d.length p3) := (bk_cell kk0 3).trans rfl
  have dn : decide ((65536 : Int) < (n : Int)) = false := decide_eq_false (by omega)
  have HK : Hid _ := hk.below kb0
  clear hk
  have g0 : decide (cl < 0) = false := decide_eq_false (by omega)
  have g1 : decide (8 < cl) = true := decide_eq_true (by omega)
  go_enter Tryz.func5, Tryz.ntmps5
  go_wp2_with fail
  go_at_call 18
  refine (kok_true _ k _ HK.out ho).mono ?_
  rintro e w1 ⟨rfl, b1⟩
  have kb1 := kb0.trans (b1.mono kb0.size)
  have kk1 := (b1.block w.heap.size (by have := (Array.getElem?_eq_some_iff.1 kk0).1; exact this)).trans kk0
  have k1 : hdB w1 (w.heap.size + 1) (.int .i64 0) (.int .i64 0) (.slice none 0 0) (.slice none 0 0) (.slice none 0 0) (.int .i64 0) (.int .i64 0) (.int .i64 0) := (b1.block (w.heap.size + 1) (by have := (Array.getElem?_eq_some_iff.1 k0).1; exact this)).trans k0
  clear b1 kb0 kk0 k0
  have ltE : w.heap.size + 1 < (w1).heap.size := (Array.getElem?_eq_some_iff.1 k1).1
  have kE : hdB ((w1).alloc (.cells #[] 5)) (w.heap.size + 1) (.int .i64 0) (.int .i64 0) (.slice none 0 0) (.slice none 0 0) (.slice none 0 0) (.int .i64 0) (.int .i64 0) (.int .i64 0) := (Below.heap_alloc _ _ _ ltE).trans k1
  have bE : Below w.heap.size w ((w1).alloc (.cells #[] 5)) := (kb1).alloc (kb1).size _
  have hE8 : (st8 ((w1).alloc (.cells #[] 5)) (w.heap.size + 1) (.int .i64 0) (.int .i64 0) (.slice none 0 0) (.slice none 0 0) (.slice none 0 0) (.int .i64 0) (.int .i64 0) (.int .i64 0)).heap[w.heap.size + 1]? = _ := st8_heap kE
  have oE : (st8 ((w1).alloc (.cells #[] 5)) (w.heap.size + 1) (.int .i64 0) (.int .i64 0) (.slice none 0 0) (.slice none 0 0) (.slice none 0 0) (.int .i64 0) (.int .i64 0) (.int .i64 0)).ownsRow w.heap.size 5 1 (.slice (some ⟨(w1).heap.size, 0, none⟩) 0 0) 0 [] := owns_mono (st8_owns (World.ownsRow_lit (w1) #[] 0 (Nat.le_refl _) (by decide) rfl) ltE) (by omega)
  have HQ : Hid _ := And.intro hE8 (And.intro (show Below w.heap.size w (st8 ((w1).alloc (.cells #[] 5)) (w.heap.size + 1) (.int .i64 0) (.int .i64 0) (.slice none 0 0) (.slice none 0 0) (.slice none 0 0) (.int .i64 0) (.int .i64 0) (.int .i64 0)) from st8_below bE (by omega)) oE)
  obtain ⟨zc0, zc1, zc2, zc3, zc4, zc5, zc6, zc7⟩ := hdB_cells kE
  obtain ⟨zf0, zf1, zf2, zf3, zf4, zf5, zf6, zf7⟩ := hdB_free kE
  clear ltE kE bE hE8 oE
  clear k1 kb1 kk1
  go_wp2_with fail
  refine bodyPost_ret (v := .tuple #[.agg #[.int .i64 0, .int .i64 0, .slice none 0 0, .slice none 0 0, .slice none 0 0, .int .i64 0, .int .i64 0, .int .i64 0], .slice (some ⟨(w1).heap.size, 0, none⟩) 0 0, .int .i64 1]) ?_ rfl ?_
  · exact results_row_tmp2 (t := 27) rfl _ _ (w.heap.size + 1) _ (fr := (0, 0)) _ _ _ rfl rfl rfl HQ.out.1 Tryz.underlying27 rfl infoHd
  · exact ⟨_, rfl, HQ.out.2.2, HQ.out.2.1⟩
set_option maxRecDepth 20000 in
set_option maxHeartbeats 400000 in
theorem opS_low (a0 a1 a2 a3 ao : Option Addr) (p0 p1 p2 p3 n cap : Nat) (k : K4) (cl l : Int) (w : World) (h : n ≤ 65536) (hk : KRow w (.agg #[.slice a0 k.a.length p0, .slice a1 k.b.length p1, .slice a2 k.c.length p2, .slice a3 k.d.length p3]) k) (ho : kok k) (hc : 0 ≤ cl ∧ cl ≤ 8) (hl : l < -1) :
    Calls Tryz.prog 5 #[.agg #[.slice a0 k.a.length p0, .slice a1 k.b.length p1, .slice a2 k.c.length p2, .slice a3 k.d.length p3], .slice ao n cap, .int .i64 cl, .int .i64 l] w fun e w' => OpErr 1 w e w' := by
  obtain ⟨kb0, kk0, k0⟩ := op_w0 (.cells #[.slice a0 k.a.length p0, .slice a1 k.b.length p1, .slice a2 k.c.length p2, .slice a3 k.d.length p3] 30) w
  have y0 : _ = some (Value.slice a0 k.a.length p0) := (bk_cell kk0 0).trans rfl
  have y1 : _ = some (Value.slice a1 k.b.length p1) := (bk_cell kk0 1).trans rfl
  have y2 : _ = some (Value.slice a2 k.c.length p2) := (bk_cell kk0 2).trans rfl
  have y3 : _ = some (Value.slice a3 k.d.length p3) := (bk_cell kk0 3).trans rfl
  have dn : decide ((65536 : Int) < (n : Int)) = false := decide_eq_false (by omega)
  have HK : Hid _ := hk.below kb0
  clear hk
  have g0 : decide (cl < 0) = false := decide_eq_false (by omega)
  have g1 : decide (8 < cl) = false := decide_eq_false (by omega)
  have g2 : decide (l < -1) = true := decide_eq_true (by omega)
  go_enter Tryz.func5, Tryz.ntmps5
  go_wp2_with fail
  go_at_call 18
  refine (kok_true _ k _ HK.out ho).mono ?_
  rintro e w1 ⟨rfl, b1⟩
  have kb1 := kb0.trans (b1.mono kb0.size)
  have kk1 := (b1.block w.heap.size (by have := (Array.getElem?_eq_some_iff.1 kk0).1; exact this)).trans kk0
  have k1 : hdB w1 (w.heap.size + 1) (.int .i64 0) (.int .i64 0) (.slice none 0 0) (.slice none 0 0) (.slice none 0 0) (.int .i64 0) (.int .i64 0) (.int .i64 0) := (b1.block (w.heap.size + 1) (by have := (Array.getElem?_eq_some_iff.1 k0).1; exact this)).trans k0
  clear b1 kb0 kk0 k0
  have ltE : w.heap.size + 1 < (w1).heap.size := (Array.getElem?_eq_some_iff.1 k1).1
  have kE : hdB ((w1).alloc (.cells #[] 5)) (w.heap.size + 1) (.int .i64 0) (.int .i64 0) (.slice none 0 0) (.slice none 0 0) (.slice none 0 0) (.int .i64 0) (.int .i64 0) (.int .i64 0) := (Below.heap_alloc _ _ _ ltE).trans k1
  have bE : Below w.heap.size w ((w1).alloc (.cells #[] 5)) := (kb1).alloc (kb1).size _
  have hE8 : (st8 ((w1).alloc (.cells #[] 5)) (w.heap.size + 1) (.int .i64 0) (.int .i64 0) (.slice none 0 0) (.slice none 0 0) (.slice none 0 0) (.int .i64 0) (.int .i64 0) (.int .i64 0)).heap[w.heap.size + 1]? = _ := st8_heap kE
  have oE : (st8 ((w1).alloc (.cells #[] 5)) (w.heap.size + 1) (.int .i64 0) (.int .i64 0) (.slice none 0 0) (.slice none 0 0) (.slice none 0 0) (.int .i64 0) (.int .i64 0) (.int .i64 0)).ownsRow w.heap.size 5 1 (.slice (some ⟨(w1).heap.size, 0, none⟩) 0 0) 0 [] := owns_mono (st8_owns (World.ownsRow_lit (w1) #[] 0 (Nat.le_refl _) (by decide) rfl) ltE) (by omega)
  have HQ : Hid _ := And.intro hE8 (And.intro (show Below w.heap.size w (st8 ((w1).alloc (.cells #[] 5)) (w.heap.size + 1) (.int .i64 0) (.int .i64 0) (.slice none 0 0) (.slice none 0 0) (.slice none 0 0) (.int .i64 0) (.int .i64 0) (.int .i64 0)) from st8_below bE (by omega)) oE)
  obtain ⟨zc0, zc1, zc2, zc3, zc4, zc5, zc6, zc7⟩ := hdB_cells kE
  obtain ⟨zf0, zf1, zf2, zf3, zf4, zf5, zf6, zf7⟩ := hdB_free kE
  clear ltE kE bE hE8 oE
  clear k1 kb1 kk1
  go_wp2_with fail
  refine bodyPost_ret (v := .tuple #[.agg #[.int .i64 0, .int .i64 0, .slice none 0 0, .slice none 0 0, .slice none 0 0, .int .i64 0, .int .i64 0, .int .i64 0], .slice (some ⟨(w1).heap.size, 0, none⟩) 0 0, .int .i64 1]) ?_ rfl ?_
  · exact results_row_tmp2 (t := 27) rfl _ _ (w.heap.size + 1) _ (fr := (0, 0)) _ _ _ rfl rfl rfl HQ.out.1 Tryz.underlying27 rfl infoHd
  · exact ⟨_, rfl, HQ.out.2.2, HQ.out.2.1⟩
set_option maxRecDepth 20000 in
set_option maxHeartbeats 400000 in
theorem opS_high (a0 a1 a2 a3 ao : Option Addr) (p0 p1 p2 p3 n cap : Nat) (k : K4) (cl l : Int) (w : World) (h : n ≤ 65536) (hk : KRow w (.agg #[.slice a0 k.a.length p0, .slice a1 k.b.length p1, .slice a2 k.c.length p2, .slice a3 k.d.length p3]) k) (ho : kok k) (hc : 0 ≤ cl ∧ cl ≤ 8) (hl : 4611686018427387903 < l) :
    Calls Tryz.prog 5 #[.agg #[.slice a0 k.a.length p0, .slice a1 k.b.length p1, .slice a2 k.c.length p2, .slice a3 k.d.length p3], .slice ao n cap, .int .i64 cl, .int .i64 l] w fun e w' => OpErr 1 w e w' := by
  obtain ⟨kb0, kk0, k0⟩ := op_w0 (.cells #[.slice a0 k.a.length p0, .slice a1 k.b.length p1, .slice a2 k.c.length p2, .slice a3 k.d.length p3] 30) w
  have y0 : _ = some (Value.slice a0 k.a.length p0) := (bk_cell kk0 0).trans rfl
  have y1 : _ = some (Value.slice a1 k.b.length p1) := (bk_cell kk0 1).trans rfl
  have y2 : _ = some (Value.slice a2 k.c.length p2) := (bk_cell kk0 2).trans rfl
  have y3 : _ = some (Value.slice a3 k.d.length p3) := (bk_cell kk0 3).trans rfl
  have dn : decide ((65536 : Int) < (n : Int)) = false := decide_eq_false (by omega)
  have HK : Hid _ := hk.below kb0
  clear hk
  have g0 : decide (cl < 0) = false := decide_eq_false (by omega)
  have g1 : decide (8 < cl) = false := decide_eq_false (by omega)
  have g2 : decide (l < -1) = false := decide_eq_false (by omega)
  have g3 : decide (4611686018427387903 < l) = true := decide_eq_true (by omega)
  go_enter Tryz.func5, Tryz.ntmps5
  go_wp2_with fail
  go_at_call 18
  refine (kok_true _ k _ HK.out ho).mono ?_
  rintro e w1 ⟨rfl, b1⟩
  have kb1 := kb0.trans (b1.mono kb0.size)
  have kk1 := (b1.block w.heap.size (by have := (Array.getElem?_eq_some_iff.1 kk0).1; exact this)).trans kk0
  have k1 : hdB w1 (w.heap.size + 1) (.int .i64 0) (.int .i64 0) (.slice none 0 0) (.slice none 0 0) (.slice none 0 0) (.int .i64 0) (.int .i64 0) (.int .i64 0) := (b1.block (w.heap.size + 1) (by have := (Array.getElem?_eq_some_iff.1 k0).1; exact this)).trans k0
  clear b1 kb0 kk0 k0
  have ltE : w.heap.size + 1 < (w1).heap.size := (Array.getElem?_eq_some_iff.1 k1).1
  have kE : hdB ((w1).alloc (.cells #[] 5)) (w.heap.size + 1) (.int .i64 0) (.int .i64 0) (.slice none 0 0) (.slice none 0 0) (.slice none 0 0) (.int .i64 0) (.int .i64 0) (.int .i64 0) := (Below.heap_alloc _ _ _ ltE).trans k1
  have bE : Below w.heap.size w ((w1).alloc (.cells #[] 5)) := (kb1).alloc (kb1).size _
  have hE8 : (st8 ((w1).alloc (.cells #[] 5)) (w.heap.size + 1) (.int .i64 0) (.int .i64 0) (.slice none 0 0) (.slice none 0 0) (.slice none 0 0) (.int .i64 0) (.int .i64 0) (.int .i64 0)).heap[w.heap.size + 1]? = _ := st8_heap kE
  have oE : (st8 ((w1).alloc (.cells #[] 5)) (w.heap.size + 1) (.int .i64 0) (.int .i64 0) (.slice none 0 0) (.slice none 0 0) (.slice none 0 0) (.int .i64 0) (.int .i64 0) (.int .i64 0)).ownsRow w.heap.size 5 1 (.slice (some ⟨(w1).heap.size, 0, none⟩) 0 0) 0 [] := owns_mono (st8_owns (World.ownsRow_lit (w1) #[] 0 (Nat.le_refl _) (by decide) rfl) ltE) (by omega)
  have HQ : Hid _ := And.intro hE8 (And.intro (show Below w.heap.size w (st8 ((w1).alloc (.cells #[] 5)) (w.heap.size + 1) (.int .i64 0) (.int .i64 0) (.slice none 0 0) (.slice none 0 0) (.slice none 0 0) (.int .i64 0) (.int .i64 0) (.int .i64 0)) from st8_below bE (by omega)) oE)
  obtain ⟨zc0, zc1, zc2, zc3, zc4, zc5, zc6, zc7⟩ := hdB_cells kE
  obtain ⟨zf0, zf1, zf2, zf3, zf4, zf5, zf6, zf7⟩ := hdB_free kE
  clear ltE kE bE hE8 oE
  clear k1 kb1 kk1
  go_wp2_with fail
  refine bodyPost_ret (v := .tuple #[.agg #[.int .i64 0, .int .i64 0, .slice none 0 0, .slice none 0 0, .slice none 0 0, .int .i64 0, .int .i64 0, .int .i64 0], .slice (some ⟨(w1).heap.size, 0, none⟩) 0 0, .int .i64 1]) ?_ rfl ?_
  · exact results_row_tmp2 (t := 27) rfl _ _ (w.heap.size + 1) _ (fr := (0, 0)) _ _ _ rfl rfl rfl HQ.out.1 Tryz.underlying27 rfl infoHd
  · exact ⟨_, rfl, HQ.out.2.2, HQ.out.2.1⟩
set_option maxRecDepth 20000 in
set_option maxHeartbeats 400000 in
theorem opS_bad (a0 a1 a2 a3 ao : Option Addr) (p0 p1 p2 p3 n cap : Nat) (k : K4) (cl l : Int) (w : World) (xs : List Int) (c : Int) (h : n ≤ 65536) (hk : KRow w (.agg #[.slice a0 k.a.length p0, .slice a1 k.b.length p1, .slice a2 k.c.length p2, .slice a3 k.d.length p3]) k) (ho : kok k) (hc : 0 ≤ cl ∧ cl ≤ 8) (hl0 : -1 ≤ l) (hl1 : l ≤ 4611686018427387903) (hlie : n = 0 ∨ ∃ b off, ao = some ⟨b, off, none⟩ ∧ Lies w b off n cap xs) (hlen : xs.length = n) (hB : Bytes xs) (hp : pk xs cl = .error c) :
    Calls Tryz.prog 5 #[.agg #[.slice a0 k.a.length p0, .slice a1 k.b.length p1, .slice a2 k.c.length p2, .slice a3 k.d.length p3], .slice ao n cap, .int .i64 cl, .int .i64 l] w fun e w' => OpErr c w e w' := by
  obtain ⟨kb0, kk0, k0⟩ := op_w0 (.cells #[.slice a0 k.a.length p0, .slice a1 k.b.length p1, .slice a2 k.c.length p2, .slice a3 k.d.length p3] 30) w
  have y0 : _ = some (Value.slice a0 k.a.length p0) := (bk_cell kk0 0).trans rfl
  have y1 : _ = some (Value.slice a1 k.b.length p1) := (bk_cell kk0 1).trans rfl
  have y2 : _ = some (Value.slice a2 k.c.length p2) := (bk_cell kk0 2).trans rfl
  have y3 : _ = some (Value.slice a3 k.d.length p3) := (bk_cell kk0 3).trans rfl
  have dn : decide ((65536 : Int) < (n : Int)) = false := decide_eq_false (by omega)
  have HK : Hid _ := hk.below kb0
  clear hk
  have d0 : (c != 0) = true := by have := pk_err hp; simp [this]
  have g0 : decide (cl < 0) = false := decide_eq_false (by omega)
  have g1 : decide (8 < cl) = false := decide_eq_false (by omega)
  have g2 : decide (l < -1) = false := decide_eq_false (by omega)
  have g3 : decide (4611686018427387903 < l) = false := decide_eq_false (by omega)
  obtain ⟨m, em⟩ : ∃ m : Nat, cl = (m : Int) := ⟨cl.toNat, by omega⟩
  subst em
  have hm8 : m ≤ 8 := by omega
  have HX : Hid _ := And.intro hlie (And.intro hlen (And.intro hB (And.intro hp (And.intro hl0 hl1))))
  clear hlie hB hp hc hl0 hl1
  go_enter Tryz.func5, Tryz.ntmps5
  go_wp2_with fail
  go_at_call 18
  refine (kok_true _ k _ HK.out ho).mono ?_
  rintro e w1 ⟨rfl, b1⟩
  have kb1 := kb0.trans (b1.mono kb0.size)
  have kk1 := (b1.block w.heap.size (by have := (Array.getElem?_eq_some_iff.1 kk0).1; exact this)).trans kk0
  have k1 : hdB w1 (w.heap.size + 1) (.int .i64 0) (.int .i64 0) (.slice none 0 0) (.slice none 0 0) (.slice none 0 0) (.int .i64 0) (.int .i64 0) (.int .i64 0) := (b1.block (w.heap.size + 1) (by have := (Array.getElem?_eq_some_iff.1 k0).1; exact this)).trans k0
  clear b1 kb0 kk0 k0
  have lie1 : n = 0 ∨ ∃ b off, ao = some ⟨b, off, none⟩ ∧ Lies w1 b off n cap xs := HX.out.1.imp id (fun ⟨b, off, h1, h2⟩ => ⟨b, off, h1, h2.below kb1⟩)
  have Q1 : Hid _ := And.intro k1 (And.intro kk1 kb1)
  clear k1 kk1 kb1
  go_wp2_with fail
  go_at_call 19
  refine (peekS ao n cap m xs _ lie1 HX.out.2.1 HX.out.2.2.1 h hm8).mono ?_
  rintro e w2 ⟨b2, ⟨c', hc', rfl⟩ | ⟨K, vd, vs, vt, hc', _⟩⟩
  rotate_left
  · have h2 := HX.out.2.2.2.1.symm.trans hc'; cases h2
  obtain rfl : c' = c := by have h2 := hc'.symm.trans HX.out.2.2.2.1; cases h2; rfl
  have k2 : hdB (w2.alloc hd0) (w.heap.size + 1) (.int .i64 0) (.int .i64 0) (.slice none 0 0) (.slice none 0 0) (.slice none 0 0) (.int .i64 0) (.int .i64 0) (.int .i64 0) := by
    have e1 := (b2.block (w.heap.size + 1) ((Array.getElem?_eq_some_iff.1 Q1.out.1).1)).trans Q1.out.1
    exact (Below.heap_alloc _ _ _ ((Array.getElem?_eq_some_iff.1 e1).1)).trans e1
  have kb2 : Below w.heap.size w (w2.alloc hd0) := by
    have h1 := Q1.out.2.2.trans (b2.mono Q1.out.2.2.size)
    exact h1.alloc h1.size _
  have sz : (w2.alloc hd0).heap.size = w2.heap.size + 1 := by simp
  have ltE : w.heap.size + 1 < (w2.alloc hd0).heap.size := (Array.getElem?_eq_some_iff.1 k2).1
  have kE : hdB ((w2.alloc hd0).alloc (.cells #[] 5)) (w.heap.size + 1) (.int .i64 0) (.int .i64 0) (.slice none 0 0) (.slice none 0 0) (.slice none 0 0) (.int .i64 0) (.int .i64 0) (.int .i64 0) := (Below.heap_alloc _ _ _ ltE).trans k2
  have bE : Below w.heap.size w ((w2.alloc hd0).alloc (.cells #[] 5)) := (kb2).alloc (kb2).size _
  have hE8 : (st8 ((w2.alloc hd0).alloc (.cells #[] 5)) (w.heap.size + 1) (.int .i64 0) (.int .i64 0) (.slice none 0 0) (.slice none 0 0) (.slice none 0 0) (.int .i64 0) (.int .i64 0) (.int .i64 0)).heap[w.heap.size + 1]? = _ := st8_heap kE
  have oE : (st8 ((w2.alloc hd0).alloc (.cells #[] 5)) (w.heap.size + 1) (.int .i64 0) (.int .i64 0) (.slice none 0 0) (.slice none 0 0) (.slice none 0 0) (.int .i64 0) (.int .i64 0) (.int .i64 0)).ownsRow w.heap.size 5 1 (.slice (some ⟨(w2.alloc hd0).heap.size, 0, none⟩) 0 0) 0 [] := owns_mono (st8_owns (World.ownsRow_lit (w2.alloc hd0) #[] 0 (Nat.le_refl _) (by decide) rfl) ltE) (by omega)
  have HQ : Hid _ := And.intro hE8 (And.intro (show Below w.heap.size w (st8 ((w2.alloc hd0).alloc (.cells #[] 5)) (w.heap.size + 1) (.int .i64 0) (.int .i64 0) (.slice none 0 0) (.slice none 0 0) (.slice none 0 0) (.int .i64 0) (.int .i64 0) (.int .i64 0)) from st8_below bE (by omega)) oE)
  obtain ⟨zc0, zc1, zc2, zc3, zc4, zc5, zc6, zc7⟩ := hdB_cells kE
  obtain ⟨zf0, zf1, zf2, zf3, zf4, zf5, zf6, zf7⟩ := hdB_free kE
  clear ltE kE bE hE8 oE
  rw [sz] at HQ
  clear k2 kb2 b2 lie1 hc'
  go_wp2_with fail
  refine bodyPost_ret (v := .tuple #[.agg #[.int .i64 0, .int .i64 0, .slice none 0 0, .slice none 0 0, .slice none 0 0, .int .i64 0, .int .i64 0, .int .i64 0], .slice (some ⟨w2.heap.size + 1, 0, none⟩) 0 0, .int .i64 c']) ?_ rfl ?_
  · exact results_row_tmp2 (t := 27) rfl _ _ (w.heap.size + 1) _ (fr := (0, 0)) _ _ _ rfl rfl rfl HQ.out.1 Tryz.underlying27 rfl infoHd
  · exact ⟨_, rfl, HQ.out.2.2, HQ.out.2.1⟩
set_option maxRecDepth 20000 in
set_option maxHeartbeats 400000 in
theorem opS_retry (a0 a1 a2 a3 ao : Option Addr) (p0 p1 p2 p3 n cap : Nat) (k : K4) (cl l : Int) (w : World) (xs : List Int) (v : Int) (d s t vers : List Int) (na fin : Nat) (h : n ≤ 65536) (hk : KRow w (.agg #[.slice a0 k.a.length p0, .slice a1 k.b.length p1, .slice a2 k.c.length p2, .slice a3 k.d.length p3]) k) (ho : kok k) (hc : 0 ≤ cl ∧ cl ≤ 8) (hl0 : -1 ≤ l) (hl1 : l ≤ 4611686018427387903) (hlie : n = 0 ∨ ∃ b off, ao = some ⟨b, off, none⟩ ∧ Lies w b off n cap xs) (hlen : xs.length = n) (hB : Bytes xs) (hp : pk xs cl = .ok ⟨3, v, d, s, t, vers, na, fin⟩) :
    Calls Tryz.prog 5 #[.agg #[.slice a0 k.a.length p0, .slice a1 k.b.length p1, .slice a2 k.c.length p2, .slice a3 k.d.length p3], .slice ao n cap, .int .i64 cl, .int .i64 l] w fun e w' => OpErr 3 w e w' := by
  obtain ⟨kb0, kk0, k0⟩ := op_w0 (.cells #[.slice a0 k.a.length p0, .slice a1 k.b.length p1, .slice a2 k.c.length p2, .slice a3 k.d.length p3] 30) w
  have y0 : _ = some (Value.slice a0 k.a.length p0) := (bk_cell kk0 0).trans rfl
  have y1 : _ = some (Value.slice a1 k.b.length p1) := (bk_cell kk0 1).trans rfl
  have y2 : _ = some (Value.slice a2 k.c.length p2) := (bk_cell kk0 2).trans rfl
  have y3 : _ = some (Value.slice a3 k.d.length p3) := (bk_cell kk0 3).trans rfl
  have dn : decide ((65536 : Int) < (n : Int)) = false := decide_eq_false (by omega)
  have HK : Hid _ := hk.below kb0
  clear hk
  have g0 : decide (cl < 0) = false := decide_eq_false (by omega)
  have g1 : decide (8 < cl) = false := decide_eq_false (by omega)
  have g2 : decide (l < -1) = false := decide_eq_false (by omega)
  have g3 : decide (4611686018427387903 < l) = false := decide_eq_false (by omega)
  obtain ⟨m, em⟩ : ∃ m : Nat, cl = (m : Int) := ⟨cl.toNat, by omega⟩
  subst em
  have hm8 : m ≤ 8 := by omega
  have HX : Hid _ := And.intro hlie (And.intro hlen (And.intro hB (And.intro hp (And.intro hl0 hl1))))
  clear hlie hB hp hc hl0 hl1
  go_enter Tryz.func5, Tryz.ntmps5
  go_wp2_with fail
  go_at_call 18
  refine (kok_true _ k _ HK.out ho).mono ?_
  rintro e w1 ⟨rfl, b1⟩
  have kb1 := kb0.trans (b1.mono kb0.size)
  have kk1 := (b1.block w.heap.size (by have := (Array.getElem?_eq_some_iff.1 kk0).1; exact this)).trans kk0
  have k1 : hdB w1 (w.heap.size + 1) (.int .i64 0) (.int .i64 0) (.slice none 0 0) (.slice none 0 0) (.slice none 0 0) (.int .i64 0) (.int .i64 0) (.int .i64 0) := (b1.block (w.heap.size + 1) (by have := (Array.getElem?_eq_some_iff.1 k0).1; exact this)).trans k0
  clear b1 kb0 kk0 k0
  have lie1 : n = 0 ∨ ∃ b off, ao = some ⟨b, off, none⟩ ∧ Lies w1 b off n cap xs := HX.out.1.imp id (fun ⟨b, off, h1, h2⟩ => ⟨b, off, h1, h2.below kb1⟩)
  have Q1 : Hid _ := And.intro k1 (And.intro kk1 kb1)
  clear k1 kk1 kb1
  go_wp2_with fail
  go_at_call 19
  refine (peekS ao n cap m xs _ lie1 HX.out.2.1 HX.out.2.2.1 h hm8).mono ?_
  rintro e w2 ⟨b2, ⟨c', hc', _⟩ | ⟨K, vd, vs, vt, hc', rfl, q2⟩⟩
  · have h2 := HX.out.2.2.2.1.symm.trans hc'; cases h2
  obtain rfl : K = ⟨3, v, d, s, t, vers, na, fin⟩ := by have h2 := hc'.symm.trans HX.out.2.2.2.1; cases h2; rfl
  simp only at q2 ⊢
  obtain ⟨da, dp, ed⟩ := (row_of_owns q2.o0).form
  obtain ⟨sa, sp, es⟩ := (row_of_owns q2.o1).form
  obtain ⟨ta, tp, et⟩ := (row_of_owns q2.o2).form
  subst ed es et
  simp only at q2 ⊢
  have k2 : hdB (w2.alloc (.cells #[.int .i64 3, .int .i64 v, .slice da d.length dp, .slice sa s.length sp, .slice ta t.length tp, .int .i64 0, .int .i64 0, .int .i64 0] 27)) (w.heap.size + 1) (.int .i64 0) (.int .i64 0) (.slice none 0 0) (.slice none 0 0) (.slice none 0 0) (.int .i64 0) (.int .i64 0) (.int .i64 0) := by
    have e1 := (b2.block (w.heap.size + 1) ((Array.getElem?_eq_some_iff.1 Q1.out.1).1)).trans Q1.out.1
    exact (Below.heap_alloc _ _ _ ((Array.getElem?_eq_some_iff.1 e1).1)).trans e1
  have kb2 : Below w.heap.size w (w2.alloc (.cells #[.int .i64 3, .int .i64 v, .slice da d.length dp, .slice sa s.length sp, .slice ta t.length tp, .int .i64 0, .int .i64 0, .int .i64 0] 27)) := by
    have h1 := Q1.out.2.2.trans (b2.mono Q1.out.2.2.size)
    exact h1.alloc h1.size _
  have sz : (w2.alloc (.cells #[.int .i64 3, .int .i64 v, .slice da d.length dp, .slice sa s.length sp, .slice ta t.length tp, .int .i64 0, .int .i64 0, .int .i64 0] 27)).heap.size = w2.heap.size + 1 := by simp
  have ltE : w.heap.size + 1 < (w2.alloc (.cells #[.int .i64 3, .int .i64 v, .slice da d.length dp, .slice sa s.length sp, .slice ta t.length tp, .int .i64 0, .int .i64 0, .int .i64 0] 27)).heap.size := (Array.getElem?_eq_some_iff.1 k2).1
  have kE : hdB ((w2.alloc (.cells #[.int .i64 3, .int .i64 v, .slice da d.length dp, .slice sa s.length sp, .slice ta t.length tp, .int .i64 0, .int .i64 0, .int .i64 0] 27)).alloc (.cells #[] 5)) (w.heap.size + 1) (.int .i64 0) (.int .i64 0) (.slice none 0 0) (.slice none 0 0) (.slice none 0 0) (.int .i64 0) (.int .i64 0) (.int .i64 0) := (Below.heap_alloc _ _ _ ltE).trans k2
  have bE : Below w.heap.size w ((w2.alloc (.cells #[.int .i64 3, .int .i64 v, .slice da d.length dp, .slice sa s.length sp, .slice ta t.length tp, .int .i64 0, .int .i64 0, .int .i64 0] 27)).alloc (.cells #[] 5)) := (kb2).alloc (kb2).size _
  have hE8 : (st8 ((w2.alloc (.cells #[.int .i64 3, .int .i64 v, .slice da d.length dp, .slice sa s.length sp, .slice ta t.length tp, .int .i64 0, .int .i64 0, .int .i64 0] 27)).alloc (.cells #[] 5)) (w.heap.size + 1) (.int .i64 0) (.int .i64 0) (.slice none 0 0) (.slice none 0 0) (.slice none 0 0) (.int .i64 0) (.int .i64 0) (.int .i64 0)).heap[w.heap.size + 1]? = _ := st8_heap kE
  have oE : (st8 ((w2.alloc (.cells #[.int .i64 3, .int .i64 v, .slice da d.length dp, .slice sa s.length sp, .slice ta t.length tp, .int .i64 0, .int .i64 0, .int .i64 0] 27)).alloc (.cells #[] 5)) (w.heap.size + 1) (.int .i64 0) (.int .i64 0) (.slice none 0 0) (.slice none 0 0) (.slice none 0 0) (.int .i64 0) (.int .i64 0) (.int .i64 0)).ownsRow w.heap.size 5 1 (.slice (some ⟨(w2.alloc (.cells #[.int .i64 3, .int .i64 v, .slice da d.length dp, .slice sa s.length sp, .slice ta t.length tp, .int .i64 0, .int .i64 0, .int .i64 0] 27)).heap.size, 0, none⟩) 0 0) 0 [] := owns_mono (st8_owns (World.ownsRow_lit (w2.alloc (.cells #[.int .i64 3, .int .i64 v, .slice da d.length dp, .slice sa s.length sp, .slice ta t.length tp, .int .i64 0, .int .i64 0, .int .i64 0] 27)) #[] 0 (Nat.le_refl _) (by decide) rfl) ltE) (by omega)
  have HQ : Hid _ := And.intro hE8 (And.intro (show Below w.heap.size w (st8 ((w2.alloc (.cells #[.int .i64 3, .int .i64 v, .slice da d.length dp, .slice sa s.length sp, .slice ta t.length tp, .int .i64 0, .int .i64 0, .int .i64 0] 27)).alloc (.cells #[] 5)) (w.heap.size + 1) (.int .i64 0) (.int .i64 0) (.slice none 0 0) (.slice none 0 0) (.slice none 0 0) (.int .i64 0) (.int .i64 0) (.int .i64 0)) from st8_below bE (by omega)) oE)
  obtain ⟨zc0, zc1, zc2, zc3, zc4, zc5, zc6, zc7⟩ := hdB_cells kE
  obtain ⟨zf0, zf1, zf2, zf3, zf4, zf5, zf6, zf7⟩ := hdB_free kE
  clear ltE kE bE hE8 oE
  rw [sz] at HQ
  clear k2 kb2 b2 lie1 hc' q2
  go_wp2_with fail
  refine bodyPost_ret (v := .tuple #[.agg #[.int .i64 0, .int .i64 0, .slice none 0 0, .slice none 0 0, .slice none 0 0, .int .i64 0, .int .i64 0, .int .i64 0], .slice (some ⟨w2.heap.size + 1, 0, none⟩) 0 0, .int .i64 3]) ?_ rfl ?_
  · exact results_row_tmp2 (t := 27) rfl _ _ (w.heap.size + 1) _ (fr := (0, 0)) _ _ _ rfl rfl rfl HQ.out.1 Tryz.underlying27 rfl infoHd
  · exact ⟨_, rfl, HQ.out.2.2, HQ.out.2.1⟩
set_option maxRecDepth 20000 in
set_option maxHeartbeats 400000 in
theorem opS_vers (a0 a1 a2 a3 ao : Option Addr) (p0 p1 p2 p3 n cap : Nat) (k : K4) (cl l : Int) (w : World) (xs : List Int) (v : Int) (d s t vers : List Int) (na fin : Nat) (h : n ≤ 65536) (hk : KRow w (.agg #[.slice a0 k.a.length p0, .slice a1 k.b.length p1, .slice a2 k.c.length p2, .slice a3 k.d.length p3]) k) (ho : kok k) (hc : 0 ≤ cl ∧ cl ≤ 8) (hl0 : -1 ≤ l) (hl1 : l ≤ 4611686018427387903) (hlie : n = 0 ∨ ∃ b off, ao = some ⟨b, off, none⟩ ∧ Lies w b off n cap xs) (hlen : xs.length = n) (hB : Bytes xs) (hp : pk xs cl = .ok ⟨5, v, d, s, t, vers, na, fin⟩) :
    Calls Tryz.prog 5 #[.agg #[.slice a0 k.a.length p0, .slice a1 k.b.length p1, .slice a2 k.c.length p2, .slice a3 k.d.length p3], .slice ao n cap, .int .i64 cl, .int .i64 l] w fun e w' => OpErr 3 w e w' := by
  obtain ⟨kb0, kk0, k0⟩ := op_w0 (.cells #[.slice a0 k.a.length p0, .slice a1 k.b.length p1, .slice a2 k.c.length p2, .slice a3 k.d.length p3] 30) w
  have y0 : _ = some (Value.slice a0 k.a.length p0) := (bk_cell kk0 0).trans rfl
  have y1 : _ = some (Value.slice a1 k.b.length p1) := (bk_cell kk0 1).trans rfl
  have y2 : _ = some (Value.slice a2 k.c.length p2) := (bk_cell kk0 2).trans rfl
  have y3 : _ = some (Value.slice a3 k.d.length p3) := (bk_cell kk0 3).trans rfl
  have dn : decide ((65536 : Int) < (n : Int)) = false := decide_eq_false (by omega)
  have HK : Hid _ := hk.below kb0
  clear hk
  have g0 : decide (cl < 0) = false := decide_eq_false (by omega)
  have g1 : decide (8 < cl) = false := decide_eq_false (by omega)
  have g2 : decide (l < -1) = false := decide_eq_false (by omega)
  have g3 : decide (4611686018427387903 < l) = false := decide_eq_false (by omega)
  obtain ⟨m, em⟩ : ∃ m : Nat, cl = (m : Int) := ⟨cl.toNat, by omega⟩
  subst em
  have hm8 : m ≤ 8 := by omega
  have HX : Hid _ := And.intro hlie (And.intro hlen (And.intro hB (And.intro hp (And.intro hl0 hl1))))
  clear hlie hB hp hc hl0 hl1
  go_enter Tryz.func5, Tryz.ntmps5
  go_wp2_with fail
  go_at_call 18
  refine (kok_true _ k _ HK.out ho).mono ?_
  rintro e w1 ⟨rfl, b1⟩
  have kb1 := kb0.trans (b1.mono kb0.size)
  have kk1 := (b1.block w.heap.size (by have := (Array.getElem?_eq_some_iff.1 kk0).1; exact this)).trans kk0
  have k1 : hdB w1 (w.heap.size + 1) (.int .i64 0) (.int .i64 0) (.slice none 0 0) (.slice none 0 0) (.slice none 0 0) (.int .i64 0) (.int .i64 0) (.int .i64 0) := (b1.block (w.heap.size + 1) (by have := (Array.getElem?_eq_some_iff.1 k0).1; exact this)).trans k0
  clear b1 kb0 kk0 k0
  have lie1 : n = 0 ∨ ∃ b off, ao = some ⟨b, off, none⟩ ∧ Lies w1 b off n cap xs := HX.out.1.imp id (fun ⟨b, off, h1, h2⟩ => ⟨b, off, h1, h2.below kb1⟩)
  have Q1 : Hid _ := And.intro k1 (And.intro kk1 kb1)
  clear k1 kk1 kb1
  go_wp2_with fail
  go_at_call 19
  refine (peekS ao n cap m xs _ lie1 HX.out.2.1 HX.out.2.2.1 h hm8).mono ?_
  rintro e w2 ⟨b2, ⟨c', hc', _⟩ | ⟨K, vd, vs, vt, hc', rfl, q2⟩⟩
  · have h2 := HX.out.2.2.2.1.symm.trans hc'; cases h2
  obtain rfl : K = ⟨5, v, d, s, t, vers, na, fin⟩ := by have h2 := hc'.symm.trans HX.out.2.2.2.1; cases h2; rfl
  simp only at q2 ⊢
  obtain ⟨da, dp, ed⟩ := (row_of_owns q2.o0).form
  obtain ⟨sa, sp, es⟩ := (row_of_owns q2.o1).form
  obtain ⟨ta, tp, et⟩ := (row_of_owns q2.o2).form
  subst ed es et
  simp only at q2 ⊢
  have k2 : hdB (w2.alloc (.cells #[.int .i64 5, .int .i64 v, .slice da d.length dp, .slice sa s.length sp, .slice ta t.length tp, .int .i64 0, .int .i64 0, .int .i64 0] 27)) (w.heap.size + 1) (.int .i64 0) (.int .i64 0) (.slice none 0 0) (.slice none 0 0) (.slice none 0 0) (.int .i64 0) (.int .i64 0) (.int .i64 0) := by
    have e1 := (b2.block (w.heap.size + 1) ((Array.getElem?_eq_some_iff.1 Q1.out.1).1)).trans Q1.out.1
    exact (Below.heap_alloc _ _ _ ((Array.getElem?_eq_some_iff.1 e1).1)).trans e1
  have kb2 : Below w.heap.size w (w2.alloc (.cells #[.int .i64 5, .int .i64 v, .slice da d.length dp, .slice sa s.length sp, .slice ta t.length tp, .int .i64 0, .int .i64 0, .int .i64 0] 27)) := by
    have h1 := Q1.out.2.2.trans (b2.mono Q1.out.2.2.size)
    exact h1.alloc h1.size _
  have sz : (w2.alloc (.cells #[.int .i64 5, .int .i64 v, .slice da d.length dp, .slice sa s.length sp, .slice ta t.length tp, .int .i64 0, .int .i64 0, .int .i64 0] 27)).heap.size = w2.heap.size + 1 := by simp
  have ltE : w.heap.size + 1 < (w2.alloc (.cells #[.int .i64 5, .int .i64 v, .slice da d.length dp, .slice sa s.length sp, .slice ta t.length tp, .int .i64 0, .int .i64 0, .int .i64 0] 27)).heap.size := (Array.getElem?_eq_some_iff.1 k2).1
  have kE : hdB ((w2.alloc (.cells #[.int .i64 5, .int .i64 v, .slice da d.length dp, .slice sa s.length sp, .slice ta t.length tp, .int .i64 0, .int .i64 0, .int .i64 0] 27)).alloc (.cells #[] 5)) (w.heap.size + 1) (.int .i64 0) (.int .i64 0) (.slice none 0 0) (.slice none 0 0) (.slice none 0 0) (.int .i64 0) (.int .i64 0) (.int .i64 0) := (Below.heap_alloc _ _ _ ltE).trans k2
  have bE : Below w.heap.size w ((w2.alloc (.cells #[.int .i64 5, .int .i64 v, .slice da d.length dp, .slice sa s.length sp, .slice ta t.length tp, .int .i64 0, .int .i64 0, .int .i64 0] 27)).alloc (.cells #[] 5)) := (kb2).alloc (kb2).size _
  have hE8 : (st8 ((w2.alloc (.cells #[.int .i64 5, .int .i64 v, .slice da d.length dp, .slice sa s.length sp, .slice ta t.length tp, .int .i64 0, .int .i64 0, .int .i64 0] 27)).alloc (.cells #[] 5)) (w.heap.size + 1) (.int .i64 0) (.int .i64 0) (.slice none 0 0) (.slice none 0 0) (.slice none 0 0) (.int .i64 0) (.int .i64 0) (.int .i64 0)).heap[w.heap.size + 1]? = _ := st8_heap kE
  have oE : (st8 ((w2.alloc (.cells #[.int .i64 5, .int .i64 v, .slice da d.length dp, .slice sa s.length sp, .slice ta t.length tp, .int .i64 0, .int .i64 0, .int .i64 0] 27)).alloc (.cells #[] 5)) (w.heap.size + 1) (.int .i64 0) (.int .i64 0) (.slice none 0 0) (.slice none 0 0) (.slice none 0 0) (.int .i64 0) (.int .i64 0) (.int .i64 0)).ownsRow w.heap.size 5 1 (.slice (some ⟨(w2.alloc (.cells #[.int .i64 5, .int .i64 v, .slice da d.length dp, .slice sa s.length sp, .slice ta t.length tp, .int .i64 0, .int .i64 0, .int .i64 0] 27)).heap.size, 0, none⟩) 0 0) 0 [] := owns_mono (st8_owns (World.ownsRow_lit (w2.alloc (.cells #[.int .i64 5, .int .i64 v, .slice da d.length dp, .slice sa s.length sp, .slice ta t.length tp, .int .i64 0, .int .i64 0, .int .i64 0] 27)) #[] 0 (Nat.le_refl _) (by decide) rfl) ltE) (by omega)
  have HQ : Hid _ := And.intro hE8 (And.intro (show Below w.heap.size w (st8 ((w2.alloc (.cells #[.int .i64 5, .int .i64 v, .slice da d.length dp, .slice sa s.length sp, .slice ta t.length tp, .int .i64 0, .int .i64 0, .int .i64 0] 27)).alloc (.cells #[] 5)) (w.heap.size + 1) (.int .i64 0) (.int .i64 0) (.slice none 0 0) (.slice none 0 0) (.slice none 0 0) (.int .i64 0) (.int .i64 0) (.int .i64 0)) from st8_below bE (by omega)) oE)
  obtain ⟨zc0, zc1, zc2, zc3, zc4, zc5, zc6, zc7⟩ := hdB_cells kE
  obtain ⟨zf0, zf1, zf2, zf3, zf4, zf5, zf6, zf7⟩ := hdB_free kE
  clear ltE kE bE hE8 oE
  rw [sz] at HQ
  clear k2 kb2 b2 lie1 hc' q2
  go_wp2_with fail
  refine bodyPost_ret (v := .tuple #[.agg #[.int .i64 0, .int .i64 0, .slice none 0 0, .slice none 0 0, .slice none 0 0, .int .i64 0, .int .i64 0, .int .i64 0], .slice (some ⟨w2.heap.size + 1, 0, none⟩) 0 0, .int .i64 3]) ?_ rfl ?_
  · exact results_row_tmp2 (t := 27) rfl _ _ (w.heap.size + 1) _ (fr := (0, 0)) _ _ _ rfl rfl rfl HQ.out.1 Tryz.underlying27 rfl infoHd
  · exact ⟨_, rfl, HQ.out.2.2, HQ.out.2.1⟩
end Go.Proofs.YthokfbgpoffafaaGreatDoor

namespace Go.Proofs.YthokfbgpoffafaaGreatDoor
open Go.RowKit
set_option linter.unusedVariables false

theorem osSp (v : Value) (ah : Option Addr) (nh ph b off nx pb : Nat) (k : K4) (num : Int) (hd xs : List Int) (w : World) (hk : KRow w v k) (kb : k.bytes) (ho : kok k) (h0 : 0 ≤ num) (h1 : num ≤ 4611686018427387903)
    (eh : hd.length = nh) (ex : xs.length = nx) (hm : nh ≤ 65536) (hx8 : 8 ≤ nx) (hxm : nx ≤ 65536) (hh : Row w .u8 (.slice ah nh ph) hd) (hx : Row w .u8 (.slice (some ⟨b, off, none⟩) nx pb) xs) (bh : Bytes hd) (bx : Bytes xs) :
    Calls Tryz.prog 26 #[v, .int .i64 num, .slice ah nh ph, .slice (some ⟨b, off, none⟩) nx pb] w fun e w' => ∃ r, e = .returned (.tuple #[r, .int .i64 (osE k num hd xs)]) ∧ w'.ownsRow w.heap.size 5 1 r (osV k num hd xs).length ((osV k num hd xs).map (Value.int .u8)) ∧ Below w.heap.size w w' := by
  subst eh ex
  by_cases hl : 1508 < hd.length + xs.length
  · have e1 : osE k num hd xs = 4 := by unfold osE; rw [if_pos hl]
    have e2 : osV k num hd xs = [] := by unfold osV; rw [if_pos hl]
    rw [e1, e2]
    exact open_long v ah _ _ _ ph pb k num w hk ho h0 h1 hl (by omega) (by omega)
  · have e1 : osE k num hd xs = openE k num hd xs := by unfold osE; rw [if_neg hl]
    have e2 : osV k num hd xs = openV k num hd xs := by unfold osV; rw [if_neg hl]
    rw [e1, e2]
    obtain ⟨n, hn⟩ : ∃ n, xs.length = n + 8 := ⟨xs.length - 8, by omega⟩
    have en : xs.length - 8 = n := by omega
    unfold openE openV
    rw [en]
    rw [hn] at hx ⊢
    by_cases hc : tagV k.b (nonV k num) hd (xs.take n) = xs.drop n
    · rw [if_pos hc, if_pos hc]
      exact open_right v ah ph b off n pb k num hd xs w hk kb ho h0 h1 hn (by omega) hh hx bh bx hc
    · rw [if_neg hc, if_neg hc]
      exact open_wrong v ah ph b off n pb k num hd xs w hk kb ho h0 h1 hn (by omega) hh hx bh bx hc
/-- The packet as the model unmasks it. -/
def pz (k : K4) (xs : List Int) (na fin j : Nat) : List Int := zL ((sub xs 0 fin).set 0 (opF k xs na)) (opMask k xs na) na j
theorem pz_length (k : K4) (xs : List Int) (na fin j : Nat) (h : fin ≤ xs.length) : (pz k xs na fin j).length = fin := by
  unfold pz
  rw [zL_length, List.length_set]
  exact sub_len _ _ _ (by omega)
theorem p0_at (xs : List Int) (fin : Nat) (F : Int) (h : fin ≤ xs.length) (j : Nat) (hj : j < fin) : ((sub xs 0 fin).set 0 F).getD j 0 = if j = 0 then F else xs.getD j 0 := by
  have hl : (sub xs 0 fin).length = fin := sub_len _ _ _ (by omega)
  by_cases e : j = 0
  · subst e
    simp [List.getD, hl, hj]
  · rw [if_neg e]
    simp only [List.getD, List.getElem?_set]
    rw [if_neg (by omega)]
    simp [sub, hj]
theorem pz_at (k : K4) (xs : List Int) (na fin i : Nat) (h : fin ≤ xs.length) (hi : na + i ≤ fin) (j : Nat) (hj : j < fin) : (pz k xs na fin i).getD j 0 = if na ≤ j ∧ j < na + i then bits .xor .u8 (if j = 0 then opF k xs na else xs.getD j 0) ((opMask k xs na).getD (j - na + 1) 0) else if j = 0 then opF k xs na else xs.getD j 0 := by
  unfold pz
  have hl : ((sub xs 0 fin).set 0 (opF k xs na)).length = fin := by rw [List.length_set]; exact sub_len _ _ _ (by omega)
  rw [zL_at _ _ _ _ _ (by rw [hl]; exact hi), p0_at xs fin _ h j hj]
theorem pz_take (k : K4) (xs : List Int) (na fin : Nat) (h0 : 0 < na) (h : fin ≤ xs.length) (hi : na + opL k xs na ≤ fin) : (pz k xs na fin (opL k xs na)).take (na + opL k xs na) = opHead k xs na := by
  have hL := opL_bd k xs na
  have e := opHead_zL k xs na h0 (by omega)
  have e0 : (sub xs 0 (na + opL k xs na)).getD 0 0 = xs.getD 0 0 := by simp [sub, List.getD, show 0 < na + opL k xs na by omega]
  rw [e0] at e
  apply list_eq_of_getD (n := na + opL k xs na)
  · rw [List.length_take, pz_length _ _ _ _ _ h]; omega
  · exact opHead_length k xs na h0 (by omega)
  · intro j hj
    have e1 : ((pz k xs na fin (opL k xs na)).take (na + opL k xs na)).getD j 0 = (pz k xs na fin (opL k xs na)).getD j 0 := by simp [List.getD, hj]
    rw [e1, pz_at k xs na fin _ h hi j (by omega)]
    have e2 := pz_at k xs na (na + opL k xs na) (opL k xs na) (by omega) (Nat.le_refl _) j hj
    have e3 : pz k xs na (na + opL k xs na) (opL k xs na) = opHead k xs na := e
    rw [e3] at e2
    exact e2.symm
theorem pz_drop (k : K4) (xs : List Int) (na fin : Nat) (f v : Int) (d s t vers : List Int) (h0 : 0 < na) (h : fin ≤ xs.length) (hi : na + opL k xs na ≤ fin) : (pz k xs na fin (opL k xs na)).drop (na + opL k xs na) = opRest k xs ⟨f, v, d, s, t, vers, na, fin⟩ := by
  apply list_eq_of_getD (n := fin - (na + opL k xs na))
  · rw [List.length_drop, pz_length _ _ _ _ _ h]
  · show (sub xs (na + opL k xs na) (fin - (na + opL k xs na))).length = _
    exact sub_len _ _ _ (by omega)
  · intro j hj
    have e1 : ((pz k xs na fin (opL k xs na)).drop (na + opL k xs na)).getD j 0 = (pz k xs na fin (opL k xs na)).getD (na + opL k xs na + j) 0 := by simp [List.getD]
    rw [e1, pz_at k xs na fin _ h hi _ (by omega), if_neg (by omega), if_neg (by omega)]
    show _ = (sub xs (na + opL k xs na) (fin - (na + opL k xs na))).getD j 0
    simp [sub, List.getD, hj]
theorem pz_mid (k : K4) (xs : List Int) (na fin : Nat) (h0 : 0 < na) (h : fin ≤ xs.length) (hi : na + opL k xs na ≤ fin) (i : Nat) (hj : i < opL k xs na) : (pz k xs na fin (opL k xs na)).getD (na + i) 0 = (opD k xs na).getD i 0 := by
  rw [pz_at k xs na fin _ h hi _ (by omega), if_pos (by omega), if_neg (by omega), show na + i - na + 1 = i + 1 by omega]
  unfold opD xl
  have e2 : (sub xs na (opL k xs na)).getD i 0 = xs.getD (na + i) 0 := by simp [sub, List.getD, hj]
  have e3 : ((opMask k xs na).drop 1).getD i 0 = (opMask k xs na).getD (i + 1) 0 := by simp [List.getD]
  simp only [List.getD, List.getElem?_map, List.getElem?_range hj, Option.map_some, Option.getD_some] at e2 e3 ⊢
  rw [e2, e3]
/-- What stands while the model opens. -/
structure OsA (o w3 W : World) (gh b off n cap : Nat) (k : K4) (u0 u1 u2 u3 : Value) (cs : Array Value) (xs : List Int) : Prop where
  key : KRow o (.agg #[u0, u1, u2, u3]) k
  lie : Lies o b off n cap xs
  old : Below o.heap.size o W
  kbk : W.heap[o.heap.size]? = some (.cells #[u0, u1, u2, u3] 30 (0, 0))
  rbk : hdB W (o.heap.size + 1) (.int .i64 0) (.int .i64 0) (.slice none 0 0) (.slice none 0 0) (.slice none 0 0) (.int .i64 0) (.int .i64 0) (.int .i64 0)
  hbk : W.heap[gh]? = some (.cells cs 27 (0, 0))
  chg : Chg (· = gh) w3 W
  og : o.heap.size + 1 < gh
theorem OsA.step {o w3 W W' : World} {gh b off n cap : Nat} {k : K4} {u0 u1 u2 u3 : Value} {cs : Array Value} {xs : List Int} (h : OsA o w3 W gh b off n cap k u0 u1 u2 u3 cs xs) (hb : Below W.heap.size W W') : OsA o w3 W' gh b off n cap k u0 u1 u2 u3 cs xs :=
  ⟨h.key, h.lie, h.old.trans (hb.mono h.old.size), (hb.block _ (Array.getElem?_eq_some_iff.1 h.kbk).1).trans h.kbk, (hb.block _ (Array.getElem?_eq_some_iff.1 h.rbk).1).trans h.rbk, (hb.block gh (Array.getElem?_eq_some_iff.1 h.hbk).1).trans h.hbk, h.chg.trans (Chg.of_below hb), h.og⟩
/-- A store into a block that is newer than all of these. -/
theorem OsA.far {o w3 W : World} {gh b off n cap g : Nat} {k : K4} {u0 u1 u2 u3 : Value} {cs : Array Value} {xs : List Int} (h : OsA o w3 W gh b off n cap k u0 u1 u2 u3 cs xs) (hg : gh < g) (hw : w3.heap.size ≤ g) (i : Nat) (x : Value) : OsA o w3 (W.setCell ⟨g, i, none⟩ x) gh b off n cap k u0 u1 u2 u3 cs xs :=
  have hog := h.og
  ⟨h.key, h.lie, h.old.setCell (show o.heap.size ≤ g by omega) _, (bk_other (by omega) i x).trans h.kbk, (bk_other (by omega) i x).trans h.rbk, (bk_other (by omega) i x).trans h.hbk, ⟨h.chg.os, h.chg.tape, h.chg.output, by have := h.chg.size; simpa [World.setCell] using this, fun q hq hs => (bk_other (by omega) i x).trans (h.chg.block q hq hs)⟩, h.og⟩
/-- A store into the header. -/
theorem OsA.set {o w3 W : World} {gh b off n cap : Nat} {k : K4} {u0 u1 u2 u3 : Value} {cs : Array Value} {xs : List Int} (h : OsA o w3 W gh b off n cap k u0 u1 u2 u3 cs xs) (i : Nat) (x : Value) : OsA o w3 (W.setCell ⟨gh, i, none⟩ x) gh b off n cap k u0 u1 u2 u3 (cs.setIfInBounds i x) xs :=
  have hog := h.og
  ⟨h.key, h.lie, h.old.setCell (show o.heap.size ≤ gh by omega) _, (bk_other (by omega) i x).trans h.kbk, (bk_other (by omega) i x).trans h.rbk, bk_set h.hbk i x, h.chg.set gh i x rfl, h.og⟩
theorem OsA.c4 {o w3 W : World} {gh b off n cap : Nat} {k : K4} {u0 u1 u2 u3 : Value} {cs : Array Value} {xs : List Int} (h : OsA o w3 W gh b off n cap k u0 u1 u2 u3 cs xs) :
    W.cell? ⟨o.heap.size, 0, none⟩ = some u0 ∧ W.cell? ⟨o.heap.size, 1, none⟩ = some u1 ∧ W.cell? ⟨o.heap.size, 2, none⟩ = some u2 ∧ W.cell? ⟨o.heap.size, 3, none⟩ = some u3 :=
  ⟨(bk_cell h.kbk 0).trans rfl, (bk_cell h.kbk 1).trans rfl, (bk_cell h.kbk 2).trans rfl, (bk_cell h.kbk 3).trans rfl⟩
theorem OsA.keyW {o w3 W : World} {gh b off n cap : Nat} {k : K4} {u0 u1 u2 u3 : Value} {cs : Array Value} {xs : List Int} (h : OsA o w3 W gh b off n cap k u0 u1 u2 u3 cs xs) : KRow W (.agg #[u0, u1, u2, u3]) k := h.key.below h.old

end Go.Proofs.YthokfbgpoffafaaGreatDoor
