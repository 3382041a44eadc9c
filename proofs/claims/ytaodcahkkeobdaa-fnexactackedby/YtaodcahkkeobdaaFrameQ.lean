import Derived.Test.YtaodcahkkeobdaaValidB
import Derived.Test.YtaodcahkkeobdaaFrameS
namespace Go.Proofs.Ytaodcahkkeobdaa
open Go.RowKit
set_option linter.unusedVariables false

theorem an_0 : ∀ b0 b1 b2 b3 b4 b5 b6 : Bool, (bits .andNot .i64 (sfK (bitOf b0 b1 b2 b3 b4 b5 b6) 7) 0 != 0) = (b0 || b1 || b2 || b3 || b4 || b5 || b6) := by decide +kernel
theorem an_1 : ∀ b0 b1 b2 b3 b4 b5 b6 : Bool, (bits .andNot .i64 (sfK (bitOf b0 b1 b2 b3 b4 b5 b6) 7) 1 != 0) = (b1 || b2 || b3 || b4 || b5 || b6) := by decide +kernel
theorem an_3 : ∀ b0 b1 b2 b3 b4 b5 b6 : Bool, (bits .andNot .i64 (sfK (bitOf b0 b1 b2 b3 b4 b5 b6) 7) 3 != 0) = (b2 || b3 || b4 || b5 || b6) := by decide +kernel
theorem an_7 : ∀ b0 b1 b2 b3 b4 b5 b6 : Bool, (bits .andNot .i64 (sfK (bitOf b0 b1 b2 b3 b4 b5 b6) 7) 7 != 0) = (b3 || b4 || b5 || b6) := by decide +kernel
theorem an_16 : ∀ b0 b1 b2 b3 b4 b5 b6 : Bool, (bits .andNot .i64 (sfK (bitOf b0 b1 b2 b3 b4 b5 b6) 7) 16 != 0) = (b0 || b1 || b2 || b3 || b5 || b6) := by decide +kernel
theorem an_17 : ∀ b0 b1 b2 b3 b4 b5 b6 : Bool, (bits .andNot .i64 (sfK (bitOf b0 b1 b2 b3 b4 b5 b6) 7) 17 != 0) = (b1 || b2 || b3 || b5 || b6) := by decide +kernel
theorem an_19 : ∀ b0 b1 b2 b3 b4 b5 b6 : Bool, (bits .andNot .i64 (sfK (bitOf b0 b1 b2 b3 b4 b5 b6) 7) 19 != 0) = (b2 || b3 || b5 || b6) := by decide +kernel
theorem an_27 : ∀ b0 b1 b2 b3 b4 b5 b6 : Bool, (bits .andNot .i64 (sfK (bitOf b0 b1 b2 b3 b4 b5 b6) 7) 27 != 0) = (b2 || b5 || b6) := by decide +kernel
theorem an_51 : ∀ b0 b1 b2 b3 b4 b5 b6 : Bool, (bits .andNot .i64 (sfK (bitOf b0 b1 b2 b3 b4 b5 b6) 7) 51 != 0) = (b2 || b3 || b6) := by decide +kernel
theorem an_65 : ∀ b0 b1 b2 b3 b4 b5 b6 : Bool, (bits .andNot .i64 (sfK (bitOf b0 b1 b2 b3 b4 b5 b6) 7) 65 != 0) = (b1 || b2 || b3 || b4 || b5) := by decide +kernel
theorem pos_ne (n : Nat) : ((n : Int) != 0) = decide ((0 : Int) < (n : Int)) := by rw [Bool.eq_iff_iff]; simp; omega
theorem pos_nat (n : Nat) : decide (0 < n) = decide ((0 : Int) < (n : Int)) := by rw [Bool.eq_iff_iff]; simp
set_option maxRecDepth 20000 in
set_option maxHeartbeats 4000000 in
theorem eq_padding (a b c : Int) (fin : Bool) (nd nt nr : Nat) (R : List (Int × Int)) (hR : decide ((0 : Int) < (nr : Int)) = false → rokV R = true) :
    (ok1 a b c fin true true false false false && ok2 nd nt nr R false 0 0 0 && ok3 0 a b nd) = okI a b c nd (sfK (bitOf (a != 0) (b != 0) (c != 0) fin ((nd : Int) != 0) ((nt : Int) != 0) ((nr : Int) != 0)) 7) 1 0 0 (decide (1 ≤ a) && decide (a ≤ 1500)) := by
  have e3 : ok3 0 a b nd = (decide (1 ≤ a) && decide (a ≤ 1500)) := by unfold ok3; rw [if_pos rfl]
  unfold ok1 ok2 okI
  rw [e3, an_1]
  clear e3
  try rw [pos_ne nd]
  try rw [pos_ne nr]
  generalize ((nt : Int) != 0) = t0
  generalize nin a = na
  generalize nin b = nb
  generalize nin c = nc
  generalize (a != 0) = a0
  generalize (b != 0) = b0
  generalize (c != 0) = c0
  generalize decide ((nd : Int) < 0) = dl
  generalize decide ((0 : Int) < (nd : Int)) = d0
  generalize decide ((0 : Int) < (nr : Int)) = r0 at hR ⊢
  generalize rokV R = rk at hR ⊢
  generalize decide (1 ≤ a) = x0
  generalize decide (a ≤ 1500) = x1
  cases na
  · simp
  cases nb
  · simp
  cases nc
  · simp
  revert t0 a0 b0 c0 fin dl d0 r0 rk x0 x1
  decide +kernel
set_option maxRecDepth 20000 in
set_option maxHeartbeats 4000000 in
theorem eq_ping (a b c : Int) (fin : Bool) (nd nt nr : Nat) (R : List (Int × Int)) (hR : decide ((0 : Int) < (nr : Int)) = false → rokV R = true) :
    (ok1 a b c fin true false false false false && ok2 nd nt nr R false 0 0 0 && ok3 1 a b nd) = okI a b c nd (sfK (bitOf (a != 0) (b != 0) (c != 0) fin ((nd : Int) != 0) ((nt : Int) != 0) ((nr : Int) != 0)) 7) 0 0 0 (true) := by
  have e3 : ok3 1 a b nd = (true) := by unfold ok3; rw [if_neg (by decide), if_neg (by decide), if_neg (by decide), if_neg (by decide), if_neg (by decide)]
  unfold ok1 ok2 okI
  rw [e3, an_0]
  clear e3
  try rw [pos_ne nd]
  try rw [pos_ne nr]
  generalize ((nt : Int) != 0) = t0
  generalize nin a = na
  generalize nin b = nb
  generalize nin c = nc
  generalize (a != 0) = a0
  generalize (b != 0) = b0
  generalize (c != 0) = c0
  generalize decide ((nd : Int) < 0) = dl
  generalize decide ((0 : Int) < (nd : Int)) = d0
  generalize decide ((0 : Int) < (nr : Int)) = r0 at hR ⊢
  generalize rokV R = rk at hR ⊢
  cases na
  · simp
  cases nb
  · simp
  cases nc
  · simp
  revert t0 a0 b0 c0 fin dl d0 r0 rk
  decide +kernel
set_option maxRecDepth 20000 in
set_option maxHeartbeats 4000000 in
theorem eq_ack (a b c : Int) (fin : Bool) (nd nt nr : Nat) (R : List (Int × Int)) (hR : decide ((0 : Int) < (nr : Int)) = false → rokV R = true) :
    (ok1 a b c fin true true false false false && ok2 nd nt nr R true 0 0 0 && ok3 2 a b nd) = okI a b c nd (sfK (bitOf (a != 0) (b != 0) (c != 0) fin ((nd : Int) != 0) ((nt : Int) != 0) ((nr : Int) != 0)) 7) 65 0 0 (decide (0 < nr) && rokV R) := by
  have e3 : ok3 2 a b nd = (true) := by unfold ok3; rw [if_neg (by decide), if_neg (by decide), if_neg (by decide), if_neg (by decide), if_neg (by decide)]
  unfold ok1 ok2 okI
  rw [e3, an_65]
  clear e3
  rw [pos_nat nr]
  try rw [pos_ne nd]
  try rw [pos_ne nr]
  generalize ((nt : Int) != 0) = t0
  generalize nin a = na
  generalize nin b = nb
  generalize nin c = nc
  generalize (a != 0) = a0
  generalize (b != 0) = b0
  generalize (c != 0) = c0
  generalize decide ((nd : Int) < 0) = dl
  generalize decide ((0 : Int) < (nd : Int)) = d0
  generalize decide ((0 : Int) < (nr : Int)) = r0 at hR ⊢
  generalize rokV R = rk at hR ⊢
  cases na
  · simp
  cases nb
  · simp
  cases nc
  · simp
  revert t0 a0 b0 c0 fin dl d0 r0 rk
  decide +kernel
set_option maxRecDepth 20000 in
set_option maxHeartbeats 4000000 in
theorem eq_reset (a b c : Int) (fin : Bool) (nd nt nr : Nat) (R : List (Int × Int)) (hR : decide ((0 : Int) < (nr : Int)) = false → rokV R = true) :
    (ok1 a b c fin true true true true false && ok2 nd nt nr R false 0 0 0 && ok3 4 a b nd) = okI a b c nd (sfK (bitOf (a != 0) (b != 0) (c != 0) fin ((nd : Int) != 0) ((nt : Int) != 0) ((nr : Int) != 0)) 7) 7 0 0 (true) := by
  have e3 : ok3 4 a b nd = (true) := by unfold ok3; rw [if_neg (by decide), if_neg (by decide), if_neg (by decide), if_neg (by decide), if_neg (by decide)]
  unfold ok1 ok2 okI
  rw [e3, an_7]
  clear e3
  try rw [pos_ne nd]
  try rw [pos_ne nr]
  generalize ((nt : Int) != 0) = t0
  generalize nin a = na
  generalize nin b = nb
  generalize nin c = nc
  generalize (a != 0) = a0
  generalize (b != 0) = b0
  generalize (c != 0) = c0
  generalize decide ((nd : Int) < 0) = dl
  generalize decide ((0 : Int) < (nd : Int)) = d0
  generalize decide ((0 : Int) < (nr : Int)) = r0 at hR ⊢
  generalize rokV R = rk at hR ⊢
  cases na
  · simp
  cases nb
  · simp
  cases nc
  · simp
  revert t0 a0 b0 c0 fin dl d0 r0 rk
  decide +kernel
set_option maxRecDepth 20000 in
set_option maxHeartbeats 4000000 in
theorem eq_stop (a b c : Int) (fin : Bool) (nd nt nr : Nat) (R : List (Int × Int)) (hR : decide ((0 : Int) < (nr : Int)) = false → rokV R = true) :
    (ok1 a b c fin true true true false false && ok2 nd nt nr R false 0 0 0 && ok3 5 a b nd) = okI a b c nd (sfK (bitOf (a != 0) (b != 0) (c != 0) fin ((nd : Int) != 0) ((nt : Int) != 0) ((nr : Int) != 0)) 7) 3 0 0 (true) := by
  have e3 : ok3 5 a b nd = (true) := by unfold ok3; rw [if_neg (by decide), if_neg (by decide), if_neg (by decide), if_neg (by decide), if_neg (by decide)]
  unfold ok1 ok2 okI
  rw [e3, an_3]
  clear e3
  try rw [pos_ne nd]
  try rw [pos_ne nr]
  generalize ((nt : Int) != 0) = t0
  generalize nin a = na
  generalize nin b = nb
  generalize nin c = nc
  generalize (a != 0) = a0
  generalize (b != 0) = b0
  generalize (c != 0) = c0
  generalize decide ((nd : Int) < 0) = dl
  generalize decide ((0 : Int) < (nd : Int)) = d0
  generalize decide ((0 : Int) < (nr : Int)) = r0 at hR ⊢
  generalize rokV R = rk at hR ⊢
  cases na
  · simp
  cases nb
  · simp
  cases nc
  · simp
  revert t0 a0 b0 c0 fin dl d0 r0 rk
  decide +kernel
set_option maxRecDepth 20000 in
set_option maxHeartbeats 4000000 in
theorem eq_crypto (a b c : Int) (fin : Bool) (nd nt nr : Nat) (R : List (Int × Int)) (hR : decide ((0 : Int) < (nr : Int)) = false → rokV R = true) :
    (ok1 a b c fin true true false false false && ok2 nd nt nr R false 0 1500 0 && ok3 6 a b nd) = okI a b c nd (sfK (bitOf (a != 0) (b != 0) (c != 0) fin ((nd : Int) != 0) ((nt : Int) != 0) ((nr : Int) != 0)) 7) 17 0 1500 (decide (a ≤ 4611686018427387903 - (nd : Int))) := by
  have e3 : ok3 6 a b nd = (decide (a ≤ 4611686018427387903 - (nd : Int))) := by unfold ok3; rw [if_neg (by decide), if_neg (by decide), if_pos rfl]
  unfold ok1 ok2 okI
  rw [e3, an_17]
  clear e3
  try rw [pos_ne nd]
  try rw [pos_ne nr]
  generalize ((nt : Int) != 0) = t0
  generalize nin a = na
  generalize nin b = nb
  generalize nin c = nc
  generalize (a != 0) = a0
  generalize (b != 0) = b0
  generalize (c != 0) = c0
  generalize decide ((nd : Int) < 0) = dl
  generalize decide (1500 < (nd : Int)) = dm
  generalize decide ((0 : Int) < (nd : Int)) = d0
  generalize decide ((0 : Int) < (nr : Int)) = r0 at hR ⊢
  generalize rokV R = rk at hR ⊢
  generalize decide (a ≤ 4611686018427387903 - (nd : Int)) = x0
  cases na
  · simp
  cases nb
  · simp
  cases nc
  · simp
  revert t0 a0 b0 c0 fin dl dm d0 r0 rk x0
  decide +kernel
set_option maxRecDepth 20000 in
set_option maxHeartbeats 4000000 in
theorem eq_newToken (a b c : Int) (fin : Bool) (nd nt nr : Nat) (R : List (Int × Int)) (hR : decide ((0 : Int) < (nr : Int)) = false → rokV R = true) :
    (ok1 a b c fin true false false false false && ok2 nd nt nr R false 1 64 0 && ok3 7 a b nd) = okI a b c nd (sfK (bitOf (a != 0) (b != 0) (c != 0) fin ((nd : Int) != 0) ((nt : Int) != 0) ((nr : Int) != 0)) 7) 16 1 64 (true) := by
  have e3 : ok3 7 a b nd = (true) := by unfold ok3; rw [if_neg (by decide), if_neg (by decide), if_neg (by decide), if_neg (by decide), if_neg (by decide)]
  unfold ok1 ok2 okI
  rw [e3, an_16]
  clear e3
  try rw [pos_ne nd]
  try rw [pos_ne nr]
  generalize ((nt : Int) != 0) = t0
  generalize nin a = na
  generalize nin b = nb
  generalize nin c = nc
  generalize (a != 0) = a0
  generalize (b != 0) = b0
  generalize (c != 0) = c0
  generalize decide ((nd : Int) < 1) = dl
  generalize decide (64 < (nd : Int)) = dm
  generalize decide ((0 : Int) < (nd : Int)) = d0
  generalize decide ((0 : Int) < (nr : Int)) = r0 at hR ⊢
  generalize rokV R = rk at hR ⊢
  cases na
  · simp
  cases nb
  · simp
  cases nc
  · simp
  revert t0 a0 b0 c0 fin dl dm d0 r0 rk
  decide +kernel
set_option maxRecDepth 20000 in
set_option maxHeartbeats 4000000 in
theorem eq_stream (a b c : Int) (fin : Bool) (nd nt nr : Nat) (R : List (Int × Int)) (hR : decide ((0 : Int) < (nr : Int)) = false → rokV R = true) :
    (ok1 a b c fin true true true false true && ok2 nd nt nr R false 0 1500 0 && ok3 8 a b nd) = okI a b c nd (sfK (bitOf (a != 0) (b != 0) (c != 0) fin ((nd : Int) != 0) ((nt : Int) != 0) ((nr : Int) != 0)) 7) 27 0 1500 (decide (b ≤ 4611686018427387903 - (nd : Int))) := by
  have e3 : ok3 8 a b nd = (decide (b ≤ 4611686018427387903 - (nd : Int))) := by unfold ok3; rw [if_neg (by decide), if_neg (by decide), if_neg (by decide), if_pos rfl]
  unfold ok1 ok2 okI
  rw [e3, an_27]
  clear e3
  try rw [pos_ne nd]
  try rw [pos_ne nr]
  generalize ((nt : Int) != 0) = t0
  generalize nin a = na
  generalize nin b = nb
  generalize nin c = nc
  generalize (a != 0) = a0
  generalize (b != 0) = b0
  generalize (c != 0) = c0
  generalize decide ((nd : Int) < 0) = dl
  generalize decide (1500 < (nd : Int)) = dm
  generalize decide ((0 : Int) < (nd : Int)) = d0
  generalize decide ((0 : Int) < (nr : Int)) = r0 at hR ⊢
  generalize rokV R = rk at hR ⊢
  generalize decide (b ≤ 4611686018427387903 - (nd : Int)) = x0
  cases na
  · simp
  cases nb
  · simp
  cases nc
  · simp
  revert t0 a0 b0 c0 fin dl dm d0 r0 rk x0
  decide +kernel
set_option maxRecDepth 20000 in
set_option maxHeartbeats 4000000 in
theorem eq_maxData (a b c : Int) (fin : Bool) (nd nt nr : Nat) (R : List (Int × Int)) (hR : decide ((0 : Int) < (nr : Int)) = false → rokV R = true) :
    (ok1 a b c fin true true false false false && ok2 nd nt nr R false 0 0 0 && ok3 16 a b nd) = okI a b c nd (sfK (bitOf (a != 0) (b != 0) (c != 0) fin ((nd : Int) != 0) ((nt : Int) != 0) ((nr : Int) != 0)) 7) 1 0 0 (true) := by
  have e3 : ok3 16 a b nd = (true) := by unfold ok3; rw [if_neg (by decide), if_neg (by decide), if_neg (by decide), if_neg (by decide), if_neg (by decide)]
  unfold ok1 ok2 okI
  rw [e3, an_1]
  clear e3
  try rw [pos_ne nd]
  try rw [pos_ne nr]
  generalize ((nt : Int) != 0) = t0
  generalize nin a = na
  generalize nin b = nb
  generalize nin c = nc
  generalize (a != 0) = a0
  generalize (b != 0) = b0
  generalize (c != 0) = c0
  generalize decide ((nd : Int) < 0) = dl
  generalize decide ((0 : Int) < (nd : Int)) = d0
  generalize decide ((0 : Int) < (nr : Int)) = r0 at hR ⊢
  generalize rokV R = rk at hR ⊢
  cases na
  · simp
  cases nb
  · simp
  cases nc
  · simp
  revert t0 a0 b0 c0 fin dl d0 r0 rk
  decide +kernel
set_option maxRecDepth 20000 in
set_option maxHeartbeats 4000000 in
theorem eq_maxStreamData (a b c : Int) (fin : Bool) (nd nt nr : Nat) (R : List (Int × Int)) (hR : decide ((0 : Int) < (nr : Int)) = false → rokV R = true) :
    (ok1 a b c fin true true true false false && ok2 nd nt nr R false 0 0 0 && ok3 17 a b nd) = okI a b c nd (sfK (bitOf (a != 0) (b != 0) (c != 0) fin ((nd : Int) != 0) ((nt : Int) != 0) ((nr : Int) != 0)) 7) 3 0 0 (true) := by
  have e3 : ok3 17 a b nd = (true) := by unfold ok3; rw [if_neg (by decide), if_neg (by decide), if_neg (by decide), if_neg (by decide), if_neg (by decide)]
  unfold ok1 ok2 okI
  rw [e3, an_3]
  clear e3
  try rw [pos_ne nd]
  try rw [pos_ne nr]
  generalize ((nt : Int) != 0) = t0
  generalize nin a = na
  generalize nin b = nb
  generalize nin c = nc
  generalize (a != 0) = a0
  generalize (b != 0) = b0
  generalize (c != 0) = c0
  generalize decide ((nd : Int) < 0) = dl
  generalize decide ((0 : Int) < (nd : Int)) = d0
  generalize decide ((0 : Int) < (nr : Int)) = r0 at hR ⊢
  generalize rokV R = rk at hR ⊢
  cases na
  · simp
  cases nb
  · simp
  cases nc
  · simp
  revert t0 a0 b0 c0 fin dl d0 r0 rk
  decide +kernel
set_option maxRecDepth 20000 in
set_option maxHeartbeats 4000000 in
theorem eq_maxStreams (a b c : Int) (fin : Bool) (nd nt nr : Nat) (R : List (Int × Int)) (hR : decide ((0 : Int) < (nr : Int)) = false → rokV R = true) :
    (ok1 a b c fin true true true false false && ok2 nd nt nr R false 0 0 0 && ok3 18 a b nd) = okI a b c nd (sfK (bitOf (a != 0) (b != 0) (c != 0) fin ((nd : Int) != 0) ((nt : Int) != 0) ((nr : Int) != 0)) 7) 3 0 0 (decide (a ≤ 1152921504606846976) && decide (b ≤ 1)) := by
  have e3 : ok3 18 a b nd = (decide (a ≤ 1152921504606846976) && decide (b ≤ 1)) := by unfold ok3; rw [if_neg (by decide), if_pos (by decide)]
  unfold ok1 ok2 okI
  rw [e3, an_3]
  clear e3
  try rw [pos_ne nd]
  try rw [pos_ne nr]
  generalize ((nt : Int) != 0) = t0
  generalize nin a = na
  generalize nin b = nb
  generalize nin c = nc
  generalize (a != 0) = a0
  generalize (b != 0) = b0
  generalize (c != 0) = c0
  generalize decide ((nd : Int) < 0) = dl
  generalize decide ((0 : Int) < (nd : Int)) = d0
  generalize decide ((0 : Int) < (nr : Int)) = r0 at hR ⊢
  generalize rokV R = rk at hR ⊢
  generalize decide (a ≤ 1152921504606846976) = x0
  generalize decide (b ≤ 1) = x1
  cases na
  · simp
  cases nb
  · simp
  cases nc
  · simp
  revert t0 a0 b0 c0 fin dl d0 r0 rk x0 x1
  decide +kernel
set_option maxRecDepth 20000 in
set_option maxHeartbeats 4000000 in
theorem eq_dataBlocked (a b c : Int) (fin : Bool) (nd nt nr : Nat) (R : List (Int × Int)) (hR : decide ((0 : Int) < (nr : Int)) = false → rokV R = true) :
    (ok1 a b c fin true true false false false && ok2 nd nt nr R false 0 0 0 && ok3 20 a b nd) = okI a b c nd (sfK (bitOf (a != 0) (b != 0) (c != 0) fin ((nd : Int) != 0) ((nt : Int) != 0) ((nr : Int) != 0)) 7) 1 0 0 (true) := by
  have e3 : ok3 20 a b nd = (true) := by unfold ok3; rw [if_neg (by decide), if_neg (by decide), if_neg (by decide), if_neg (by decide), if_neg (by decide)]
  unfold ok1 ok2 okI
  rw [e3, an_1]
  clear e3
  try rw [pos_ne nd]
  try rw [pos_ne nr]
  generalize ((nt : Int) != 0) = t0
  generalize nin a = na
  generalize nin b = nb
  generalize nin c = nc
  generalize (a != 0) = a0
  generalize (b != 0) = b0
  generalize (c != 0) = c0
  generalize decide ((nd : Int) < 0) = dl
  generalize decide ((0 : Int) < (nd : Int)) = d0
  generalize decide ((0 : Int) < (nr : Int)) = r0 at hR ⊢
  generalize rokV R = rk at hR ⊢
  cases na
  · simp
  cases nb
  · simp
  cases nc
  · simp
  revert t0 a0 b0 c0 fin dl d0 r0 rk
  decide +kernel
set_option maxRecDepth 20000 in
set_option maxHeartbeats 4000000 in
theorem eq_streamBlocked (a b c : Int) (fin : Bool) (nd nt nr : Nat) (R : List (Int × Int)) (hR : decide ((0 : Int) < (nr : Int)) = false → rokV R = true) :
    (ok1 a b c fin true true true false false && ok2 nd nt nr R false 0 0 0 && ok3 21 a b nd) = okI a b c nd (sfK (bitOf (a != 0) (b != 0) (c != 0) fin ((nd : Int) != 0) ((nt : Int) != 0) ((nr : Int) != 0)) 7) 3 0 0 (true) := by
  have e3 : ok3 21 a b nd = (true) := by unfold ok3; rw [if_neg (by decide), if_neg (by decide), if_neg (by decide), if_neg (by decide), if_neg (by decide)]
  unfold ok1 ok2 okI
  rw [e3, an_3]
  clear e3
  try rw [pos_ne nd]
  try rw [pos_ne nr]
  generalize ((nt : Int) != 0) = t0
  generalize nin a = na
  generalize nin b = nb
  generalize nin c = nc
  generalize (a != 0) = a0
  generalize (b != 0) = b0
  generalize (c != 0) = c0
  generalize decide ((nd : Int) < 0) = dl
  generalize decide ((0 : Int) < (nd : Int)) = d0
  generalize decide ((0 : Int) < (nr : Int)) = r0 at hR ⊢
  generalize rokV R = rk at hR ⊢
  cases na
  · simp
  cases nb
  · simp
  cases nc
  · simp
  revert t0 a0 b0 c0 fin dl d0 r0 rk
  decide +kernel
set_option maxRecDepth 20000 in
set_option maxHeartbeats 4000000 in
theorem eq_streamsBlocked (a b c : Int) (fin : Bool) (nd nt nr : Nat) (R : List (Int × Int)) (hR : decide ((0 : Int) < (nr : Int)) = false → rokV R = true) :
    (ok1 a b c fin true true true false false && ok2 nd nt nr R false 0 0 0 && ok3 22 a b nd) = okI a b c nd (sfK (bitOf (a != 0) (b != 0) (c != 0) fin ((nd : Int) != 0) ((nt : Int) != 0) ((nr : Int) != 0)) 7) 3 0 0 (decide (a ≤ 1152921504606846976) && decide (b ≤ 1)) := by
  have e3 : ok3 22 a b nd = (decide (a ≤ 1152921504606846976) && decide (b ≤ 1)) := by unfold ok3; rw [if_neg (by decide), if_pos (by decide)]
  unfold ok1 ok2 okI
  rw [e3, an_3]
  clear e3
  try rw [pos_ne nd]
  try rw [pos_ne nr]
  generalize ((nt : Int) != 0) = t0
  generalize nin a = na
  generalize nin b = nb
  generalize nin c = nc
  generalize (a != 0) = a0
  generalize (b != 0) = b0
  generalize (c != 0) = c0
  generalize decide ((nd : Int) < 0) = dl
  generalize decide ((0 : Int) < (nd : Int)) = d0
  generalize decide ((0 : Int) < (nr : Int)) = r0 at hR ⊢
  generalize rokV R = rk at hR ⊢
  generalize decide (a ≤ 1152921504606846976) = x0
  generalize decide (b ≤ 1) = x1
  cases na
  · simp
  cases nb
  · simp
  cases nc
  · simp
  revert t0 a0 b0 c0 fin dl d0 r0 rk x0 x1
  decide +kernel
set_option maxRecDepth 20000 in
set_option maxHeartbeats 4000000 in
theorem eq_newId (a b c : Int) (fin : Bool) (nd nt nr : Nat) (R : List (Int × Int)) (hR : decide ((0 : Int) < (nr : Int)) = false → rokV R = true) :
    (ok1 a b c fin true true true false false && ok2 nd nt nr R false 1 8 8 && ok3 24 a b nd) = okI a b c nd (sfK (bitOf (a != 0) (b != 0) (c != 0) fin ((nd : Int) != 0) ((nt : Int) != 0) ((nr : Int) != 0)) 7) 51 1 8 (decide (b ≤ a) && ((nt : Int) == 8)) := by
  have e3 : ok3 24 a b nd = (decide (b ≤ a)) := by unfold ok3; rw [if_neg (by decide), if_neg (by decide), if_neg (by decide), if_neg (by decide), if_pos rfl]
  unfold ok1 ok2 okI
  rw [e3, an_51]
  clear e3
  try rw [pos_ne nd]
  try rw [pos_ne nr]
  rw [show ((nt : Int) != 8) = !((nt : Int) == 8) from rfl]
  generalize ((nt : Int) == 8) = t8
  generalize ((nt : Int) != 0) = t0
  generalize nin a = na
  generalize nin b = nb
  generalize nin c = nc
  generalize (a != 0) = a0
  generalize (b != 0) = b0
  generalize (c != 0) = c0
  generalize decide ((nd : Int) < 1) = dl
  generalize decide (8 < (nd : Int)) = dm
  generalize decide ((0 : Int) < (nd : Int)) = d0
  generalize decide ((0 : Int) < (nr : Int)) = r0 at hR ⊢
  generalize rokV R = rk at hR ⊢
  generalize decide (b ≤ a) = x0
  cases na
  · simp
  cases nb
  · simp
  cases nc
  · simp
  revert t0 a0 b0 c0 fin dl dm d0 r0 rk x0 t8
  decide +kernel
set_option maxRecDepth 20000 in
set_option maxHeartbeats 4000000 in
theorem eq_retireId (a b c : Int) (fin : Bool) (nd nt nr : Nat) (R : List (Int × Int)) (hR : decide ((0 : Int) < (nr : Int)) = false → rokV R = true) :
    (ok1 a b c fin true true false false false && ok2 nd nt nr R false 0 0 0 && ok3 25 a b nd) = okI a b c nd (sfK (bitOf (a != 0) (b != 0) (c != 0) fin ((nd : Int) != 0) ((nt : Int) != 0) ((nr : Int) != 0)) 7) 1 0 0 (true) := by
  have e3 : ok3 25 a b nd = (true) := by unfold ok3; rw [if_neg (by decide), if_neg (by decide), if_neg (by decide), if_neg (by decide), if_neg (by decide)]
  unfold ok1 ok2 okI
  rw [e3, an_1]
  clear e3
  try rw [pos_ne nd]
  try rw [pos_ne nr]
  generalize ((nt : Int) != 0) = t0
  generalize nin a = na
  generalize nin b = nb
  generalize nin c = nc
  generalize (a != 0) = a0
  generalize (b != 0) = b0
  generalize (c != 0) = c0
  generalize decide ((nd : Int) < 0) = dl
  generalize decide ((0 : Int) < (nd : Int)) = d0
  generalize decide ((0 : Int) < (nr : Int)) = r0 at hR ⊢
  generalize rokV R = rk at hR ⊢
  cases na
  · simp
  cases nb
  · simp
  cases nc
  · simp
  revert t0 a0 b0 c0 fin dl d0 r0 rk
  decide +kernel
set_option maxRecDepth 20000 in
set_option maxHeartbeats 4000000 in
theorem eq_challenge (a b c : Int) (fin : Bool) (nd nt nr : Nat) (R : List (Int × Int)) (hR : decide ((0 : Int) < (nr : Int)) = false → rokV R = true) :
    (ok1 a b c fin true false false false false && ok2 nd nt nr R false 8 8 0 && ok3 26 a b nd) = okI a b c nd (sfK (bitOf (a != 0) (b != 0) (c != 0) fin ((nd : Int) != 0) ((nt : Int) != 0) ((nr : Int) != 0)) 7) 16 8 8 (true) := by
  have e3 : ok3 26 a b nd = (true) := by unfold ok3; rw [if_neg (by decide), if_neg (by decide), if_neg (by decide), if_neg (by decide), if_neg (by decide)]
  unfold ok1 ok2 okI
  rw [e3, an_16]
  clear e3
  try rw [pos_ne nd]
  try rw [pos_ne nr]
  generalize ((nt : Int) != 0) = t0
  generalize nin a = na
  generalize nin b = nb
  generalize nin c = nc
  generalize (a != 0) = a0
  generalize (b != 0) = b0
  generalize (c != 0) = c0
  generalize decide ((nd : Int) < 8) = dl
  generalize decide (8 < (nd : Int)) = dm
  generalize decide ((0 : Int) < (nd : Int)) = d0
  generalize decide ((0 : Int) < (nr : Int)) = r0 at hR ⊢
  generalize rokV R = rk at hR ⊢
  cases na
  · simp
  cases nb
  · simp
  cases nc
  · simp
  revert t0 a0 b0 c0 fin dl dm d0 r0 rk
  decide +kernel
set_option maxRecDepth 20000 in
set_option maxHeartbeats 4000000 in
theorem eq_response (a b c : Int) (fin : Bool) (nd nt nr : Nat) (R : List (Int × Int)) (hR : decide ((0 : Int) < (nr : Int)) = false → rokV R = true) :
    (ok1 a b c fin true false false false false && ok2 nd nt nr R false 8 8 0 && ok3 27 a b nd) = okI a b c nd (sfK (bitOf (a != 0) (b != 0) (c != 0) fin ((nd : Int) != 0) ((nt : Int) != 0) ((nr : Int) != 0)) 7) 16 8 8 (true) := by
  have e3 : ok3 27 a b nd = (true) := by unfold ok3; rw [if_neg (by decide), if_neg (by decide), if_neg (by decide), if_neg (by decide), if_neg (by decide)]
  unfold ok1 ok2 okI
  rw [e3, an_16]
  clear e3
  try rw [pos_ne nd]
  try rw [pos_ne nr]
  generalize ((nt : Int) != 0) = t0
  generalize nin a = na
  generalize nin b = nb
  generalize nin c = nc
  generalize (a != 0) = a0
  generalize (b != 0) = b0
  generalize (c != 0) = c0
  generalize decide ((nd : Int) < 8) = dl
  generalize decide (8 < (nd : Int)) = dm
  generalize decide ((0 : Int) < (nd : Int)) = d0
  generalize decide ((0 : Int) < (nr : Int)) = r0 at hR ⊢
  generalize rokV R = rk at hR ⊢
  cases na
  · simp
  cases nb
  · simp
  cases nc
  · simp
  revert t0 a0 b0 c0 fin dl dm d0 r0 rk
  decide +kernel
set_option maxRecDepth 20000 in
set_option maxHeartbeats 4000000 in
theorem eq_close (a b c : Int) (fin : Bool) (nd nt nr : Nat) (R : List (Int × Int)) (hR : decide ((0 : Int) < (nr : Int)) = false → rokV R = true) :
    (ok1 a b c fin true true true false false && ok2 nd nt nr R false 0 200 0 && ok3 28 a b nd) = okI a b c nd (sfK (bitOf (a != 0) (b != 0) (c != 0) fin ((nd : Int) != 0) ((nt : Int) != 0) ((nr : Int) != 0)) 7) 19 0 200 (true) := by
  have e3 : ok3 28 a b nd = (true) := by unfold ok3; rw [if_neg (by decide), if_neg (by decide), if_neg (by decide), if_neg (by decide), if_neg (by decide)]
  unfold ok1 ok2 okI
  rw [e3, an_19]
  clear e3
  try rw [pos_ne nd]
  try rw [pos_ne nr]
  generalize ((nt : Int) != 0) = t0
  generalize nin a = na
  generalize nin b = nb
  generalize nin c = nc
  generalize (a != 0) = a0
  generalize (b != 0) = b0
  generalize (c != 0) = c0
  generalize decide ((nd : Int) < 0) = dl
  generalize decide (200 < (nd : Int)) = dm
  generalize decide ((0 : Int) < (nd : Int)) = d0
  generalize decide ((0 : Int) < (nr : Int)) = r0 at hR ⊢
  generalize rokV R = rk at hR ⊢
  cases na
  · simp
  cases nb
  · simp
  cases nc
  · simp
  revert t0 a0 b0 c0 fin dl dm d0 r0 rk
  decide +kernel
set_option maxRecDepth 20000 in
set_option maxHeartbeats 4000000 in
theorem eq_appClose (a b c : Int) (fin : Bool) (nd nt nr : Nat) (R : List (Int × Int)) (hR : decide ((0 : Int) < (nr : Int)) = false → rokV R = true) :
    (ok1 a b c fin true true false false false && ok2 nd nt nr R false 0 200 0 && ok3 29 a b nd) = okI a b c nd (sfK (bitOf (a != 0) (b != 0) (c != 0) fin ((nd : Int) != 0) ((nt : Int) != 0) ((nr : Int) != 0)) 7) 17 0 200 (true) := by
  have e3 : ok3 29 a b nd = (true) := by unfold ok3; rw [if_neg (by decide), if_neg (by decide), if_neg (by decide), if_neg (by decide), if_neg (by decide)]
  unfold ok1 ok2 okI
  rw [e3, an_17]
  clear e3
  try rw [pos_ne nd]
  try rw [pos_ne nr]
  generalize ((nt : Int) != 0) = t0
  generalize nin a = na
  generalize nin b = nb
  generalize nin c = nc
  generalize (a != 0) = a0
  generalize (b != 0) = b0
  generalize (c != 0) = c0
  generalize decide ((nd : Int) < 0) = dl
  generalize decide (200 < (nd : Int)) = dm
  generalize decide ((0 : Int) < (nd : Int)) = d0
  generalize decide ((0 : Int) < (nr : Int)) = r0 at hR ⊢
  generalize rokV R = rk at hR ⊢
  cases na
  · simp
  cases nb
  · simp
  cases nc
  · simp
  revert t0 a0 b0 c0 fin dl dm d0 r0 rk
  decide +kernel
set_option maxRecDepth 20000 in
set_option maxHeartbeats 4000000 in
theorem eq_done (a b c : Int) (fin : Bool) (nd nt nr : Nat) (R : List (Int × Int)) (hR : decide ((0 : Int) < (nr : Int)) = false → rokV R = true) :
    (ok1 a b c fin true false false false false && ok2 nd nt nr R false 0 0 0 && ok3 30 a b nd) = okI a b c nd (sfK (bitOf (a != 0) (b != 0) (c != 0) fin ((nd : Int) != 0) ((nt : Int) != 0) ((nr : Int) != 0)) 7) 0 0 0 (true) := by
  have e3 : ok3 30 a b nd = (true) := by unfold ok3; rw [if_neg (by decide), if_neg (by decide), if_neg (by decide), if_neg (by decide), if_neg (by decide)]
  unfold ok1 ok2 okI
  rw [e3, an_0]
  clear e3
  try rw [pos_ne nd]
  try rw [pos_ne nr]
  generalize ((nt : Int) != 0) = t0
  generalize nin a = na
  generalize nin b = nb
  generalize nin c = nc
  generalize (a != 0) = a0
  generalize (b != 0) = b0
  generalize (c != 0) = c0
  generalize decide ((nd : Int) < 0) = dl
  generalize decide ((0 : Int) < (nd : Int)) = d0
  generalize decide ((0 : Int) < (nr : Int)) = r0 at hR ⊢
  generalize rokV R = rk at hR ⊢
  cases na
  · simp
  cases nb
  · simp
  cases nc
  · simp
  revert t0 a0 b0 c0 fin dl d0 r0 rk
  decide +kernel
set_option maxRecDepth 20000 in
set_option maxHeartbeats 4000000 in
theorem eq_datagram (a b c : Int) (fin : Bool) (nd nt nr : Nat) (R : List (Int × Int)) (hR : decide ((0 : Int) < (nr : Int)) = false → rokV R = true) :
    (ok1 a b c fin true false false false false && ok2 nd nt nr R false 0 1500 0 && ok3 48 a b nd) = okI a b c nd (sfK (bitOf (a != 0) (b != 0) (c != 0) fin ((nd : Int) != 0) ((nt : Int) != 0) ((nr : Int) != 0)) 7) 16 0 1500 (true) := by
  have e3 : ok3 48 a b nd = (true) := by unfold ok3; rw [if_neg (by decide), if_neg (by decide), if_neg (by decide), if_neg (by decide), if_neg (by decide)]
  unfold ok1 ok2 okI
  rw [e3, an_16]
  clear e3
  try rw [pos_ne nd]
  try rw [pos_ne nr]
  generalize ((nt : Int) != 0) = t0
  generalize nin a = na
  generalize nin b = nb
  generalize nin c = nc
  generalize (a != 0) = a0
  generalize (b != 0) = b0
  generalize (c != 0) = c0
  generalize decide ((nd : Int) < 0) = dl
  generalize decide (1500 < (nd : Int)) = dm
  generalize decide ((0 : Int) < (nd : Int)) = d0
  generalize decide ((0 : Int) < (nr : Int)) = r0 at hR ⊢
  generalize rokV R = rk at hR ⊢
  cases na
  · simp
  cases nb
  · simp
  cases nc
  · simp
  revert t0 a0 b0 c0 fin dl dm d0 r0 rk
  decide +kernel
end Go.Proofs.Ytaodcahkkeobdaa
