import Derived.Test.YtiiefhpkkjocbakDoorRetryB
import Derived.Test.YtiiefhpkkjocbakDoorIRetTag
import Derived.Test.YtiiefhpkkjocbakDoorIVers
namespace Go.Proofs.YtiiefhpkkjocbakDoor
open Go.RowKit
set_option linter.unusedVariables false

theorem cids3 (n m k : Nat) (d s o : List Int) (e : d.length = n) (e2 : s.length = m) (e3 : o.length = k) : (decide (∀ j, j < ([d, s, o] : List (List Int)).length → (([d, s, o] : List (List Int)).getD j []).length ≤ 8)) = decide (n ≤ 8 ∧ m ≤ 8 ∧ k ≤ 8) := by
  rw [decide_eq_decide]
  constructor
  · intro h
    have h0 := h 0 (by simp)
    have h1 := h 1 (by simp)
    have h2 := h 2 (by simp)
    simp only [List.getD_cons_zero, List.getD_cons_succ] at h0 h1 h2
    omega
  · intro h j hj
    rcases (show j = 0 ∨ j = 1 ∨ j = 2 by simp at hj; omega) with rfl | rfl | rfl
    · simp only [List.getD_cons_zero]; omega
    · simp only [List.getD_cons_zero, List.getD_cons_succ]; omega
    · simp only [List.getD_cons_zero, List.getD_cons_succ]; omega
theorem cids3_len (d s o : List Int) (h : d.length ≤ 9223372036854775807) (h2 : s.length ≤ 9223372036854775807) (h3 : o.length ≤ 9223372036854775807) (j : Nat) : (([d, s, o] : List (List Int)).getD j []).length ≤ 9223372036854775807 := by
  match j with
  | 0 => exact h
  | 1 => exact h2
  | 2 => exact h3
  | n + 3 => simp [List.getD]
/-- The three ids of a retry packet, behind the header's own box. -/
theorem icids3 (b : Obj) (a2 a3 ao : Option Addr) (nd ns no p2 p3 po : Nat) (xd xs o : List Int) (w : World) (r2 : Row w .u8 (.slice a2 nd p2) xd) (r3 : Row w .u8 (.slice a3 ns p3) xs) (ro : Row w .u8 (.slice ao no po) o) (ed : xd.length = nd) (es : xs.length = ns) (eo : o.length = no) (hnd : nd ≤ 9223372036854775807) (hns : ns ≤ 9223372036854775807) (hno : no ≤ 9223372036854775807) :
    Calls Tryd.prog 38 #[.slice (some ⟨w.heap.size + 1, 0, none⟩) 3 3] ((w.alloc b).alloc (.cells #[.slice a2 nd p2, .slice a3 ns p3, .slice ao no po] 22)) fun e w' => e = .returned (.bool (decide (nd ≤ 8 ∧ ns ≤ 8 ∧ no ≤ 8))) ∧ w' = ((w.alloc b).alloc (.cells #[.slice a2 nd p2, .slice a3 ns p3, .slice ao no po] 22)) := by
  have B0 := (Below.refl w.heap.size w).alloc (Nat.le_refl _) b
  have hs : (w.alloc b).heap.size = w.heap.size + 1 := by simp
  have HP := parts3 22 (r2.below B0) (r3.below B0) (ro.below B0)
  rw [hs] at HP
  have C := icids _ [xd, xs, o] _ HP (by simp) (cids3_len xd xs o (by omega) (by omega) (by omega))
  rw [cids3 nd ns no xd xs o ed es eo] at C
  exact C
set_option maxRecDepth 20000 in
set_option maxHeartbeats 1000000 in
theorem retI_bad_f (xf xv xn xl xp : Int) (a2 a3 a4 ao : Option Addr) (nd ns nt no p2 p3 p4 po : Nat) (xd xs o : List Int) (w : World) (r2 : Row w .u8 (.slice a2 nd p2) xd) (r3 : Row w .u8 (.slice a3 ns p3) xs) (ro : Row w .u8 (.slice ao no po) o) (ed : xd.length = nd) (es : xs.length = ns) (eo : o.length = no) (hnd : nd ≤ 9223372036854775807) (hns : ns ≤ 9223372036854775807) (hnt : nt ≤ 9223372036854775807) (hno : no ≤ 9223372036854775807)  (bf : xf ≠ 3) :
    Calls Tryd.prog 18 #[.agg #[.int .i64 xf, .int .i64 xv, .slice a2 nd p2, .slice a3 ns p3, .slice a4 nt p4, .int .i64 xn, .int .i64 xl, .int .i64 xp], .slice ao no po] w fun e w' => ∃ r, e = .returned (.tuple #[r, .int .i64 1]) ∧ w'.ownsRow w.heap.size 5 1 r 0 (([] : List Int).map (Value.int .u8)) ∧ Below w.heap.size w w' := by
  have hne : (xf != 3) = true := by simp; omega
  have B0 := (Below.refl w.heap.size w).alloc (Nat.le_refl _) (.cells #[.int .i64 xf, .int .i64 xv, .slice a2 nd p2, .slice a3 ns p3, .slice a4 nt p4, .int .i64 xn, .int .i64 xl, .int .i64 xp] 36)
  have HC : Hid _ := And.intro True.intro B0
  clear B0 r2 r3 ro ed es eo
  go_enter Tryd.func18, Tryd.ntmps18
  go_wp2
  go_ret2
  exact ⟨_, rfl, World.ownsRow_nil _ _ _ _, HC.out.2⟩
set_option maxRecDepth 20000 in
set_option maxHeartbeats 1000000 in
theorem retI_bad_v (xf xv xn xl xp : Int) (a2 a3 a4 ao : Option Addr) (nd ns nt no p2 p3 p4 po : Nat) (xd xs o : List Int) (w : World) (r2 : Row w .u8 (.slice a2 nd p2) xd) (r3 : Row w .u8 (.slice a3 ns p3) xs) (ro : Row w .u8 (.slice ao no po) o) (ed : xd.length = nd) (es : xs.length = ns) (eo : o.length = no) (hnd : nd ≤ 9223372036854775807) (hns : ns ≤ 9223372036854775807) (hnt : nt ≤ 9223372036854775807) (hno : no ≤ 9223372036854775807) (gf : xf = 3) (bv : ¬ vok xv) :
    Calls Tryd.prog 18 #[.agg #[.int .i64 xf, .int .i64 xv, .slice a2 nd p2, .slice a3 ns p3, .slice a4 nt p4, .int .i64 xn, .int .i64 xl, .int .i64 xp], .slice ao no po] w fun e w' => ∃ r, e = .returned (.tuple #[r, .int .i64 1]) ∧ w'.ownsRow w.heap.size 5 1 r 0 (([] : List Int).map (Value.int .u8)) ∧ Below w.heap.size w w' := by
  subst gf
  have B0 := (Below.refl w.heap.size w).alloc (Nat.le_refl _) (.cells #[.int .i64 3, .int .i64 xv, .slice a2 nd p2, .slice a3 ns p3, .slice a4 nt p4, .int .i64 xn, .int .i64 xl, .int .i64 xp] 36)
  have HC : Hid _ := And.intro True.intro B0
  clear B0 r2 r3 ro ed es eo
  go_enter Tryd.func18, Tryd.ntmps18
  go_wp2_with (go_at_call 37; refine (iVbad xv _ bv).mono ?_; rintro e w' ⟨rfl, hw⟩; subst w')
  go_ret2
  exact ⟨_, rfl, World.ownsRow_nil _ _ _ _, HC.out.2⟩
set_option maxRecDepth 20000 in
set_option maxHeartbeats 1000000 in
theorem retI_bad_c (xf xv xn xl xp : Int) (a2 a3 a4 ao : Option Addr) (nd ns nt no p2 p3 p4 po : Nat) (xd xs o : List Int) (w : World) (r2 : Row w .u8 (.slice a2 nd p2) xd) (r3 : Row w .u8 (.slice a3 ns p3) xs) (ro : Row w .u8 (.slice ao no po) o) (ed : xd.length = nd) (es : xs.length = ns) (eo : o.length = no) (hnd : nd ≤ 9223372036854775807) (hns : ns ≤ 9223372036854775807) (hnt : nt ≤ 9223372036854775807) (hno : no ≤ 9223372036854775807) (gf : xf = 3) (gv : vok xv) (bc : ¬ (nd ≤ 8 ∧ ns ≤ 8 ∧ no ≤ 8)) :
    Calls Tryd.prog 18 #[.agg #[.int .i64 xf, .int .i64 xv, .slice a2 nd p2, .slice a3 ns p3, .slice a4 nt p4, .int .i64 xn, .int .i64 xl, .int .i64 xp], .slice ao no po] w fun e w' => ∃ r, e = .returned (.tuple #[r, .int .i64 1]) ∧ w'.ownsRow w.heap.size 5 1 r 0 (([] : List Int).map (Value.int .u8)) ∧ Below w.heap.size w w' := by
  subst gf
  have B0 := (Below.refl w.heap.size w).alloc (Nat.le_refl _) (.cells #[.int .i64 3, .int .i64 xv, .slice a2 nd p2, .slice a3 ns p3, .slice a4 nt p4, .int .i64 xn, .int .i64 xl, .int .i64 xp] 36)
  have CC := icids3 (.cells #[.int .i64 3, .int .i64 xv, .slice a2 nd p2, .slice a3 ns p3, .slice a4 nt p4, .int .i64 xn, .int .i64 xl, .int .i64 xp] 36) a2 a3 ao nd ns no p2 p3 po xd xs o w r2 r3 ro ed es eo hnd hns hno
  rw [decide_eq_false bc] at CC
  have HC : Hid _ := And.intro CC (B0.alloc B0.size (.cells #[.slice a2 nd p2, .slice a3 ns p3, .slice ao no po] 22))
  clear CC
  clear B0 r2 r3 ro ed es eo
  go_enter Tryd.func18, Tryd.ntmps18
  go_wp2_with (first
    | (go_at_call 37; refine (iVok xv _ gv).mono ?_; rintro e w' ⟨rfl, hw⟩; subst w')
    | (go_at_call 38; refine HC.out.1.mono ?_; rintro e w' ⟨rfl, hw⟩; subst w'))
  go_ret2
  exact ⟨_, rfl, World.ownsRow_nil _ _ _ _, HC.out.2⟩
set_option maxRecDepth 20000 in
set_option maxHeartbeats 1000000 in
theorem retI_bad_t1 (xf xv xn xl xp : Int) (a2 a3 a4 ao : Option Addr) (nd ns nt no p2 p3 p4 po : Nat) (xd xs o : List Int) (w : World) (r2 : Row w .u8 (.slice a2 nd p2) xd) (r3 : Row w .u8 (.slice a3 ns p3) xs) (ro : Row w .u8 (.slice ao no po) o) (ed : xd.length = nd) (es : xs.length = ns) (eo : o.length = no) (hnd : nd ≤ 9223372036854775807) (hns : ns ≤ 9223372036854775807) (hnt : nt ≤ 9223372036854775807) (hno : no ≤ 9223372036854775807) (gf : xf = 3) (gv : vok xv) (gc : nd ≤ 8 ∧ ns ≤ 8 ∧ no ≤ 8) (bt1 : nt < 1) :
    Calls Tryd.prog 18 #[.agg #[.int .i64 xf, .int .i64 xv, .slice a2 nd p2, .slice a3 ns p3, .slice a4 nt p4, .int .i64 xn, .int .i64 xl, .int .i64 xp], .slice ao no po] w fun e w' => ∃ r, e = .returned (.tuple #[r, .int .i64 1]) ∧ w'.ownsRow w.heap.size 5 1 r 0 (([] : List Int).map (Value.int .u8)) ∧ Below w.heap.size w w' := by
  subst gf
  have B0 := (Below.refl w.heap.size w).alloc (Nat.le_refl _) (.cells #[.int .i64 3, .int .i64 xv, .slice a2 nd p2, .slice a3 ns p3, .slice a4 nt p4, .int .i64 xn, .int .i64 xl, .int .i64 xp] 36)
  have CC := icids3 (.cells #[.int .i64 3, .int .i64 xv, .slice a2 nd p2, .slice a3 ns p3, .slice a4 nt p4, .int .i64 xn, .int .i64 xl, .int .i64 xp] 36) a2 a3 ao nd ns no p2 p3 po xd xs o w r2 r3 ro ed es eo hnd hns hno
  rw [decide_eq_true gc] at CC
  have HC : Hid _ := And.intro CC (B0.alloc B0.size (.cells #[.slice a2 nd p2, .slice a3 ns p3, .slice ao no po] 22))
  clear CC
  clear B0 r2 r3 ro ed es eo
  go_enter Tryd.func18, Tryd.ntmps18
  go_wp2_with (first
    | (go_at_call 37; refine (iVok xv _ gv).mono ?_; rintro e w' ⟨rfl, hw⟩; subst w')
    | (go_at_call 38; refine HC.out.1.mono ?_; rintro e w' ⟨rfl, hw⟩; subst w'))
  go_ret2
  exact ⟨_, rfl, World.ownsRow_nil _ _ _ _, HC.out.2⟩
set_option maxRecDepth 20000 in
set_option maxHeartbeats 1000000 in
theorem retI_bad_t2 (xf xv xn xl xp : Int) (a2 a3 a4 ao : Option Addr) (nd ns nt no p2 p3 p4 po : Nat) (xd xs o : List Int) (w : World) (r2 : Row w .u8 (.slice a2 nd p2) xd) (r3 : Row w .u8 (.slice a3 ns p3) xs) (ro : Row w .u8 (.slice ao no po) o) (ed : xd.length = nd) (es : xs.length = ns) (eo : o.length = no) (hnd : nd ≤ 9223372036854775807) (hns : ns ≤ 9223372036854775807) (hnt : nt ≤ 9223372036854775807) (hno : no ≤ 9223372036854775807) (gf : xf = 3) (gv : vok xv) (gc : nd ≤ 8 ∧ ns ≤ 8 ∧ no ≤ 8) (gt1 : 1 ≤ nt) (bt2 : 64 < nt) :
    Calls Tryd.prog 18 #[.agg #[.int .i64 xf, .int .i64 xv, .slice a2 nd p2, .slice a3 ns p3, .slice a4 nt p4, .int .i64 xn, .int .i64 xl, .int .i64 xp], .slice ao no po] w fun e w' => ∃ r, e = .returned (.tuple #[r, .int .i64 1]) ∧ w'.ownsRow w.heap.size 5 1 r 0 (([] : List Int).map (Value.int .u8)) ∧ Below w.heap.size w w' := by
  subst gf
  have B0 := (Below.refl w.heap.size w).alloc (Nat.le_refl _) (.cells #[.int .i64 3, .int .i64 xv, .slice a2 nd p2, .slice a3 ns p3, .slice a4 nt p4, .int .i64 xn, .int .i64 xl, .int .i64 xp] 36)
  have CC := icids3 (.cells #[.int .i64 3, .int .i64 xv, .slice a2 nd p2, .slice a3 ns p3, .slice a4 nt p4, .int .i64 xn, .int .i64 xl, .int .i64 xp] 36) a2 a3 ao nd ns no p2 p3 po xd xs o w r2 r3 ro ed es eo hnd hns hno
  rw [decide_eq_true gc] at CC
  have HC : Hid _ := And.intro CC (B0.alloc B0.size (.cells #[.slice a2 nd p2, .slice a3 ns p3, .slice ao no po] 22))
  clear CC
  clear B0 r2 r3 ro ed es eo
  go_enter Tryd.func18, Tryd.ntmps18
  go_wp2_with (first
    | (go_at_call 37; refine (iVok xv _ gv).mono ?_; rintro e w' ⟨rfl, hw⟩; subst w')
    | (go_at_call 38; refine HC.out.1.mono ?_; rintro e w' ⟨rfl, hw⟩; subst w'))
  go_ret2
  exact ⟨_, rfl, World.ownsRow_nil _ _ _ _, HC.out.2⟩
set_option maxRecDepth 20000 in
set_option maxHeartbeats 1000000 in
theorem retI_bad_n (xf xv xn xl xp : Int) (a2 a3 a4 ao : Option Addr) (nd ns nt no p2 p3 p4 po : Nat) (xd xs o : List Int) (w : World) (r2 : Row w .u8 (.slice a2 nd p2) xd) (r3 : Row w .u8 (.slice a3 ns p3) xs) (ro : Row w .u8 (.slice ao no po) o) (ed : xd.length = nd) (es : xs.length = ns) (eo : o.length = no) (hnd : nd ≤ 9223372036854775807) (hns : ns ≤ 9223372036854775807) (hnt : nt ≤ 9223372036854775807) (hno : no ≤ 9223372036854775807) (gf : xf = 3) (gv : vok xv) (gc : nd ≤ 8 ∧ ns ≤ 8 ∧ no ≤ 8) (gt1 : 1 ≤ nt) (gt2 : nt ≤ 64) (bn : xn ≠ 0) :
    Calls Tryd.prog 18 #[.agg #[.int .i64 xf, .int .i64 xv, .slice a2 nd p2, .slice a3 ns p3, .slice a4 nt p4, .int .i64 xn, .int .i64 xl, .int .i64 xp], .slice ao no po] w fun e w' => ∃ r, e = .returned (.tuple #[r, .int .i64 1]) ∧ w'.ownsRow w.heap.size 5 1 r 0 (([] : List Int).map (Value.int .u8)) ∧ Below w.heap.size w w' := by
  subst gf
  have hne : (xn != 0) = true := by simp; omega
  have B0 := (Below.refl w.heap.size w).alloc (Nat.le_refl _) (.cells #[.int .i64 3, .int .i64 xv, .slice a2 nd p2, .slice a3 ns p3, .slice a4 nt p4, .int .i64 xn, .int .i64 xl, .int .i64 xp] 36)
  have CC := icids3 (.cells #[.int .i64 3, .int .i64 xv, .slice a2 nd p2, .slice a3 ns p3, .slice a4 nt p4, .int .i64 xn, .int .i64 xl, .int .i64 xp] 36) a2 a3 ao nd ns no p2 p3 po xd xs o w r2 r3 ro ed es eo hnd hns hno
  rw [decide_eq_true gc] at CC
  have HC : Hid _ := And.intro CC (B0.alloc B0.size (.cells #[.slice a2 nd p2, .slice a3 ns p3, .slice ao no po] 22))
  clear CC
  clear B0 r2 r3 ro ed es eo
  go_enter Tryd.func18, Tryd.ntmps18
  go_wp2_with (first
    | (go_at_call 37; refine (iVok xv _ gv).mono ?_; rintro e w' ⟨rfl, hw⟩; subst w')
    | (go_at_call 38; refine HC.out.1.mono ?_; rintro e w' ⟨rfl, hw⟩; subst w'))
  go_ret2
  exact ⟨_, rfl, World.ownsRow_nil _ _ _ _, HC.out.2⟩
set_option maxRecDepth 20000 in
set_option maxHeartbeats 1000000 in
theorem retI_bad_l (xf xv xn xl xp : Int) (a2 a3 a4 ao : Option Addr) (nd ns nt no p2 p3 p4 po : Nat) (xd xs o : List Int) (w : World) (r2 : Row w .u8 (.slice a2 nd p2) xd) (r3 : Row w .u8 (.slice a3 ns p3) xs) (ro : Row w .u8 (.slice ao no po) o) (ed : xd.length = nd) (es : xs.length = ns) (eo : o.length = no) (hnd : nd ≤ 9223372036854775807) (hns : ns ≤ 9223372036854775807) (hnt : nt ≤ 9223372036854775807) (hno : no ≤ 9223372036854775807) (gf : xf = 3) (gv : vok xv) (gc : nd ≤ 8 ∧ ns ≤ 8 ∧ no ≤ 8) (gt1 : 1 ≤ nt) (gt2 : nt ≤ 64) (gn : xn = 0) (bl : xl ≠ 0) :
    Calls Tryd.prog 18 #[.agg #[.int .i64 xf, .int .i64 xv, .slice a2 nd p2, .slice a3 ns p3, .slice a4 nt p4, .int .i64 xn, .int .i64 xl, .int .i64 xp], .slice ao no po] w fun e w' => ∃ r, e = .returned (.tuple #[r, .int .i64 1]) ∧ w'.ownsRow w.heap.size 5 1 r 0 (([] : List Int).map (Value.int .u8)) ∧ Below w.heap.size w w' := by
  subst gf
  subst gn
  have hne : (xl != 0) = true := by simp; omega
  have B0 := (Below.refl w.heap.size w).alloc (Nat.le_refl _) (.cells #[.int .i64 3, .int .i64 xv, .slice a2 nd p2, .slice a3 ns p3, .slice a4 nt p4, .int .i64 0, .int .i64 xl, .int .i64 xp] 36)
  have CC := icids3 (.cells #[.int .i64 3, .int .i64 xv, .slice a2 nd p2, .slice a3 ns p3, .slice a4 nt p4, .int .i64 0, .int .i64 xl, .int .i64 xp] 36) a2 a3 ao nd ns no p2 p3 po xd xs o w r2 r3 ro ed es eo hnd hns hno
  rw [decide_eq_true gc] at CC
  have HC : Hid _ := And.intro CC (B0.alloc B0.size (.cells #[.slice a2 nd p2, .slice a3 ns p3, .slice ao no po] 22))
  clear CC
  clear B0 r2 r3 ro ed es eo
  go_enter Tryd.func18, Tryd.ntmps18
  go_wp2_with (first
    | (go_at_call 37; refine (iVok xv _ gv).mono ?_; rintro e w' ⟨rfl, hw⟩; subst w')
    | (go_at_call 38; refine HC.out.1.mono ?_; rintro e w' ⟨rfl, hw⟩; subst w'))
  go_ret2
  exact ⟨_, rfl, World.ownsRow_nil _ _ _ _, HC.out.2⟩
set_option maxRecDepth 20000 in
set_option maxHeartbeats 1000000 in
theorem retI_bad_p (xf xv xn xl xp : Int) (a2 a3 a4 ao : Option Addr) (nd ns nt no p2 p3 p4 po : Nat) (xd xs o : List Int) (w : World) (r2 : Row w .u8 (.slice a2 nd p2) xd) (r3 : Row w .u8 (.slice a3 ns p3) xs) (ro : Row w .u8 (.slice ao no po) o) (ed : xd.length = nd) (es : xs.length = ns) (eo : o.length = no) (hnd : nd ≤ 9223372036854775807) (hns : ns ≤ 9223372036854775807) (hnt : nt ≤ 9223372036854775807) (hno : no ≤ 9223372036854775807) (gf : xf = 3) (gv : vok xv) (gc : nd ≤ 8 ∧ ns ≤ 8 ∧ no ≤ 8) (gt1 : 1 ≤ nt) (gt2 : nt ≤ 64) (gn : xn = 0) (gl : xl = 0) (bp : xp ≠ 0) :
    Calls Tryd.prog 18 #[.agg #[.int .i64 xf, .int .i64 xv, .slice a2 nd p2, .slice a3 ns p3, .slice a4 nt p4, .int .i64 xn, .int .i64 xl, .int .i64 xp], .slice ao no po] w fun e w' => ∃ r, e = .returned (.tuple #[r, .int .i64 1]) ∧ w'.ownsRow w.heap.size 5 1 r 0 (([] : List Int).map (Value.int .u8)) ∧ Below w.heap.size w w' := by
  subst gf
  subst gn
  subst gl
  have hne : (xp != 0) = true := by simp; omega
  have B0 := (Below.refl w.heap.size w).alloc (Nat.le_refl _) (.cells #[.int .i64 3, .int .i64 xv, .slice a2 nd p2, .slice a3 ns p3, .slice a4 nt p4, .int .i64 0, .int .i64 0, .int .i64 xp] 36)
  have CC := icids3 (.cells #[.int .i64 3, .int .i64 xv, .slice a2 nd p2, .slice a3 ns p3, .slice a4 nt p4, .int .i64 0, .int .i64 0, .int .i64 xp] 36) a2 a3 ao nd ns no p2 p3 po xd xs o w r2 r3 ro ed es eo hnd hns hno
  rw [decide_eq_true gc] at CC
  have HC : Hid _ := And.intro CC (B0.alloc B0.size (.cells #[.slice a2 nd p2, .slice a3 ns p3, .slice ao no po] 22))
  clear CC
  clear B0 r2 r3 ro ed es eo
  go_enter Tryd.func18, Tryd.ntmps18
  go_wp2_with (first
    | (go_at_call 37; refine (iVok xv _ gv).mono ?_; rintro e w' ⟨rfl, hw⟩; subst w')
    | (go_at_call 38; refine HC.out.1.mono ?_; rintro e w' ⟨rfl, hw⟩; subst w'))
  go_ret2
  exact ⟨_, rfl, World.ownsRow_nil _ _ _ _, HC.out.2⟩
theorem retI_bad (v : Value) (h : H8) (ao : Option Addr) (po : Nat) (o : List Int) (w : World) (hr : HRow w v h) (hs : h.small 9223372036854775807) (ro : Row w .u8 (.slice ao o.length po) o) (ho : o.length ≤ 9223372036854775807) (hb : ¬ rok h o) :
    Calls Tryd.prog 18 #[v, .slice ao o.length po] w fun e w' => ∃ r, e = .returned (.tuple #[r, .int .i64 1]) ∧ w'.ownsRow w.heap.size 5 1 r 0 (([] : List Int).map (Value.int .u8)) ∧ Below w.heap.size w w' := by
  obtain ⟨xf, xv, xd, xs, xt, xn, xl, xp⟩ := h
  obtain ⟨v2, v3, v4, rfl, r2, r3, r4⟩ := hr
  obtain ⟨a2, p2, rfl⟩ := r2.form
  obtain ⟨a3, p3, rfl⟩ := r3.form
  obtain ⟨a4, p4, rfl⟩ := r4.form
  obtain ⟨s0, s1, s2⟩ := hs
  unfold rok at hb
  dsimp only at *
  by_cases gf : xf = 3
  rotate_left
  · exact retI_bad_f xf xv xn xl xp a2 a3 a4 ao _ _ _ _ p2 p3 p4 po xd xs o w r2 r3 ro rfl rfl rfl s0 s1 s2 ho  gf
  by_cases gv : vok xv
  rotate_left
  · exact retI_bad_v xf xv xn xl xp a2 a3 a4 ao _ _ _ _ p2 p3 p4 po xd xs o w r2 r3 ro rfl rfl rfl s0 s1 s2 ho gf gv
  by_cases gc : xd.length ≤ 8 ∧ xs.length ≤ 8 ∧ o.length ≤ 8
  rotate_left
  · exact retI_bad_c xf xv xn xl xp a2 a3 a4 ao _ _ _ _ p2 p3 p4 po xd xs o w r2 r3 ro rfl rfl rfl s0 s1 s2 ho gf gv gc
  by_cases gt1 : 1 ≤ xt.length
  rotate_left
  · exact retI_bad_t1 xf xv xn xl xp a2 a3 a4 ao _ _ _ _ p2 p3 p4 po xd xs o w r2 r3 ro rfl rfl rfl s0 s1 s2 ho gf gv gc (by omega)
  by_cases gt2 : xt.length ≤ 64
  rotate_left
  · exact retI_bad_t2 xf xv xn xl xp a2 a3 a4 ao _ _ _ _ p2 p3 p4 po xd xs o w r2 r3 ro rfl rfl rfl s0 s1 s2 ho gf gv gc gt1 (by omega)
  by_cases gn : xn = 0
  rotate_left
  · exact retI_bad_n xf xv xn xl xp a2 a3 a4 ao _ _ _ _ p2 p3 p4 po xd xs o w r2 r3 ro rfl rfl rfl s0 s1 s2 ho gf gv gc gt1 gt2 gn
  by_cases gl : xl = 0
  rotate_left
  · exact retI_bad_l xf xv xn xl xp a2 a3 a4 ao _ _ _ _ p2 p3 p4 po xd xs o w r2 r3 ro rfl rfl rfl s0 s1 s2 ho gf gv gc gt1 gt2 gn gl
  by_cases gp : xp = 0
  · exact absurd ⟨gf, gv, gc.1, gc.2.1, gt1, gt2, gn, gl, gp, gc.2.2⟩ hb
  · exact retI_bad_p xf xv xn xl xp a2 a3 a4 ao _ _ _ _ p2 p3 p4 po xd xs o w r2 r3 ro rfl rfl rfl s0 s1 s2 ho gf gv gc gt1 gt2 gn gl gp
end Go.Proofs.YtiiefhpkkjocbakDoor
