import Derived.Test.YtkpmdcmgcdnpfaaISeal
import Derived.Test.YtkpmdcmgcdnpfaaOpenS
import Derived.Test.YtkpmdcmgcdnpfaaIEq8
namespace Go.Proofs.Ytkpmdcmgcdnpfaa
open Go.RowKit
set_option linter.unusedVariables false
set_option linter.unusedSimpArgs false


theorem ld_row {W : World} {p m t : Nat} {xs : List Int} (h : W.heap[p]? = some (.cells (u8s xs).toArray t (0, 0))) (hl : xs.length = m) : (loadCells ⟨p, 0, none⟩ m).run Try.prog W = .ok (u8s xs).toArray W := by
  have := run_loadCells_list (P := Try.prog) W ⟨p, 0, none⟩ (u8s xs) (fun j v hv => by
    have hadd : (⟨p, 0, none⟩ : Addr).add j = ⟨p, j, none⟩ := by unfold Addr.add; split <;> simp_all
    rw [hadd, blkS_cell h]
    simpa using hv)
  rwa [u8s_length, hl] at this
theorem list24 (A : List Int) (h : A.length = 24) : ∃ a0 a1 a2 a3 a4 a5 a6 a7 a8 a9 a10 a11 a12 a13 a14 a15 a16 a17 a18 a19 a20 a21 a22 a23 : Int, A = [a0, a1, a2, a3, a4, a5, a6, a7, a8, a9, a10, a11, a12, a13, a14, a15, a16, a17, a18, a19, a20, a21, a22, a23] := by
  obtain ⟨a0, A, rfl⟩ : ∃ x t, A = x :: t := List.exists_cons_of_length_pos (by omega)
  simp only [List.length_cons] at h
  obtain ⟨a1, A, rfl⟩ : ∃ x t, A = x :: t := List.exists_cons_of_length_pos (by omega)
  simp only [List.length_cons] at h
  obtain ⟨a2, A, rfl⟩ : ∃ x t, A = x :: t := List.exists_cons_of_length_pos (by omega)
  simp only [List.length_cons] at h
  obtain ⟨a3, A, rfl⟩ : ∃ x t, A = x :: t := List.exists_cons_of_length_pos (by omega)
  simp only [List.length_cons] at h
  obtain ⟨a4, A, rfl⟩ : ∃ x t, A = x :: t := List.exists_cons_of_length_pos (by omega)
  simp only [List.length_cons] at h
  obtain ⟨a5, A, rfl⟩ : ∃ x t, A = x :: t := List.exists_cons_of_length_pos (by omega)
  simp only [List.length_cons] at h
  obtain ⟨a6, A, rfl⟩ : ∃ x t, A = x :: t := List.exists_cons_of_length_pos (by omega)
  simp only [List.length_cons] at h
  obtain ⟨a7, A, rfl⟩ : ∃ x t, A = x :: t := List.exists_cons_of_length_pos (by omega)
  simp only [List.length_cons] at h
  obtain ⟨a8, A, rfl⟩ : ∃ x t, A = x :: t := List.exists_cons_of_length_pos (by omega)
  simp only [List.length_cons] at h
  obtain ⟨a9, A, rfl⟩ : ∃ x t, A = x :: t := List.exists_cons_of_length_pos (by omega)
  simp only [List.length_cons] at h
  obtain ⟨a10, A, rfl⟩ : ∃ x t, A = x :: t := List.exists_cons_of_length_pos (by omega)
  simp only [List.length_cons] at h
  obtain ⟨a11, A, rfl⟩ : ∃ x t, A = x :: t := List.exists_cons_of_length_pos (by omega)
  simp only [List.length_cons] at h
  obtain ⟨a12, A, rfl⟩ : ∃ x t, A = x :: t := List.exists_cons_of_length_pos (by omega)
  simp only [List.length_cons] at h
  obtain ⟨a13, A, rfl⟩ : ∃ x t, A = x :: t := List.exists_cons_of_length_pos (by omega)
  simp only [List.length_cons] at h
  obtain ⟨a14, A, rfl⟩ : ∃ x t, A = x :: t := List.exists_cons_of_length_pos (by omega)
  simp only [List.length_cons] at h
  obtain ⟨a15, A, rfl⟩ : ∃ x t, A = x :: t := List.exists_cons_of_length_pos (by omega)
  simp only [List.length_cons] at h
  obtain ⟨a16, A, rfl⟩ : ∃ x t, A = x :: t := List.exists_cons_of_length_pos (by omega)
  simp only [List.length_cons] at h
  obtain ⟨a17, A, rfl⟩ : ∃ x t, A = x :: t := List.exists_cons_of_length_pos (by omega)
  simp only [List.length_cons] at h
  obtain ⟨a18, A, rfl⟩ : ∃ x t, A = x :: t := List.exists_cons_of_length_pos (by omega)
  simp only [List.length_cons] at h
  obtain ⟨a19, A, rfl⟩ : ∃ x t, A = x :: t := List.exists_cons_of_length_pos (by omega)
  simp only [List.length_cons] at h
  obtain ⟨a20, A, rfl⟩ : ∃ x t, A = x :: t := List.exists_cons_of_length_pos (by omega)
  simp only [List.length_cons] at h
  obtain ⟨a21, A, rfl⟩ : ∃ x t, A = x :: t := List.exists_cons_of_length_pos (by omega)
  simp only [List.length_cons] at h
  obtain ⟨a22, A, rfl⟩ : ∃ x t, A = x :: t := List.exists_cons_of_length_pos (by omega)
  simp only [List.length_cons] at h
  obtain ⟨a23, A, rfl⟩ : ∃ x t, A = x :: t := List.exists_cons_of_length_pos (by omega)
  simp only [List.length_cons] at h
  obtain rfl : A = [] := List.eq_nil_of_length_eq_zero (by omega)
  exact ⟨a0, a1, a2, a3, a4, a5, a6, a7, a8, a9, a10, a11, a12, a13, a14, a15, a16, a17, a18, a19, a20, a21, a22, a23, rfl⟩
theorem cells24 {W : World} {p t : Nat} {a0 a1 a2 a3 a4 a5 a6 a7 a8 a9 a10 a11 a12 a13 a14 a15 a16 a17 a18 a19 a20 a21 a22 a23 : Int} (h : W.heap[p]? = some (.cells (u8s [a0, a1, a2, a3, a4, a5, a6, a7, a8, a9, a10, a11, a12, a13, a14, a15, a16, a17, a18, a19, a20, a21, a22, a23]).toArray t (0, 0))) : W.cell? ⟨p, 0, none⟩ = some (.int .u8 a0) ∧ W.cell? ⟨p, 1, none⟩ = some (.int .u8 a1) ∧ W.cell? ⟨p, 2, none⟩ = some (.int .u8 a2) ∧ W.cell? ⟨p, 3, none⟩ = some (.int .u8 a3) ∧ W.cell? ⟨p, 4, none⟩ = some (.int .u8 a4) ∧ W.cell? ⟨p, 5, none⟩ = some (.int .u8 a5) ∧ W.cell? ⟨p, 6, none⟩ = some (.int .u8 a6) ∧ W.cell? ⟨p, 7, none⟩ = some (.int .u8 a7) ∧ W.cell? ⟨p, 8, none⟩ = some (.int .u8 a8) ∧ W.cell? ⟨p, 9, none⟩ = some (.int .u8 a9) ∧ W.cell? ⟨p, 10, none⟩ = some (.int .u8 a10) ∧ W.cell? ⟨p, 11, none⟩ = some (.int .u8 a11) ∧ W.cell? ⟨p, 12, none⟩ = some (.int .u8 a12) ∧ W.cell? ⟨p, 13, none⟩ = some (.int .u8 a13) ∧ W.cell? ⟨p, 14, none⟩ = some (.int .u8 a14) ∧ W.cell? ⟨p, 15, none⟩ = some (.int .u8 a15) ∧ W.cell? ⟨p, 16, none⟩ = some (.int .u8 a16) ∧ W.cell? ⟨p, 17, none⟩ = some (.int .u8 a17) ∧ W.cell? ⟨p, 18, none⟩ = some (.int .u8 a18) ∧ W.cell? ⟨p, 19, none⟩ = some (.int .u8 a19) ∧ W.cell? ⟨p, 20, none⟩ = some (.int .u8 a20) ∧ W.cell? ⟨p, 21, none⟩ = some (.int .u8 a21) ∧ W.cell? ⟨p, 22, none⟩ = some (.int .u8 a22) ∧ W.cell? ⟨p, 23, none⟩ = some (.int .u8 a23) :=
  ⟨by rw [blkS_cell h]; rfl, by rw [blkS_cell h]; rfl, by rw [blkS_cell h]; rfl, by rw [blkS_cell h]; rfl, by rw [blkS_cell h]; rfl, by rw [blkS_cell h]; rfl, by rw [blkS_cell h]; rfl, by rw [blkS_cell h]; rfl, by rw [blkS_cell h]; rfl, by rw [blkS_cell h]; rfl, by rw [blkS_cell h]; rfl, by rw [blkS_cell h]; rfl, by rw [blkS_cell h]; rfl, by rw [blkS_cell h]; rfl, by rw [blkS_cell h]; rfl, by rw [blkS_cell h]; rfl, by rw [blkS_cell h]; rfl, by rw [blkS_cell h]; rfl, by rw [blkS_cell h]; rfl, by rw [blkS_cell h]; rfl, by rw [blkS_cell h]; rfl, by rw [blkS_cell h]; rfl, by rw [blkS_cell h]; rfl, by rw [blkS_cell h]; rfl⟩
theorem cells8 {W : World} {p t : Nat} {a0 a1 a2 a3 a4 a5 a6 a7 : Int} (h : W.heap[p]? = some (.cells (u8s [a0, a1, a2, a3, a4, a5, a6, a7]).toArray t (0, 0))) : W.cell? ⟨p, 0, none⟩ = some (.int .u8 a0) ∧ W.cell? ⟨p, 1, none⟩ = some (.int .u8 a1) ∧ W.cell? ⟨p, 2, none⟩ = some (.int .u8 a2) ∧ W.cell? ⟨p, 3, none⟩ = some (.int .u8 a3) ∧ W.cell? ⟨p, 4, none⟩ = some (.int .u8 a4) ∧ W.cell? ⟨p, 5, none⟩ = some (.int .u8 a5) ∧ W.cell? ⟨p, 6, none⟩ = some (.int .u8 a6) ∧ W.cell? ⟨p, 7, none⟩ = some (.int .u8 a7) :=
  ⟨by rw [blkS_cell h]; rfl, by rw [blkS_cell h]; rfl, by rw [blkS_cell h]; rfl, by rw [blkS_cell h]; rfl, by rw [blkS_cell h]; rfl, by rw [blkS_cell h]; rfl, by rw [blkS_cell h]; rfl, by rw [blkS_cell h]; rfl⟩
theorem u8s24 (a0 a1 a2 a3 a4 a5 a6 a7 a8 a9 a10 a11 a12 a13 a14 a15 a16 a17 a18 a19 a20 a21 a22 a23 : Int) : (u8s [a0, a1, a2, a3, a4, a5, a6, a7, a8, a9, a10, a11, a12, a13, a14, a15, a16, a17, a18, a19, a20, a21, a22, a23]).toArray = #[.int .u8 a0, .int .u8 a1, .int .u8 a2, .int .u8 a3, .int .u8 a4, .int .u8 a5, .int .u8 a6, .int .u8 a7, .int .u8 a8, .int .u8 a9, .int .u8 a10, .int .u8 a11, .int .u8 a12, .int .u8 a13, .int .u8 a14, .int .u8 a15, .int .u8 a16, .int .u8 a17, .int .u8 a18, .int .u8 a19, .int .u8 a20, .int .u8 a21, .int .u8 a22, .int .u8 a23] := rfl
theorem u8s8 (a0 a1 a2 a3 a4 a5 a6 a7 : Int) : (u8s [a0, a1, a2, a3, a4, a5, a6, a7]).toArray = #[.int .u8 a0, .int .u8 a1, .int .u8 a2, .int .u8 a3, .int .u8 a4, .int .u8 a5, .int .u8 a6, .int .u8 a7] := rfl

theorem put_lit (l : List Value) (d : Nat) (v : Value) (ds : List _) : ({ tmps := l.toArray, defers := ds } : Act).put (some d) v = { tmps := (l.set d v).toArray, defers := ds } := by
  simp [Act.put]
set_option maxRecDepth 20000 in
set_option maxHeartbeats 4000000 in
theorem iopen_badkey (v hv bv : Value) (k : K4) (num : Int) (w : World) (hk : KRow w v k) (ho : ¬ kok k) :
    Calls Try.prog 23 #[v, .int .i64 num, hv, bv] w fun e w' => ∃ r, e = .returned (.tuple #[r, .int .i64 1]) ∧ w'.ownsRow w.heap.size 5 1 r 0 (([] : List Int).map (Value.int .u8)) ∧ Below w.heap.size w w' := by
  obtain ⟨v0, v1, v2, v3, rfl, r0, r1, r2, r3⟩ := id hk
  have C0 : Below w.heap.size w (w.alloc (.cells #[v0, v1, v2, v3] 38)) := (Below.refl _ _).alloc (Nat.le_refl _) _
  have HW : Hid _ := And.intro (innerOf_bad _ k _ (hk.below C0) ho) (And.intro C0 True.intro)
  clear r0 r1 r2 r3 C0 ho hk
  go_enter Try.func23, Try.ntmps23
  go_wp2_with fail
  go_at_call 33
  refine HW.out.1.mono ?_
  rintro e w1 ⟨rfl, b1⟩
  have H1 : Hid _ := And.intro (HW.out.2.1.trans (b1.mono HW.out.2.1.size)) True.intro
  have z1 : w.heap.size ≤ w1.heap.size := H1.out.1.size
  clear b1
  go_wp2_with (refine wpList_store_at rfl 55 (.tmp 10) (.tmp 18) rfl w1.heap.size _ rfl rfl 55 _ (MapKept.heap_alloc w1 _).1 (infoIs _ (by simp)) (by simp [u8s_length]) (u8s_all _) ?_; intro w2 h2 m2)
  go_ret2
  exact ⟨_, rfl, World.ownsRow_nil _ _ _ _, (H1.out.1.alloc (by omega) _).trans (m2.below (by omega))⟩

set_option maxRecDepth 20000 in
set_option maxHeartbeats 4000000 in
theorem iopen_badnum (v hv bv : Value) (k : K4) (num : Int) (w : World) (hk : KRow w v k) (ho : kok k) (hn : num < 0 ∨ 4611686018427387903 < num) :
    Calls Try.prog 23 #[v, .int .i64 num, hv, bv] w fun e w' => ∃ r, e = .returned (.tuple #[r, .int .i64 1]) ∧ w'.ownsRow w.heap.size 5 1 r 0 (([] : List Int).map (Value.int .u8)) ∧ Below w.heap.size w w' := by
  obtain ⟨v0, v1, v2, v3, rfl, r0, r1, r2, r3⟩ := id hk
  have C0 : Below w.heap.size w (w.alloc (.cells #[v0, v1, v2, v3] 38)) := (Below.refl _ _).alloc (Nat.le_refl _) _
  have HW : Hid _ := And.intro (innerOf_ok _ k _ (hk.below C0) ho) (And.intro C0 (inL_length k ho))
  clear r0 r1 r2 r3 C0 ho hk
  go_enter Try.func23, Try.ntmps23
  go_wp2_with fail
  go_at_call 33
  refine HW.out.1.mono ?_
  rintro e w1 ⟨rfl, b1⟩
  have H1 : Hid _ := And.intro (HW.out.2.1.trans (b1.mono HW.out.2.1.size)) True.intro
  have z1 : w.heap.size ≤ w1.heap.size := H1.out.1.size
  clear b1
  go_wp2_with (first
    | (refine wpList_store_at rfl 55 (.tmp 10) (.tmp 18) rfl w1.heap.size _ rfl rfl 55 _ (MapKept.heap_alloc w1 _).1 (infoIs _ HW.out.2.2) (by simp [u8s_length, HW.out.2.2]) (u8s_all _) ?_; intro w2 h2 m2)
    | (go_at_call 34; refine (vnum_bad num _ hn).mono ?_; rintro e w' ⟨rfl, hw⟩; subst w'))
  go_ret2
  exact ⟨_, rfl, World.ownsRow_nil _ _ _ _, (H1.out.1.alloc (by omega) _).trans (m2.below (by omega))⟩

set_option maxRecDepth 20000 in
set_option maxHeartbeats 4000000 in
theorem iopen_long (v : Value) (ah ab : Option Addr) (nh nb ph pb : Nat) (k : K4) (num : Int) (w : World) (hk : KRow w v k) (ho : kok k) (h0 : 0 ≤ num) (h1 : num ≤ 4611686018427387903) (hl : 1508 < nh + nb) (hh : nh ≤ 1099511627776) (hbb : nb ≤ 1099511627776) :
    Calls Try.prog 23 #[v, .int .i64 num, .slice ah nh ph, .slice ab nb pb] w fun e w' => ∃ r, e = .returned (.tuple #[r, .int .i64 4]) ∧ w'.ownsRow w.heap.size 5 1 r 0 (([] : List Int).map (Value.int .u8)) ∧ Below w.heap.size w w' := by
  obtain ⟨v0, v1, v2, v3, rfl, r0, r1, r2, r3⟩ := id hk
  have C0 : Below w.heap.size w (w.alloc (.cells #[v0, v1, v2, v3] 38)) := (Below.refl _ _).alloc (Nat.le_refl _) _
  have HW : Hid _ := And.intro (innerOf_ok _ k _ (hk.below C0) ho) (And.intro C0 (inL_length k ho))
  clear r0 r1 r2 r3 C0 ho hk
  go_enter Try.func23, Try.ntmps23
  go_wp2_with fail
  go_at_call 33
  refine HW.out.1.mono ?_
  rintro e w1 ⟨rfl, b1⟩
  have H1 : Hid _ := And.intro (HW.out.2.1.trans (b1.mono HW.out.2.1.size)) True.intro
  have z1 : w.heap.size ≤ w1.heap.size := H1.out.1.size
  clear b1
  go_wp2_with (first
    | (refine wpList_store_at rfl 55 (.tmp 10) (.tmp 18) rfl w1.heap.size _ rfl rfl 55 _ (MapKept.heap_alloc w1 _).1 (infoIs _ HW.out.2.2) (by simp [u8s_length, HW.out.2.2]) (u8s_all _) ?_; intro w2 h2 m2)
    | (go_at_call 34; refine (vnum_ok num _ h0 h1).mono ?_; rintro e w' ⟨rfl, hw⟩; subst w'))
  go_ret2
  exact ⟨_, rfl, World.ownsRow_nil _ _ _ _, (H1.out.1.alloc (by omega) _).trans (m2.below (by omega))⟩

set_option maxRecDepth 20000 in
set_option maxHeartbeats 4000000 in
theorem iopen_short (v : Value) (ah ab : Option Addr) (nh nb ph pb : Nat) (k : K4) (num : Int) (w : World) (hk : KRow w v k) (ho : kok k) (h0 : 0 ≤ num) (h1 : num ≤ 4611686018427387903) (hl : nh + nb ≤ 1508) (h8 : nb < 8) (hh : nh ≤ 1099511627776) (hbb : nb ≤ 1099511627776) :
    Calls Try.prog 23 #[v, .int .i64 num, .slice ah nh ph, .slice ab nb pb] w fun e w' => ∃ r, e = .returned (.tuple #[r, .int .i64 2]) ∧ w'.ownsRow w.heap.size 5 1 r 0 (([] : List Int).map (Value.int .u8)) ∧ Below w.heap.size w w' := by
  obtain ⟨v0, v1, v2, v3, rfl, r0, r1, r2, r3⟩ := id hk
  have C0 : Below w.heap.size w (w.alloc (.cells #[v0, v1, v2, v3] 38)) := (Below.refl _ _).alloc (Nat.le_refl _) _
  have HW : Hid _ := And.intro (innerOf_ok _ k _ (hk.below C0) ho) (And.intro C0 (inL_length k ho))
  clear r0 r1 r2 r3 C0 ho hk
  go_enter Try.func23, Try.ntmps23
  go_wp2_with fail
  go_at_call 33
  refine HW.out.1.mono ?_
  rintro e w1 ⟨rfl, b1⟩
  have H1 : Hid _ := And.intro (HW.out.2.1.trans (b1.mono HW.out.2.1.size)) True.intro
  have z1 : w.heap.size ≤ w1.heap.size := H1.out.1.size
  clear b1
  go_wp2_with (first
    | (refine wpList_store_at rfl 55 (.tmp 10) (.tmp 18) rfl w1.heap.size _ rfl rfl 55 _ (MapKept.heap_alloc w1 _).1 (infoIs _ HW.out.2.2) (by simp [u8s_length, HW.out.2.2]) (u8s_all _) ?_; intro w2 h2 m2)
    | (go_at_call 34; refine (vnum_ok num _ h0 h1).mono ?_; rintro e w' ⟨rfl, hw⟩; subst w'))
  go_ret2
  exact ⟨_, rfl, World.ownsRow_nil _ _ _ _, (H1.out.1.alloc (by omega) _).trans (m2.below (by omega))⟩


theorem infoT8 : (Try.prog.info? 53).map (·.size) = some 8 := by kernel_rfl
theorem infoTs (xs : List Int) (h : xs.length = 8) : (Try.prog.info? 53).map (·.size) = some (u8s xs).toArray.size := by rw [infoT8]; simp [u8s_length, h]
/-- An operation without a guard, as one step of a region that draws. -/
theorem step_wp {ops : Array Oper} {o : Oper} {a : Act} {w : World} {K : Act → World → Prop} {Q : Exit → Act → World → Prop} {E : Prop} (hgd : o.guard = none) (h : Oper.wp Try.prog o a w K Q) :
    if Region.wanted o (yielded ops a.tmps) = true then Oper.wp Try.prog o a w K Q else E := by
  have hw : Region.wanted o (yielded ops a.tmps) = true := by simp [Region.wanted, hgd]
  rw [if_pos hw]
  exact h
/-- Two arrays of eight bytes compared, as one step of a region that draws. -/
theorem step_neq8 {ops : Array Oper} {o : Oper} {a : Act} {w : World} {K : Act → World → Prop} {Q : Exit → Act → World → Prop} {E : Prop} (hgd : o.guard = none) (p q : Operand) (ho : o.op = .binOp .neq 53 p q 53)
    (xs ys : List Int) (lx : xs.length = 8) (ly : ys.length = 8) (hp : a.eval p = .agg (u8s xs).toArray) (hq : a.eval q = .agg (u8s ys).toArray)
    (b : Bool) (hb : b = !(decide (xs = ys))) (h : K (a.put o.dst (.bool b)) w) : if Region.wanted o (yielded ops a.tmps) = true then Oper.wp Try.prog o a w K Q else E := by
  have hw : Region.wanted o (yielded ops a.tmps) = true := by simp [Region.wanted, hgd]
  rw [if_pos hw]
  obtain ⟨x0, x1, x2, x3, x4, x5, x6, x7, rfl⟩ := list8 xs lx
  obtain ⟨y0, y1, y2, y3, y4, y5, y6, y7, rfl⟩ := list8 ys ly
  have EQ := eq8 x0 x1 x2 x3 x4 x5 x6 x7 y0 y1 y2 y3 y4 y5 y6 y7 9998 w
  have ux : (u8s [x0, x1, x2, x3, x4, x5, x6, x7]).toArray = #[.int .u8 x0, .int .u8 x1, .int .u8 x2, .int .u8 x3, .int .u8 x4, .int .u8 x5, .int .u8 x6, .int .u8 x7] := rfl
  have uy : (u8s [y0, y1, y2, y3, y4, y5, y6, y7]).toArray = #[.int .u8 y0, .int .u8 y1, .int .u8 y2, .int .u8 y3, .int .u8 y4, .int .u8 y5, .int .u8 y6, .int .u8 y7] := rfl
  rw [ux] at hp
  rw [uy] at hq
  have hgu : (eqGuard .neq 53 p q (a.eval p) (a.eval q)).run Try.prog w = .ok () w := by
    simp [eqGuard, hp, hq, run_underlying Try.underlying53]
  rw [hp, hq] at hgu
  generalize hX : (Value.agg #[.int .u8 x0, .int .u8 x1, .int .u8 x2, .int .u8 x3, .int .u8 x4, .int .u8 x5, .int .u8 x6, .int .u8 x7]) = X at hp hgu EQ
  generalize hY : (Value.agg #[.int .u8 y0, .int .u8 y1, .int .u8 y2, .int .u8 y3, .int .u8 y4, .int .u8 y5, .int .u8 y6, .int .u8 y7]) = Y at hq hgu EQ
  have hbin : (binOp .neq 53 X Y).run Try.prog w = .ok (.bool b) w := by
    subst hX hY
    unfold binOp
    simp only [Op.equal]
    have EQ' : (Op.equalIn Op.maxDepth 53 (Value.agg #[.int .u8 x0, .int .u8 x1, .int .u8 x2, .int .u8 x3, .int .u8 x4, .int .u8 x5, .int .u8 x6, .int .u8 x7]) (Value.agg #[.int .u8 y0, .int .u8 y1, .int .u8 y2, .int .u8 y3, .int .u8 y4, .int .u8 y5, .int .u8 y6, .int .u8 y7])).run Try.prog w = _ := EQ
    simp only [Sem.run_bind, EQ', Result.andThen_ok, Sem.run_pure, hb]
  unfold Oper.wp execOp
  simp only [ho, hp, hq, Sem.run_bind, hgu, hbin, Result.andThen_ok, Sem.run_pure]
  exact h

set_option maxRecDepth 20000 in
set_option maxHeartbeats 8000000 in
theorem iopen_right (v : Value) (ah : Option Addr) (ph b off n pb : Nat) (k : K4) (num : Int) (hd xs : List Int) (w : World) (hk : KRow w v k) (kb : k.bytes) (ho : kok k) (h0 : 0 ≤ num) (h1 : num ≤ 4611686018427387903) (hN : xs.length = n + 8) (hl : hd.length + (n + 8) ≤ 1508)
    (hh : Row w .u8 (.slice ah hd.length ph) hd) (hx : Row w .u8 (.slice (some ⟨b, off, none⟩) (n + 8) pb) xs) (bh : Bytes hd) (bx : Bytes xs) (hcmp : tagV k.b (nonV k num) hd (xs.take n) = xs.drop n) :
    Calls Try.prog 23 #[v, .int .i64 num, .slice ah hd.length ph, .slice (some ⟨b, off, none⟩) (n + 8) pb] w fun e w' => ∃ r, e = .returned (.tuple #[r, .int .i64 0]) ∧ w'.ownsRow w.heap.size 5 1 r (overV k num (xs.take n)).length ((overV k num (xs.take n)).map (Value.int .u8)) ∧ Below w.heap.size w w' := by
  obtain ⟨v0, v1, v2, v3, rfl, r0, r1, r2, r3⟩ := id hk
  have C0 : Below w.heap.size w (w.alloc (.cells #[v0, v1, v2, v3] 38)) := (Below.refl _ _).alloc (Nat.le_refl _) _
  obtain ⟨nh, enh⟩ : ∃ m, m = hd.length := ⟨_, rfl⟩
  have ln : (nonV k num).length = 8 := by rw [nonV_length]; exact ho.2.2.1
  have lp : (k.b ++ nonV k num).length = 24 := by rw [List.length_append, ln, ho.2.1]
  obtain ⟨b', off', cap', ex, hbl, ⟨hc1, hc2⟩, hcx⟩ := hx.full (by omega)
  simp only [Value.slice.injEq, Option.some.injEq, Addr.mk.injEq] at ex
  obtain ⟨⟨rfl, rfl, _⟩, e8, rfl⟩ := ex
  clear e8
  have hcm : pb ≤ 9223372036854775807 := by have h := hc2; unfold maxLen at h; omega
  have hcn : n + 8 ≤ pb := by omega
  have rt : Row w .u8 (.slice (some ⟨b, off, none⟩) n pb) (xs.take n) := by
    have := row_cut (cap := 0) (at' := 0) (n := n) (cap' := pb) hbl hcx (by omega) ⟨by omega, hc2⟩
    simpa using this
  have rd : Row w .u8 (.slice (some ⟨b, off + n, none⟩) 8 (pb - n)) (xs.drop n) := by
    have := row_cut (cap := 0) (at' := n) (n := 8) (cap' := pb - n) hbl hcx (by omega) ⟨by omega, by omega⟩
    rwa [List.take_of_length_le (by rw [List.length_drop]; omega)] at this
  have ld : (xs.drop n).length = 8 := by rw [List.length_drop]; omega
  have lt : (xs.take n).length = n := by rw [List.length_take]; omega
  have HW : Hid _ := And.intro (innerOf_ok _ k _ (hk.below C0) ho) (And.intro C0 (And.intro (inL_length k ho) (And.intro ho (And.intro kb (And.intro (And.intro hh (And.intro rt rd)) (And.intro (And.intro bh (bx.take n)) (And.intro (And.intro enh (And.intro ld lt)) (And.intro (And.intro ln lp) hcmp))))))))
  have HLX : Hid ((xs.take n).length ≤ 1048576 ∧ Bytes (nonV k num)) := And.intro (by rw [lt]; omega) (xl_bytes _ _ _)
  rw [← enh] at hl ⊢
  clear r0 r1 r2 r3 C0 ho hk kb hh bh bx enh ln lp hcx hx rt rd ld lt hcmp hc1 hc2 hN
  go_enter Try.func23, Try.ntmps23
  go_wp2_with fail
  go_at_call 33
  refine HW.out.1.mono ?_
  rintro e w1 ⟨rfl, b1⟩
  have H1 : Hid _ := And.intro (HW.out.2.1.trans (b1.mono HW.out.2.1.size)) True.intro
  have z1 : w.heap.size ≤ w1.heap.size := H1.out.1.size
  clear b1
  go_wp2_with (first
    | (refine wpList_store_at rfl 55 (.tmp 10) (.tmp 18) rfl w1.heap.size _ rfl rfl 55 _ (MapKept.heap_alloc w1 _).1 (infoIs _ HW.out.2.2.1) (by simp [u8s_length, HW.out.2.2.1]) (u8s_all _) ?_; intro w2 h2 m2)
    | (go_at_call 34; refine (vnum_ok num _ h0 h1).mono ?_; rintro e w' ⟨rfl, hw⟩; subst w'))
  have C2 : Below w.heap.size w w2 := (H1.out.1.alloc (by omega) _).trans (m2.below (by omega))
  have K2 : Book (w2.alloc Z8e) [(w2.heap.size, Z8e), (w1.heap.size, .cells (u8s (inL k)).toArray 55 (0, 0))] := Book.add ⟨fun q o hm => by
    simp only [List.mem_cons, Prod.mk.injEq, List.not_mem_nil, or_false] at hm
    obtain ⟨rfl, rfl⟩ := hm
    exact h2⟩ Z8e
  have z2 : w1.heap.size < w2.heap.size := (Array.getElem?_eq_some_iff.1 h2).1
  have H2 : Hid _ := And.intro (C2.alloc C2.size Z8e) K2
  have z2w : w.heap.size ≤ w2.heap.size := C2.size
  clear h2 m2 C2 K2
  have RD : Hid (Row (w2.alloc Z8e).drew .u8 (.slice (some ⟨b, off + n, none⟩) 8 (pb - n)) (xs.drop n)) := (HW.out.2.2.2.2.2.1.2.2.below H2.out.1).drewN 1
  have G8 : Hid ((w2.alloc Z8e).drew.heap[w2.heap.size]? = some (.cells (u8s (List.replicate 8 0)).toArray 53 (0, 0))) := H2.out.2.blk _ _ (List.mem_cons_self ..)
  have hpn : ¬ pb = n := by omega
  have e88 : n + 8 - n = 8 := by omega
  have hnn : (n : Int) ≤ (n : Int) + 8 := by omega
  go_region_law (refine step_copy_at rfl (.tmp 41) (.tmp 45) 22 22 rfl 5 Try.underlying22 infoU8s w2.heap.size 0 8 8 _ rfl rfl (xs.drop n) RD.out (by rw [HW.out.2.2.2.2.2.2.2.1.2.1]; decide) (List.replicate 8 0) 53 G8.out 8 (by rw [HW.out.2.2.2.2.2.2.2.1.2.1]; rfl) (by simp) ?_; intro w3 h3 m3)
  have e3 : splice (List.replicate 8 (0 : Int)) 0 ((xs.drop n).take 8) = xs.drop n := by
    have : ((xs.drop n).take 8) = xs.drop n := List.take_of_length_le (by rw [HW.out.2.2.2.2.2.2.2.1.2.1]; decide)
    rw [this]
    simp [splice, HW.out.2.2.2.2.2.2.2.1.2.1]
  rw [e3] at h3
  have C3 : Below w.heap.size w w3 := (below_drewN H2.out.1 1).trans (m3.below z2w)
  have K3 : w3.heap[w1.heap.size]? = some (.cells (u8s (inL k)).toArray 55 (0, 0)) := (m3.block w1.heap.size (fun e => by have := Option.some.inj e; omega)).trans (H2.out.2.drew.blk _ _ (List.mem_cons_of_mem _ (List.mem_cons_self ..)))
  have z3 : w2.heap.size < w3.heap.size := (Array.getElem?_eq_some_iff.1 h3).1
  have H3 : Hid _ := And.intro C3 (And.intro h3 K3)
  clear e3 h3 m3 C3 K3 RD G8 hpn e88 hnn
  go_wp2_with (refine wpList_load_row rfl 55 (.tmp 10) rfl w1.heap.size rfl 55 _ (0, 0) _ H3.out.2.2 Try.underlying55 rfl (infoIs _ HW.out.2.2.1) ?_)
  go_at_call 35
  refine (packet_ok k num w3 HW.out.2.2.2.1 h0 h1).mono ?_
  rintro e w4 ⟨rfl, b4⟩
  have H4 : Hid _ := And.intro (H3.out.1.trans (b4.mono H3.out.1.size)) ((b4.block _ z3).trans H3.out.2.1)
  have z4 : w2.heap.size < w4.heap.size := (Array.getElem?_eq_some_iff.1 H4.out.2).1
  clear b4
  go_wp2_with (refine wpList_store_at rfl 59 (.tmp 14) (.tmp 49) rfl w4.heap.size _ rfl rfl 59 _ (MapKept.heap_alloc w4 _).1 (infoPs _ HW.out.2.2.2.2.2.2.2.2.1.2) (by simp [u8s_length, HW.out.2.2.2.2.2.2.2.2.1.2]) (u8s_all _) ?_; intro w5 h5 m5)
  have C5 : Below w.heap.size w w5 := (H4.out.1.alloc H4.out.1.size _).trans (m5.below H4.out.1.size)
  have K5 : w5.heap[w2.heap.size]? = some (.cells (u8s (xs.drop n)).toArray 53 (0, 0)) := ((m5.block _ (fun e => by have := Option.some.inj e; omega)).trans (Below.heap_alloc w4 _ _ z4)).trans H4.out.2
  have z5 : w4.heap.size < w5.heap.size := (Array.getElem?_eq_some_iff.1 h5).1
  have H5 : Hid _ := And.intro C5 (And.intro h5 K5)
  have TG := tag_ok k.b (nonV k num) hd (xs.take n) (.slice ah nh ph) (.slice (some ⟨b, off, none⟩) n pb) w5.drew (by rw [HW.out.2.2.2.2.2.2.2.1.1]; exact (HW.out.2.2.2.2.2.1.1.below C5).drewN 1) ((HW.out.2.2.2.2.2.1.2.1.below C5).drewN 1) HW.out.2.2.2.1.2.1 HW.out.2.2.2.2.2.2.2.2.1.1 HW.out.2.2.2.2.1.2.1 (xl_bytes _ _ _) HW.out.2.2.2.2.2.2.1.1 HW.out.2.2.2.2.2.2.1.2 (by have := HW.out.2.2.2.2.2.2.2.1.1; omega) (by rw [HW.out.2.2.2.2.2.2.2.1.2.2]; omega)
  have HT : Hid _ := And.intro TG True.intro
  have HB : Hid (false = !(decide (tagV k.b (nonV k num) hd (xs.take n) = xs.drop n))) := by show _ = _; rw [decide_eq_true HW.out.2.2.2.2.2.2.2.2.2]; rfl
  clear h5 m5 C5 K5 TG
  dsimp only [Act.put]
  go_upto_region 12 with fail
  go_cut [55] from 15 to 55 (fun c wx => c = .bool false ∧ Below w5.heap.size w5 wx)
  case first =>
    rename_i J K' hJ hK'
    have z25 : w2.heap.size < w5.heap.size := by omega
    refine wp_region_any (by kernel_rfl) ?_
    try (change wpAny _ _ _ _ _ _ _ (World.drew _))
    refine wpAny_take (i := 1) (v := ?v1) rfl (by kernel_rfl) (by kernel_rfl) (by kernel_rfl) (fun _ _ _ h => h) (Or.inl ⟨by rfl, ?y1⟩) ?r1
    case y1 => (intro w; go_simp; try with_reducible rfl)
    case r1 =>
      try (change wpAny _ _ _ _ _ _ (Act.put _ (some 51) _) _; rw [put_lit]; simp only [List.set_cons_succ, List.set_cons_zero])
      refine wpAny_take (i := 2) (v := ?v2) rfl (by kernel_rfl) (by kernel_rfl) (by kernel_rfl) (fun _ _ _ h => h) (Or.inl ⟨by rfl, ?y2⟩) ?r2
      case y2 => (intro w; go_simp; try with_reducible rfl)
      case r2 =>
        try (change wpAny _ _ _ _ _ _ (Act.put _ (some 52) _) _; rw [put_lit]; simp only [List.set_cons_succ, List.set_cons_zero])
        refine wpAny_ready (rs := [0, 4]) (by kernel_rfl) (by simp) ?_
        refine AllReady.cons rfl (fun K hK => ?_) ?_
        · refine step_wp rfl (wp_load_row 59 (.tmp 14) rfl w4.heap.size rfl 59 _ (0, 0) _ H5.out.2.1 Try.underlying59 rfl (infoPs _ HW.out.2.2.2.2.2.2.2.2.1.2) ?_)
          refine hK _ _ ?_
          clear hK K
          try (change wpAny _ _ _ _ _ _ (Act.put _ (some 50) _) _; rw [put_lit]; simp only [List.set_cons_succ, List.set_cons_zero])
          refine wpAny_ready (rs := [3, 4]) (by kernel_rfl) (by simp) ?_
          refine AllReady.cons rfl (fun K hK => ?_) ?_
          · go_simp
            go_at_call 37
            refine HT.out.1.mono ?_
            rintro e w6 ⟨rfl, b6⟩
            have K6 := (b6.block w2.heap.size z25).trans H5.out.2.2
            dsimp only
            refine hK _ _ ?_
            clear hK K
            try (change wpAny _ _ _ _ _ _ (Act.put _ (some 53) _) _; rw [put_lit]; simp only [List.set_cons_succ, List.set_cons_zero])
            refine wpAny_ready (rs := [4]) (by kernel_rfl) (by simp) ?_
            refine AllReady.cons rfl (fun K hK => ?_) ?_
            · refine step_wp rfl (wp_load_row 53 (.tmp 13) rfl w2.heap.size rfl 53 _ (0, 0) _ K6 Try.underlying53 rfl (infoTs _ HW.out.2.2.2.2.2.2.2.1.2.1) ?_)
              refine hK _ _ ?_
              clear hK K
              try (change wpAny _ _ _ _ _ _ (Act.put _ (some 54) _) _; rw [put_lit]; simp only [List.set_cons_succ, List.set_cons_zero])
              refine wpAny_ready (rs := [5]) (by kernel_rfl) (by simp) ?_
              refine AllReady.cons rfl (fun K hK => ?_) ?_
              · refine step_neq8 rfl (.tmp 53) (.tmp 54) rfl _ _ (tagV_length _ _ _ _) HW.out.2.2.2.2.2.2.2.1.2.1 rfl rfl _ HB.out ?_
                refine hK _ _ ?_
                clear hK K
                try (change wpAny _ _ _ _ _ _ (Act.put _ (some 55) _) _; rw [put_lit]; simp only [List.set_cons_succ, List.set_cons_zero])
                refine wpAny_done (by kernel_rfl) ?_ _
                change K' _ _
                refine hK' _ _ (Met.intro (hJ _ _ ?_))
                (repeat apply Exists.intro)
                refine ⟨?_, rfl⟩
                exact ⟨rfl, Below.trans (below_drewN (Below.refl _ _) 1) b6⟩
              exact AllReady.nil
            exact AllReady.nil
          refine AllReady.cons rfl (fun K hK => ?_) ?_
          · refine step_wp rfl (wp_load_row 53 (.tmp 13) rfl w2.heap.size rfl 53 _ (0, 0) _ H5.out.2.2 Try.underlying53 rfl (infoTs _ HW.out.2.2.2.2.2.2.2.1.2.1) ?_)
            refine hK _ _ ?_
            clear hK K
            try (change wpAny _ _ _ _ _ _ (Act.put _ (some 54) _) _; rw [put_lit]; simp only [List.set_cons_succ, List.set_cons_zero])
            refine wpAny_ready (rs := [3]) (by kernel_rfl) (by simp) ?_
            refine AllReady.cons rfl (fun K hK => ?_) ?_
            · go_simp
              go_at_call 37
              refine HT.out.1.mono ?_
              rintro e w6 ⟨rfl, b6⟩
              have K6 := (b6.block w2.heap.size z25).trans H5.out.2.2
              dsimp only
              refine hK _ _ ?_
              clear hK K
              try (change wpAny _ _ _ _ _ _ (Act.put _ (some 53) _) _; rw [put_lit]; simp only [List.set_cons_succ, List.set_cons_zero])
              refine wpAny_ready (rs := [5]) (by kernel_rfl) (by simp) ?_
              refine AllReady.cons rfl (fun K hK => ?_) ?_
              · refine step_neq8 rfl (.tmp 53) (.tmp 54) rfl _ _ (tagV_length _ _ _ _) HW.out.2.2.2.2.2.2.2.1.2.1 rfl rfl _ HB.out ?_
                refine hK _ _ ?_
                clear hK K
                try (change wpAny _ _ _ _ _ _ (Act.put _ (some 55) _) _; rw [put_lit]; simp only [List.set_cons_succ, List.set_cons_zero])
                refine wpAny_done (by kernel_rfl) ?_ _
                change K' _ _
                refine hK' _ _ (Met.intro (hJ _ _ ?_))
                (repeat apply Exists.intro)
                refine ⟨?_, rfl⟩
                exact ⟨rfl, Below.trans (below_drewN (Below.refl _ _) 1) b6⟩
              exact AllReady.nil
            exact AllReady.nil
          exact AllReady.nil
        refine AllReady.cons rfl (fun K hK => ?_) ?_
        · refine step_wp rfl (wp_load_row 53 (.tmp 13) rfl w2.heap.size rfl 53 _ (0, 0) _ H5.out.2.2 Try.underlying53 rfl (infoTs _ HW.out.2.2.2.2.2.2.2.1.2.1) ?_)
          refine hK _ _ ?_
          clear hK K
          try (change wpAny _ _ _ _ _ _ (Act.put _ (some 54) _) _; rw [put_lit]; simp only [List.set_cons_succ, List.set_cons_zero])
          refine wpAny_ready (rs := [0]) (by kernel_rfl) (by simp) ?_
          refine AllReady.cons rfl (fun K hK => ?_) ?_
          · refine step_wp rfl (wp_load_row 59 (.tmp 14) rfl w4.heap.size rfl 59 _ (0, 0) _ H5.out.2.1 Try.underlying59 rfl (infoPs _ HW.out.2.2.2.2.2.2.2.2.1.2) ?_)
            refine hK _ _ ?_
            clear hK K
            try (change wpAny _ _ _ _ _ _ (Act.put _ (some 50) _) _; rw [put_lit]; simp only [List.set_cons_succ, List.set_cons_zero])
            refine wpAny_ready (rs := [3]) (by kernel_rfl) (by simp) ?_
            refine AllReady.cons rfl (fun K hK => ?_) ?_
            · go_simp
              go_at_call 37
              refine HT.out.1.mono ?_
              rintro e w6 ⟨rfl, b6⟩
              have K6 := (b6.block w2.heap.size z25).trans H5.out.2.2
              dsimp only
              refine hK _ _ ?_
              clear hK K
              try (change wpAny _ _ _ _ _ _ (Act.put _ (some 53) _) _; rw [put_lit]; simp only [List.set_cons_succ, List.set_cons_zero])
              refine wpAny_ready (rs := [5]) (by kernel_rfl) (by simp) ?_
              refine AllReady.cons rfl (fun K hK => ?_) ?_
              · refine step_neq8 rfl (.tmp 53) (.tmp 54) rfl _ _ (tagV_length _ _ _ _) HW.out.2.2.2.2.2.2.2.1.2.1 rfl rfl _ HB.out ?_
                refine hK _ _ ?_
                clear hK K
                try (change wpAny _ _ _ _ _ _ (Act.put _ (some 55) _) _; rw [put_lit]; simp only [List.set_cons_succ, List.set_cons_zero])
                refine wpAny_done (by kernel_rfl) ?_ _
                change K' _ _
                refine hK' _ _ (Met.intro (hJ _ _ ?_))
                (repeat apply Exists.intro)
                refine ⟨?_, rfl⟩
                exact ⟨rfl, Below.trans (below_drewN (Below.refl _ _) 1) b6⟩
              exact AllReady.nil
            exact AllReady.nil
          exact AllReady.nil
        exact AllReady.nil
  case rest =>
  clear HT HB
  obtain ⟨rfl, bc⟩ := hcut
  have H6 : Hid _ := And.intro (H5.out.1.trans (bc.mono H5.out.1.size)) ((bc.block w4.heap.size z5).trans H5.out.2.1)
  clear bc
  go_wp2_with (refine wpList_load_row rfl 59 (.tmp 14) rfl w4.heap.size rfl 59 _ (0, 0) _ H6.out.2 Try.underlying59 rfl (infoPs _ HW.out.2.2.2.2.2.2.2.2.1.2) ?_)
  go_at_call 36
  have CV := cover_ok k.b (nonV k num) (xs.take n) (.slice (some ⟨b, off, none⟩) n pb) wc (HW.out.2.2.2.2.2.1.2.1.below H6.out.1) HW.out.2.2.2.2.2.2.1.2 HW.out.2.2.2.1.2.1 HW.out.2.2.2.2.2.2.2.2.1.1 HW.out.2.2.2.2.1.2.1 HLX.out.2 HLX.out.1
  refine CV.mono ?_
  rintro e w7 ⟨r7, rfl, o7, b7⟩
  have H7 : Hid _ := And.intro o7 (H6.out.1.trans (b7.mono H6.out.1.size))
  clear o7 b7
  go_wp2
  go_ret2
  refine ⟨_, rfl, ?_, H7.out.2⟩
  rw [overV_length]
  exact owns_mono H7.out.1 H6.out.1.size


set_option maxRecDepth 20000 in
set_option maxHeartbeats 8000000 in
theorem iopen_wrong (v : Value) (ah : Option Addr) (ph b off n pb : Nat) (k : K4) (num : Int) (hd xs : List Int) (w : World) (hk : KRow w v k) (kb : k.bytes) (ho : kok k) (h0 : 0 ≤ num) (h1 : num ≤ 4611686018427387903) (hN : xs.length = n + 8) (hl : hd.length + (n + 8) ≤ 1508)
    (hh : Row w .u8 (.slice ah hd.length ph) hd) (hx : Row w .u8 (.slice (some ⟨b, off, none⟩) (n + 8) pb) xs) (bh : Bytes hd) (bx : Bytes xs) (hcmp : tagV k.b (nonV k num) hd (xs.take n) ≠ xs.drop n) :
    Calls Try.prog 23 #[v, .int .i64 num, .slice ah hd.length ph, .slice (some ⟨b, off, none⟩) (n + 8) pb] w fun e w' => ∃ r, e = .returned (.tuple #[r, .int .i64 5]) ∧ w'.ownsRow w.heap.size 5 1 r ([] : List Int).length (([] : List Int).map (Value.int .u8)) ∧ Below w.heap.size w w' := by
  obtain ⟨v0, v1, v2, v3, rfl, r0, r1, r2, r3⟩ := id hk
  have C0 : Below w.heap.size w (w.alloc (.cells #[v0, v1, v2, v3] 38)) := (Below.refl _ _).alloc (Nat.le_refl _) _
  obtain ⟨nh, enh⟩ : ∃ m, m = hd.length := ⟨_, rfl⟩
  have ln : (nonV k num).length = 8 := by rw [nonV_length]; exact ho.2.2.1
  have lp : (k.b ++ nonV k num).length = 24 := by rw [List.length_append, ln, ho.2.1]
  obtain ⟨b', off', cap', ex, hbl, ⟨hc1, hc2⟩, hcx⟩ := hx.full (by omega)
  simp only [Value.slice.injEq, Option.some.injEq, Addr.mk.injEq] at ex
  obtain ⟨⟨rfl, rfl, _⟩, e8, rfl⟩ := ex
  clear e8
  have hcm : pb ≤ 9223372036854775807 := by have h := hc2; unfold maxLen at h; omega
  have hcn : n + 8 ≤ pb := by omega
  have rt : Row w .u8 (.slice (some ⟨b, off, none⟩) n pb) (xs.take n) := by
    have := row_cut (cap := 0) (at' := 0) (n := n) (cap' := pb) hbl hcx (by omega) ⟨by omega, hc2⟩
    simpa using this
  have rd : Row w .u8 (.slice (some ⟨b, off + n, none⟩) 8 (pb - n)) (xs.drop n) := by
    have := row_cut (cap := 0) (at' := n) (n := 8) (cap' := pb - n) hbl hcx (by omega) ⟨by omega, by omega⟩
    rwa [List.take_of_length_le (by rw [List.length_drop]; omega)] at this
  have ld : (xs.drop n).length = 8 := by rw [List.length_drop]; omega
  have lt : (xs.take n).length = n := by rw [List.length_take]; omega
  have HW : Hid _ := And.intro (innerOf_ok _ k _ (hk.below C0) ho) (And.intro C0 (And.intro (inL_length k ho) (And.intro ho (And.intro kb (And.intro (And.intro hh (And.intro rt rd)) (And.intro (And.intro bh (bx.take n)) (And.intro (And.intro enh (And.intro ld lt)) (And.intro (And.intro ln lp) hcmp))))))))
  rw [← enh] at hl ⊢
  clear r0 r1 r2 r3 C0 ho hk kb hh bh bx enh ln lp hcx hx rt rd ld lt hcmp hc1 hc2 hN
  go_enter Try.func23, Try.ntmps23
  go_wp2_with fail
  go_at_call 33
  refine HW.out.1.mono ?_
  rintro e w1 ⟨rfl, b1⟩
  have H1 : Hid _ := And.intro (HW.out.2.1.trans (b1.mono HW.out.2.1.size)) True.intro
  have z1 : w.heap.size ≤ w1.heap.size := H1.out.1.size
  clear b1
  go_wp2_with (first
    | (refine wpList_store_at rfl 55 (.tmp 10) (.tmp 18) rfl w1.heap.size _ rfl rfl 55 _ (MapKept.heap_alloc w1 _).1 (infoIs _ HW.out.2.2.1) (by simp [u8s_length, HW.out.2.2.1]) (u8s_all _) ?_; intro w2 h2 m2)
    | (go_at_call 34; refine (vnum_ok num _ h0 h1).mono ?_; rintro e w' ⟨rfl, hw⟩; subst w'))
  have C2 : Below w.heap.size w w2 := (H1.out.1.alloc (by omega) _).trans (m2.below (by omega))
  have K2 : Book (w2.alloc Z8e) [(w2.heap.size, Z8e), (w1.heap.size, .cells (u8s (inL k)).toArray 55 (0, 0))] := Book.add ⟨fun q o hm => by
    simp only [List.mem_cons, Prod.mk.injEq, List.not_mem_nil, or_false] at hm
    obtain ⟨rfl, rfl⟩ := hm
    exact h2⟩ Z8e
  have z2 : w1.heap.size < w2.heap.size := (Array.getElem?_eq_some_iff.1 h2).1
  have H2 : Hid _ := And.intro (C2.alloc C2.size Z8e) K2
  have z2w : w.heap.size ≤ w2.heap.size := C2.size
  clear h2 m2 C2 K2
  have RD : Hid (Row (w2.alloc Z8e).drew .u8 (.slice (some ⟨b, off + n, none⟩) 8 (pb - n)) (xs.drop n)) := (HW.out.2.2.2.2.2.1.2.2.below H2.out.1).drewN 1
  have G8 : Hid ((w2.alloc Z8e).drew.heap[w2.heap.size]? = some (.cells (u8s (List.replicate 8 0)).toArray 53 (0, 0))) := H2.out.2.blk _ _ (List.mem_cons_self ..)
  have hpn : ¬ pb = n := by omega
  have e88 : n + 8 - n = 8 := by omega
  have hnn : (n : Int) ≤ (n : Int) + 8 := by omega
  go_region_law (refine step_copy_at rfl (.tmp 41) (.tmp 45) 22 22 rfl 5 Try.underlying22 infoU8s w2.heap.size 0 8 8 _ rfl rfl (xs.drop n) RD.out (by rw [HW.out.2.2.2.2.2.2.2.1.2.1]; decide) (List.replicate 8 0) 53 G8.out 8 (by rw [HW.out.2.2.2.2.2.2.2.1.2.1]; rfl) (by simp) ?_; intro w3 h3 m3)
  have e3 : splice (List.replicate 8 (0 : Int)) 0 ((xs.drop n).take 8) = xs.drop n := by
    have : ((xs.drop n).take 8) = xs.drop n := List.take_of_length_le (by rw [HW.out.2.2.2.2.2.2.2.1.2.1]; decide)
    rw [this]
    simp [splice, HW.out.2.2.2.2.2.2.2.1.2.1]
  rw [e3] at h3
  have C3 : Below w.heap.size w w3 := (below_drewN H2.out.1 1).trans (m3.below z2w)
  have K3 : w3.heap[w1.heap.size]? = some (.cells (u8s (inL k)).toArray 55 (0, 0)) := (m3.block w1.heap.size (fun e => by have := Option.some.inj e; omega)).trans (H2.out.2.drew.blk _ _ (List.mem_cons_of_mem _ (List.mem_cons_self ..)))
  have z3 : w2.heap.size < w3.heap.size := (Array.getElem?_eq_some_iff.1 h3).1
  have H3 : Hid _ := And.intro C3 (And.intro h3 K3)
  clear e3 h3 m3 C3 K3 RD G8 hpn e88 hnn
  go_wp2_with (refine wpList_load_row rfl 55 (.tmp 10) rfl w1.heap.size rfl 55 _ (0, 0) _ H3.out.2.2 Try.underlying55 rfl (infoIs _ HW.out.2.2.1) ?_)
  go_at_call 35
  refine (packet_ok k num w3 HW.out.2.2.2.1 h0 h1).mono ?_
  rintro e w4 ⟨rfl, b4⟩
  have H4 : Hid _ := And.intro (H3.out.1.trans (b4.mono H3.out.1.size)) ((b4.block _ z3).trans H3.out.2.1)
  have z4 : w2.heap.size < w4.heap.size := (Array.getElem?_eq_some_iff.1 H4.out.2).1
  clear b4
  go_wp2_with (refine wpList_store_at rfl 59 (.tmp 14) (.tmp 49) rfl w4.heap.size _ rfl rfl 59 _ (MapKept.heap_alloc w4 _).1 (infoPs _ HW.out.2.2.2.2.2.2.2.2.1.2) (by simp [u8s_length, HW.out.2.2.2.2.2.2.2.2.1.2]) (u8s_all _) ?_; intro w5 h5 m5)
  have C5 : Below w.heap.size w w5 := (H4.out.1.alloc H4.out.1.size _).trans (m5.below H4.out.1.size)
  have K5 : w5.heap[w2.heap.size]? = some (.cells (u8s (xs.drop n)).toArray 53 (0, 0)) := ((m5.block _ (fun e => by have := Option.some.inj e; omega)).trans (Below.heap_alloc w4 _ _ z4)).trans H4.out.2
  have z5 : w4.heap.size < w5.heap.size := (Array.getElem?_eq_some_iff.1 h5).1
  have H5 : Hid _ := And.intro C5 (And.intro h5 K5)
  have TG := tag_ok k.b (nonV k num) hd (xs.take n) (.slice ah nh ph) (.slice (some ⟨b, off, none⟩) n pb) w5.drew (by rw [HW.out.2.2.2.2.2.2.2.1.1]; exact (HW.out.2.2.2.2.2.1.1.below C5).drewN 1) ((HW.out.2.2.2.2.2.1.2.1.below C5).drewN 1) HW.out.2.2.2.1.2.1 HW.out.2.2.2.2.2.2.2.2.1.1 HW.out.2.2.2.2.1.2.1 (xl_bytes _ _ _) HW.out.2.2.2.2.2.2.1.1 HW.out.2.2.2.2.2.2.1.2 (by have := HW.out.2.2.2.2.2.2.2.1.1; omega) (by rw [HW.out.2.2.2.2.2.2.2.1.2.2]; omega)
  have HT : Hid _ := And.intro TG True.intro
  have HB : Hid (true = !(decide (tagV k.b (nonV k num) hd (xs.take n) = xs.drop n))) := by show _ = _; rw [decide_eq_false HW.out.2.2.2.2.2.2.2.2.2]; rfl
  clear h5 m5 C5 K5 TG
  dsimp only [Act.put]
  go_upto_region 12 with fail
  go_cut [55] from 15 to 55 (fun c wx => c = .bool true ∧ Below w5.heap.size w5 wx)
  case first =>
    rename_i J K' hJ hK'
    have z25 : w2.heap.size < w5.heap.size := by omega
    refine wp_region_any (by kernel_rfl) ?_
    try (change wpAny _ _ _ _ _ _ _ (World.drew _))
    refine wpAny_take (i := 1) (v := ?v1) rfl (by kernel_rfl) (by kernel_rfl) (by kernel_rfl) (fun _ _ _ h => h) (Or.inl ⟨by rfl, ?y1⟩) ?r1
    case y1 => (intro w; go_simp; try with_reducible rfl)
    case r1 =>
      try (change wpAny _ _ _ _ _ _ (Act.put _ (some 51) _) _; rw [put_lit]; simp only [List.set_cons_succ, List.set_cons_zero])
      refine wpAny_take (i := 2) (v := ?v2) rfl (by kernel_rfl) (by kernel_rfl) (by kernel_rfl) (fun _ _ _ h => h) (Or.inl ⟨by rfl, ?y2⟩) ?r2
      case y2 => (intro w; go_simp; try with_reducible rfl)
      case r2 =>
        try (change wpAny _ _ _ _ _ _ (Act.put _ (some 52) _) _; rw [put_lit]; simp only [List.set_cons_succ, List.set_cons_zero])
        refine wpAny_ready (rs := [0, 4]) (by kernel_rfl) (by simp) ?_
        refine AllReady.cons rfl (fun K hK => ?_) ?_
        · refine step_wp rfl (wp_load_row 59 (.tmp 14) rfl w4.heap.size rfl 59 _ (0, 0) _ H5.out.2.1 Try.underlying59 rfl (infoPs _ HW.out.2.2.2.2.2.2.2.2.1.2) ?_)
          refine hK _ _ ?_
          clear hK K
          try (change wpAny _ _ _ _ _ _ (Act.put _ (some 50) _) _; rw [put_lit]; simp only [List.set_cons_succ, List.set_cons_zero])
          refine wpAny_ready (rs := [3, 4]) (by kernel_rfl) (by simp) ?_
          refine AllReady.cons rfl (fun K hK => ?_) ?_
          · go_simp
            go_at_call 37
            refine HT.out.1.mono ?_
            rintro e w6 ⟨rfl, b6⟩
            have K6 := (b6.block w2.heap.size z25).trans H5.out.2.2
            dsimp only
            refine hK _ _ ?_
            clear hK K
            try (change wpAny _ _ _ _ _ _ (Act.put _ (some 53) _) _; rw [put_lit]; simp only [List.set_cons_succ, List.set_cons_zero])
            refine wpAny_ready (rs := [4]) (by kernel_rfl) (by simp) ?_
            refine AllReady.cons rfl (fun K hK => ?_) ?_
            · refine step_wp rfl (wp_load_row 53 (.tmp 13) rfl w2.heap.size rfl 53 _ (0, 0) _ K6 Try.underlying53 rfl (infoTs _ HW.out.2.2.2.2.2.2.2.1.2.1) ?_)
              refine hK _ _ ?_
              clear hK K
              try (change wpAny _ _ _ _ _ _ (Act.put _ (some 54) _) _; rw [put_lit]; simp only [List.set_cons_succ, List.set_cons_zero])
              refine wpAny_ready (rs := [5]) (by kernel_rfl) (by simp) ?_
              refine AllReady.cons rfl (fun K hK => ?_) ?_
              · refine step_neq8 rfl (.tmp 53) (.tmp 54) rfl _ _ (tagV_length _ _ _ _) HW.out.2.2.2.2.2.2.2.1.2.1 rfl rfl _ HB.out ?_
                refine hK _ _ ?_
                clear hK K
                try (change wpAny _ _ _ _ _ _ (Act.put _ (some 55) _) _; rw [put_lit]; simp only [List.set_cons_succ, List.set_cons_zero])
                refine wpAny_done (by kernel_rfl) ?_ _
                change K' _ _
                refine hK' _ _ (Met.intro (hJ _ _ ?_))
                (repeat apply Exists.intro)
                refine ⟨?_, rfl⟩
                exact ⟨rfl, Below.trans (below_drewN (Below.refl _ _) 1) b6⟩
              exact AllReady.nil
            exact AllReady.nil
          refine AllReady.cons rfl (fun K hK => ?_) ?_
          · refine step_wp rfl (wp_load_row 53 (.tmp 13) rfl w2.heap.size rfl 53 _ (0, 0) _ H5.out.2.2 Try.underlying53 rfl (infoTs _ HW.out.2.2.2.2.2.2.2.1.2.1) ?_)
            refine hK _ _ ?_
            clear hK K
            try (change wpAny _ _ _ _ _ _ (Act.put _ (some 54) _) _; rw [put_lit]; simp only [List.set_cons_succ, List.set_cons_zero])
            refine wpAny_ready (rs := [3]) (by kernel_rfl) (by simp) ?_
            refine AllReady.cons rfl (fun K hK => ?_) ?_
            · go_simp
              go_at_call 37
              refine HT.out.1.mono ?_
              rintro e w6 ⟨rfl, b6⟩
              have K6 := (b6.block w2.heap.size z25).trans H5.out.2.2
              dsimp only
              refine hK _ _ ?_
              clear hK K
              try (change wpAny _ _ _ _ _ _ (Act.put _ (some 53) _) _; rw [put_lit]; simp only [List.set_cons_succ, List.set_cons_zero])
              refine wpAny_ready (rs := [5]) (by kernel_rfl) (by simp) ?_
              refine AllReady.cons rfl (fun K hK => ?_) ?_
              · refine step_neq8 rfl (.tmp 53) (.tmp 54) rfl _ _ (tagV_length _ _ _ _) HW.out.2.2.2.2.2.2.2.1.2.1 rfl rfl _ HB.out ?_
                refine hK _ _ ?_
                clear hK K
                try (change wpAny _ _ _ _ _ _ (Act.put _ (some 55) _) _; rw [put_lit]; simp only [List.set_cons_succ, List.set_cons_zero])
                refine wpAny_done (by kernel_rfl) ?_ _
                change K' _ _
                refine hK' _ _ (Met.intro (hJ _ _ ?_))
                (repeat apply Exists.intro)
                refine ⟨?_, rfl⟩
                exact ⟨rfl, Below.trans (below_drewN (Below.refl _ _) 1) b6⟩
              exact AllReady.nil
            exact AllReady.nil
          exact AllReady.nil
        refine AllReady.cons rfl (fun K hK => ?_) ?_
        · refine step_wp rfl (wp_load_row 53 (.tmp 13) rfl w2.heap.size rfl 53 _ (0, 0) _ H5.out.2.2 Try.underlying53 rfl (infoTs _ HW.out.2.2.2.2.2.2.2.1.2.1) ?_)
          refine hK _ _ ?_
          clear hK K
          try (change wpAny _ _ _ _ _ _ (Act.put _ (some 54) _) _; rw [put_lit]; simp only [List.set_cons_succ, List.set_cons_zero])
          refine wpAny_ready (rs := [0]) (by kernel_rfl) (by simp) ?_
          refine AllReady.cons rfl (fun K hK => ?_) ?_
          · refine step_wp rfl (wp_load_row 59 (.tmp 14) rfl w4.heap.size rfl 59 _ (0, 0) _ H5.out.2.1 Try.underlying59 rfl (infoPs _ HW.out.2.2.2.2.2.2.2.2.1.2) ?_)
            refine hK _ _ ?_
            clear hK K
            try (change wpAny _ _ _ _ _ _ (Act.put _ (some 50) _) _; rw [put_lit]; simp only [List.set_cons_succ, List.set_cons_zero])
            refine wpAny_ready (rs := [3]) (by kernel_rfl) (by simp) ?_
            refine AllReady.cons rfl (fun K hK => ?_) ?_
            · go_simp
              go_at_call 37
              refine HT.out.1.mono ?_
              rintro e w6 ⟨rfl, b6⟩
              have K6 := (b6.block w2.heap.size z25).trans H5.out.2.2
              dsimp only
              refine hK _ _ ?_
              clear hK K
              try (change wpAny _ _ _ _ _ _ (Act.put _ (some 53) _) _; rw [put_lit]; simp only [List.set_cons_succ, List.set_cons_zero])
              refine wpAny_ready (rs := [5]) (by kernel_rfl) (by simp) ?_
              refine AllReady.cons rfl (fun K hK => ?_) ?_
              · refine step_neq8 rfl (.tmp 53) (.tmp 54) rfl _ _ (tagV_length _ _ _ _) HW.out.2.2.2.2.2.2.2.1.2.1 rfl rfl _ HB.out ?_
                refine hK _ _ ?_
                clear hK K
                try (change wpAny _ _ _ _ _ _ (Act.put _ (some 55) _) _; rw [put_lit]; simp only [List.set_cons_succ, List.set_cons_zero])
                refine wpAny_done (by kernel_rfl) ?_ _
                change K' _ _
                refine hK' _ _ (Met.intro (hJ _ _ ?_))
                (repeat apply Exists.intro)
                refine ⟨?_, rfl⟩
                exact ⟨rfl, Below.trans (below_drewN (Below.refl _ _) 1) b6⟩
              exact AllReady.nil
            exact AllReady.nil
          exact AllReady.nil
        exact AllReady.nil
  case rest =>
  clear HT HB
  obtain ⟨rfl, bc⟩ := hcut
  have H6 : Hid _ := And.intro (H5.out.1.trans (bc.mono H5.out.1.size)) ((bc.block w4.heap.size z5).trans H5.out.2.1)
  clear bc
  go_wp2
  go_ret2
  exact ⟨_, rfl, World.ownsRow_nil _ _ _ _, H6.out.1⟩
end Go.Proofs.Ytkpmdcmgcdnpfaa
