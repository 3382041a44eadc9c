import Derived.Test.YtiiefhpkkjocbajISeal
import Derived.Test.YtiiefhpkkjocbajOpenS
import Derived.Test.YtiiefhpkkjocbajIEq8
namespace Go.Proofs.Ytiiefhpkkjocbaj
open Go.RowKit
set_option linter.unusedVariables false

theorem ld_row {W : World} {p m t : Nat} {xs : List Int} (h : W.heap[p]? = some (.cells (u8s xs).toArray t (0, 0))) (hl : xs.length = m) : (loadCells ⟨p, 0, none⟩ m).run Try.prog W = .ok (u8s xs).toArray W := by
  have := run_loadCells_list (P := Try.prog) W ⟨p, 0, none⟩ (u8s xs) (fun j v hv => by
    have hadd : (⟨p, 0, none⟩ : Addr).add j = ⟨p, j, none⟩ := by unfold Addr.add; split <;> simp_all
    rw [hadd, blkS_cell h]
    simpa using hv)
  rwa [u8s_length, hl] at this
theorem list24 (A : List Int) (h : A.length = 24) : ∃ a0 a1 a2 a3 a4 a5 a6 a7 a8 a9 a10 a11 a12 a13 a14 a15 a16 a17 a18 a19 a20 a21 a22 a23 : Int, A = [a0, a1, a2, a3, a4, a5, a6, a7, a8, a9, a10, a11, a12, a13, a14, a15, a16, a17, a18, a19, a20, a21, a22, a23] := by
  obtain ⟨a0, A, rfl⟩ : ∃ x t, A = x :: t := List.exists_cons_of_length_pos (by omega)
  simp only [List.length_cons] at h
  obtain ⟨a1, A, rfl⟩ : ∃ x t, A = x :: t := List.exists_cons_of_length_pos (by omega)
  simp only [List.length_cons] at h
  obtain ⟨a2, A, rfl⟩ : ∃ x t, A = x :: t := List.exists_cons_of_length_pos (by omega)
  simp only [List.length_cons] at h
  obtain ⟨a3, A, rfl⟩ : ∃ x t, A = x :: t := List.exists_cons_of_length_pos (by omega)
  simp only [List.length_cons] at h
  obtain ⟨a4, A, rfl⟩ : ∃ x t, A = x :: t := List.exists_cons_of_length_pos (by omega)
  simp only [List.length_cons] at h
  obtain ⟨a5, A, rfl⟩ : ∃ x t, A = x :: t := List.exists_cons_of_length_pos (by omega)
  simp only [List.length_cons] at h
  obtain ⟨a6, A, rfl⟩ : ∃ x t, A = x :: t := List.exists_cons_of_length_pos (by omega)
  simp only [List.length_cons] at h
  obtain ⟨a7, A, rfl⟩ : ∃ x t, A = x :: t := List.exists_cons_of_length_pos (by omega)
  simp only [List.length_cons] at h
  obtain ⟨a8, A, rfl⟩ : ∃ x t, A = x :: t := List.exists_cons_of_length_pos (by omega)
  simp only [List.length_cons] at h
  obtain ⟨a9, A, rfl⟩ : ∃ x t, A = x :: t := List.exists_cons_of_length_pos (by omega)
  simp only [List.length_cons] at h
  obtain ⟨a10, A, rfl⟩ : ∃ x t, A = x :: t := List.exists_cons_of_length_pos (by omega)
  simp only [List.length_cons] at h
  obtain ⟨a11, A, rfl⟩ : ∃ x t, A = x :: t := List.exists_cons_of_length_pos (by omega)
  simp only [List.length_cons] at h
  obtain ⟨a12, A, rfl⟩ : ∃ x t, A = x :: t := List.exists_cons_of_length_pos (by omega)
  simp only [List.length_cons] at h
  obtain ⟨a13, A, rfl⟩ : ∃ x t, A = x :: t := List.exists_cons_of_length_pos (by omega)
  simp only [List.length_cons] at h
  obtain ⟨a14, A, rfl⟩ : ∃ x t, A = x :: t := List.exists_cons_of_length_pos (by omega)
  simp only [List.length_cons] at h
  obtain ⟨a15, A, rfl⟩ : ∃ x t, A = x :: t := List.exists_cons_of_length_pos (by omega)
  simp only [List.length_cons] at h
  obtain ⟨a16, A, rfl⟩ : ∃ x t, A = x :: t := List.exists_cons_of_length_pos (by omega)
  simp only [List.length_cons] at h
  obtain ⟨a17, A, rfl⟩ : ∃ x t, A = x :: t := List.exists_cons_of_length_pos (by omega)
  simp only [List.length_cons] at h
  obtain ⟨a18, A, rfl⟩ : ∃ x t, A = x :: t := List.exists_cons_of_length_pos (by omega)
  simp only [List.length_cons] at h
  obtain ⟨a19, A, rfl⟩ : ∃ x t, A = x :: t := List.exists_cons_of_length_pos (by omega)
  simp only [List.length_cons] at h
  obtain ⟨a20, A, rfl⟩ : ∃ x t, A = x :: t := List.exists_cons_of_length_pos (by omega)
  simp only [List.length_cons] at h
  obtain ⟨a21, A, rfl⟩ : ∃ x t, A = x :: t := List.exists_cons_of_length_pos (by omega)
  simp only [List.length_cons] at h
  obtain ⟨a22, A, rfl⟩ : ∃ x t, A = x :: t := List.exists_cons_of_length_pos (by omega)
  simp only [List.length_cons] at h
  obtain ⟨a23, A, rfl⟩ : ∃ x t, A = x :: t := List.exists_cons_of_length_pos (by omega)
  simp only [List.length_cons] at h
  obtain rfl : A = [] := List.eq_nil_of_length_eq_zero (by omega)
  exact ⟨a0, a1, a2, a3, a4, a5, a6, a7, a8, a9, a10, a11, a12, a13, a14, a15, a16, a17, a18, a19, a20, a21, a22, a23, rfl⟩
theorem cells24 {W : World} {p t : Nat} {a0 a1 a2 a3 a4 a5 a6 a7 a8 a9 a10 a11 a12 a13 a14 a15 a16 a17 a18 a19 a20 a21 a22 a23 : Int} (h : W.heap[p]? = some (.cells (u8s [a0, a1, a2, a3, a4, a5, a6, a7, a8, a9, a10, a11, a12, a13, a14, a15, a16, a17, a18, a19, a20, a21, a22, a23]).toArray t (0, 0))) : W.cell? ⟨p, 0, none⟩ = some (.int .u8 a0) ∧ W.cell? ⟨p, 1, none⟩ = some (.int .u8 a1) ∧ W.cell? ⟨p, 2, none⟩ = some (.int .u8 a2) ∧ W.cell? ⟨p, 3, none⟩ = some (.int .u8 a3) ∧ W.cell? ⟨p, 4, none⟩ = some (.int .u8 a4) ∧ W.cell? ⟨p, 5, none⟩ = some (.int .u8 a5) ∧ W.cell? ⟨p, 6, none⟩ = some (.int .u8 a6) ∧ W.cell? ⟨p, 7, none⟩ = some (.int .u8 a7) ∧ W.cell? ⟨p, 8, none⟩ = some (.int .u8 a8) ∧ W.cell? ⟨p, 9, none⟩ = some (.int .u8 a9) ∧ W.cell? ⟨p, 10, none⟩ = some (.int .u8 a10) ∧ W.cell? ⟨p, 11, none⟩ = some (.int .u8 a11) ∧ W.cell? ⟨p, 12, none⟩ = some (.int .u8 a12) ∧ W.cell? ⟨p, 13, none⟩ = some (.int .u8 a13) ∧ W.cell? ⟨p, 14, none⟩ = some (.int .u8 a14) ∧ W.cell? ⟨p, 15, none⟩ = some (.int .u8 a15) ∧ W.cell? ⟨p, 16, none⟩ = some (.int .u8 a16) ∧ W.cell? ⟨p, 17, none⟩ = some (.int .u8 a17) ∧ W.cell? ⟨p, 18, none⟩ = some (.int .u8 a18) ∧ W.cell? ⟨p, 19, none⟩ = some (.int .u8 a19) ∧ W.cell? ⟨p, 20, none⟩ = some (.int .u8 a20) ∧ W.cell? ⟨p, 21, none⟩ = some (.int .u8 a21) ∧ W.cell? ⟨p, 22, none⟩ = some (.int .u8 a22) ∧ W.cell? ⟨p, 23, none⟩ = some (.int .u8 a23) :=
  ⟨by rw [blkS_cell h]; rfl, by rw [blkS_cell h]; rfl, by rw [blkS_cell h]; rfl, by rw [blkS_cell h]; rfl, by rw [blkS_cell h]; rfl, by rw [blkS_cell h]; rfl, by rw [blkS_cell h]; rfl, by rw [blkS_cell h]; rfl, by rw [blkS_cell h]; rfl, by rw [blkS_cell h]; rfl, by rw [blkS_cell h]; rfl, by rw [blkS_cell h]; rfl, by rw [blkS_cell h]; rfl, by rw [blkS_cell h]; rfl, by rw [blkS_cell h]; rfl, by rw [blkS_cell h]; rfl, by rw [blkS_cell h]; rfl, by rw [blkS_cell h]; rfl, by rw [blkS_cell h]; rfl, by rw [blkS_cell h]; rfl, by rw [blkS_cell h]; rfl, by rw [blkS_cell h]; rfl, by rw [blkS_cell h]; rfl, by rw [blkS_cell h]; rfl⟩
theorem cells8 {W : World} {p t : Nat} {a0 a1 a2 a3 a4 a5 a6 a7 : Int} (h : W.heap[p]? = some (.cells (u8s [a0, a1, a2, a3, a4, a5, a6, a7]).toArray t (0, 0))) : W.cell? ⟨p, 0, none⟩ = some (.int .u8 a0) ∧ W.cell? ⟨p, 1, none⟩ = some (.int .u8 a1) ∧ W.cell? ⟨p, 2, none⟩ = some (.int .u8 a2) ∧ W.cell? ⟨p, 3, none⟩ = some (.int .u8 a3) ∧ W.cell? ⟨p, 4, none⟩ = some (.int .u8 a4) ∧ W.cell? ⟨p, 5, none⟩ = some (.int .u8 a5) ∧ W.cell? ⟨p, 6, none⟩ = some (.int .u8 a6) ∧ W.cell? ⟨p, 7, none⟩ = some (.int .u8 a7) :=
  ⟨by rw [blkS_cell h]; rfl, by rw [blkS_cell h]; rfl, by rw [blkS_cell h]; rfl, by rw [blkS_cell h]; rfl, by rw [blkS_cell h]; rfl, by rw [blkS_cell h]; rfl, by rw [blkS_cell h]; rfl, by rw [blkS_cell h]; rfl⟩
theorem u8s24 (a0 a1 a2 a3 a4 a5 a6 a7 a8 a9 a10 a11 a12 a13 a14 a15 a16 a17 a18 a19 a20 a21 a22 a23 : Int) : (u8s [a0, a1, a2, a3, a4, a5, a6, a7, a8, a9, a10, a11, a12, a13, a14, a15, a16, a17, a18, a19, a20, a21, a22, a23]).toArray = #[.int .u8 a0, .int .u8 a1, .int .u8 a2, .int .u8 a3, .int .u8 a4, .int .u8 a5, .int .u8 a6, .int .u8 a7, .int .u8 a8, .int .u8 a9, .int .u8 a10, .int .u8 a11, .int .u8 a12, .int .u8 a13, .int .u8 a14, .int .u8 a15, .int .u8 a16, .int .u8 a17, .int .u8 a18, .int .u8 a19, .int .u8 a20, .int .u8 a21, .int .u8 a22, .int .u8 a23] := rfl
theorem u8s8 (a0 a1 a2 a3 a4 a5 a6 a7 : Int) : (u8s [a0, a1, a2, a3, a4, a5, a6, a7]).toArray = #[.int .u8 a0, .int .u8 a1, .int .u8 a2, .int .u8 a3, .int .u8 a4, .int .u8 a5, .int .u8 a6, .int .u8 a7] := rfl

theorem put_lit (l : List Value) (d : Nat) (v : Value) (ds : List _) : ({ tmps := l.toArray, defers := ds } : Act).put (some d) v = { tmps := (l.set d v).toArray, defers := ds } := by
  simp [Act.put]
set_option maxRecDepth 20000 in
set_option maxHeartbeats 4000000 in
theorem iopen_badkey (v hv bv : Value) (k : K4) (num : Int) (w : World) (hk : KRow w v k) (ho : ¬ kok k) :
    Calls Try.prog 19 #[v, .int .i64 num, hv, bv] w fun e w' => ∃ r, e = .returned (.tuple #[r, .int .i64 1]) ∧ w'.ownsRow w.heap.size 5 1 r 0 (([] : List Int).map (Value.int .u8)) ∧ Below w.heap.size w w' := by
  obtain ⟨v0, v1, v2, v3, rfl, r0, r1, r2, r3⟩ := id hk
  have C0 : Below w.heap.size w (w.alloc (.cells #[v0, v1, v2, v3] 28)) := (Below.refl _ _).alloc (Nat.le_refl _) _
  have HW : Hid _ := And.intro (innerOf_bad _ k _ (hk.below C0) ho) (And.intro C0 True.intro)
  clear r0 r1 r2 r3 C0 ho hk
  go_enter Try.func19, Try.ntmps19
  go_wp2_with fail
  go_at_call 36
  refine HW.out.1.mono ?_
  rintro e w1 ⟨rfl, b1⟩
  have H1 : Hid _ := And.intro (HW.out.2.1.trans (b1.mono HW.out.2.1.size)) True.intro
  have z1 : w.heap.size ≤ w1.heap.size := H1.out.1.size
  clear b1
  go_wp2_with (refine wpList_store_at rfl 57 (.tmp 10) (.tmp 18) rfl w1.heap.size _ rfl rfl 57 _ (MapKept.heap_alloc w1 _).1 (infoIs _ (by simp)) (by simp [u8s_length]) (u8s_all _) ?_; intro w2 h2 m2)
  go_ret2
  exact ⟨_, rfl, World.ownsRow_nil _ _ _ _, (H1.out.1.alloc (by omega) _).trans (m2.below (by omega))⟩

set_option maxRecDepth 20000 in
set_option maxHeartbeats 4000000 in
theorem iopen_badnum (v hv bv : Value) (k : K4) (num : Int) (w : World) (hk : KRow w v k) (ho : kok k) (hn : num < 0 ∨ 4611686018427387903 < num) :
    Calls Try.prog 19 #[v, .int .i64 num, hv, bv] w fun e w' => ∃ r, e = .returned (.tuple #[r, .int .i64 1]) ∧ w'.ownsRow w.heap.size 5 1 r 0 (([] : List Int).map (Value.int .u8)) ∧ Below w.heap.size w w' := by
  obtain ⟨v0, v1, v2, v3, rfl, r0, r1, r2, r3⟩ := id hk
  have C0 : Below w.heap.size w (w.alloc (.cells #[v0, v1, v2, v3] 28)) := (Below.refl _ _).alloc (Nat.le_refl _) _
  have HW : Hid _ := And.intro (innerOf_ok _ k _ (hk.below C0) ho) (And.intro C0 (inL_length k ho))
  clear r0 r1 r2 r3 C0 ho hk
  go_enter Try.func19, Try.ntmps19
  go_wp2_with fail
  go_at_call 36
  refine HW.out.1.mono ?_
  rintro e w1 ⟨rfl, b1⟩
  have H1 : Hid _ := And.intro (HW.out.2.1.trans (b1.mono HW.out.2.1.size)) True.intro
  have z1 : w.heap.size ≤ w1.heap.size := H1.out.1.size
  clear b1
  go_wp2_with (first
    | (refine wpList_store_at rfl 57 (.tmp 10) (.tmp 18) rfl w1.heap.size _ rfl rfl 57 _ (MapKept.heap_alloc w1 _).1 (infoIs _ HW.out.2.2) (by simp [u8s_length, HW.out.2.2]) (u8s_all _) ?_; intro w2 h2 m2)
    | (go_at_call 37; refine (vnum_bad num _ hn).mono ?_; rintro e w' ⟨rfl, hw⟩; subst w'))
  go_ret2
  exact ⟨_, rfl, World.ownsRow_nil _ _ _ _, (H1.out.1.alloc (by omega) _).trans (m2.below (by omega))⟩

set_option maxRecDepth 20000 in
set_option maxHeartbeats 4000000 in
theorem iopen_long (v : Value) (ah ab : Option Addr) (nh nb ph pb : Nat) (k : K4) (num : Int) (w : World) (hk : KRow w v k) (ho : kok k) (h0 : 0 ≤ num) (h1 : num ≤ 4611686018427387903) (hl : 1508 < nh + nb) (hh : nh ≤ 1099511627776) (hbb : nb ≤ 1099511627776) :
    Calls Try.prog 19 #[v, .int .i64 num, .slice ah nh ph, .slice ab nb pb] w fun e w' => ∃ r, e = .returned (.tuple #[r, .int .i64 4]) ∧ w'.ownsRow w.heap.size 5 1 r 0 (([] : List Int).map (Value.int .u8)) ∧ Below w.heap.size w w' := by
  obtain ⟨v0, v1, v2, v3, rfl, r0, r1, r2, r3⟩ := id hk
  have C0 : Below w.heap.size w (w.alloc (.cells #[v0, v1, v2, v3] 28)) := (Below.refl _ _).alloc (Nat.le_refl _) _
  have HW : Hid _ := And.intro (innerOf_ok _ k _ (hk.below C0) ho) (And.intro C0 (inL_length k ho))
  clear r0 r1 r2 r3 C0 ho hk
  go_enter Try.func19, Try.ntmps19
  go_wp2_with fail
  go_at_call 36
  refine HW.out.1.mono ?_
  rintro e w1 ⟨rfl, b1⟩
  have H1 : Hid _ := And.intro (HW.out.2.1.trans (b1.mono HW.out.2.1.size)) True.intro
  have z1 : w.heap.size ≤ w1.heap.size := H1.out.1.size
  clear b1
  go_wp2_with (first
    | (refine wpList_store_at rfl 57 (.tmp 10) (.tmp 18) rfl w1.heap.size _ rfl rfl 57 _ (MapKept.heap_alloc w1 _).1 (infoIs _ HW.out.2.2) (by simp [u8s_length, HW.out.2.2]) (u8s_all _) ?_; intro w2 h2 m2)
    | (go_at_call 37; refine (vnum_ok num _ h0 h1).mono ?_; rintro e w' ⟨rfl, hw⟩; subst w'))
  go_ret2
  exact ⟨_, rfl, World.ownsRow_nil _ _ _ _, (H1.out.1.alloc (by omega) _).trans (m2.below (by omega))⟩

set_option maxRecDepth 20000 in
set_option maxHeartbeats 4000000 in
theorem iopen_short (v : Value) (ah ab : Option Addr) (nh nb ph pb : Nat) (k : K4) (num : Int) (w : World) (hk : KRow w v k) (ho : kok k) (h0 : 0 ≤ num) (h1 : num ≤ 4611686018427387903) (hl : nh + nb ≤ 1508) (h8 : nb < 8) (hh : nh ≤ 1099511627776) (hbb : nb ≤ 1099511627776) :
    Calls Try.prog 19 #[v, .int .i64 num, .slice ah nh ph, .slice ab nb pb] w fun e w' => ∃ r, e = .returned (.tuple #[r, .int .i64 2]) ∧ w'.ownsRow w.heap.size 5 1 r 0 (([] : List Int).map (Value.int .u8)) ∧ Below w.heap.size w w' := by
  obtain ⟨v0, v1, v2, v3, rfl, r0, r1, r2, r3⟩ := id hk
  have C0 : Below w.heap.size w (w.alloc (.cells #[v0, v1, v2, v3] 28)) := (Below.refl _ _).alloc (Nat.le_refl _) _
  have HW : Hid _ := And.intro (innerOf_ok _ k _ (hk.below C0) ho) (And.intro C0 (inL_length k ho))
  clear r0 r1 r2 r3 C0 ho hk
  go_enter Try.func19, Try.ntmps19
  go_wp2_with fail
  go_at_call 36
  refine HW.out.1.mono ?_
  rintro e w1 ⟨rfl, b1⟩
  have H1 : Hid _ := And.intro (HW.out.2.1.trans (b1.mono HW.out.2.1.size)) True.intro
  have z1 : w.heap.size ≤ w1.heap.size := H1.out.1.size
  clear b1
  go_wp2_with (first
    | (refine wpList_store_at rfl 57 (.tmp 10) (.tmp 18) rfl w1.heap.size _ rfl rfl 57 _ (MapKept.heap_alloc w1 _).1 (infoIs _ HW.out.2.2) (by simp [u8s_length, HW.out.2.2]) (u8s_all _) ?_; intro w2 h2 m2)
    | (go_at_call 37; refine (vnum_ok num _ h0 h1).mono ?_; rintro e w' ⟨rfl, hw⟩; subst w'))
  go_ret2
  exact ⟨_, rfl, World.ownsRow_nil _ _ _ _, (H1.out.1.alloc (by omega) _).trans (m2.below (by omega))⟩

end Go.Proofs.Ytiiefhpkkjocbaj
