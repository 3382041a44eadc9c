import Derived.Test.YteggfkekgdlecaaGreatDoorAg_P
import Derived.Test.YteggfkekgdlecaaGreatDoorAg_Q
namespace Go.Proofs.YteggfkekgdlecaaGreatDoor
open Go.RowKit
set_option linter.unusedVariables false

set_option maxRecDepth 20000 in
set_option maxHeartbeats 4000000 in
theorem pbS_000 (v : Value) (p : PP) (w : World) (hr : PPRow w v p) (hs : p.small 9223372036854775807) (hyes : pok p false = true) (ht : p.t.length = 0) (hm : p.m = false) :
    Calls Tryz.prog 48 #[v, .bool false] w fun e w' => ∃ r, e = .returned (.tuple #[r, .int .i64 0]) ∧ w'.ownsRow w.heap.size 5 1 r (parB p false).length ((parB p false).map (Value.int .u8)) ∧ Below w.heap.size w w' := by
  obtain ⟨d2, d3, d4, p2, p3, p4, rfl, r2, r3, r4⟩ := hr.parts
  obtain ⟨⟨z2, z3, z4⟩, q0, q1, q2, q3, q4, q5, q6, q7, q8⟩ := pok_parts p false hyes
  have b0 := (Below.refl w.heap.size w).alloc (Nat.le_refl _) (.cells #[.int .i64 p.a0, .int .i64 p.a1, .int .i64 p.a2, .int .i64 p.a3, .int .i64 p.a4, .int .i64 p.a5, .int .i64 p.a6, .int .i64 p.a7, .int .i64 p.a8, .bool p.m, .slice d2 p.o.length p2, .slice d3 p.t.length p3, .slice d4 p.f.length p4] 35)
  have g0 := heap_alloc_new w (.cells #[.int .i64 p.a0, .int .i64 p.a1, .int .i64 p.a2, .int .i64 p.a3, .int .i64 p.a4, .int .i64 p.a5, .int .i64 p.a6, .int .i64 p.a7, .int .i64 p.a8, .bool p.m, .slice d2 p.o.length p2, .slice d3 p.t.length p3, .slice d4 p.f.length p4] 35)
  have C := pokS _ p false _ (hr.below b0) hs
  rw [hyes] at C
  have LE := parA_le p false hyes
  have H0 : Hid _ := And.intro C (And.intro b0 (And.intro g0 (And.intro r2 (And.intro r3 (And.intro r4 (And.intro LE (And.intro (And.intro z2 (And.intro z3 z4)) (And.intro ht hm))))))))
  have HQ : Hid _ := And.intro q0 (And.intro q1 (And.intro q2 (And.intro q3 (And.intro q4 (And.intro q5 (And.intro q6 (And.intro q7 q8)))))))
  clear C b0 g0 hr hs hyes r2 r3 r4 LE z2 z3 z4 q0 q1 q2 q3 q4 q5 q6 q7 q8 ht hm
  go_enter Tryz.func48, Tryz.ntmps48
  go_wp2_with fail
  go_at_call 44
  refine H0.out.1.mono ?_
  rintro e w1 ⟨rfl, b1⟩
  have o0 : (w1.alloc (.cells #[] 5)).ownsRow w1.heap.size 5 1 (.slice (some ⟨w1.heap.size, 0, none⟩) 0 0) (parA p false 0).length ((parA p false 0).map (Value.int .u8)) := World.ownsRow_lit _ #[] 0 (Nat.le_refl _) (by decide) rfl
  have K0 : Hid (OutK w1 (w1.alloc (.cells #[] 5)) (.slice (some ⟨w1.heap.size, 0, none⟩) 0 0) p false 0) := ⟨o0, (Below.refl _ _).alloc (Nat.le_refl _) _⟩
  have HB : Hid _ := And.intro (H0.out.2.1.trans (b1.mono H0.out.2.1.size)) (And.intro b1 ((b1.block w.heap.size (by simp)).trans H0.out.2.2.1))
  have hz1 : w.heap.size < w1.heap.size := by have := b1.size; simp at this; omega
  clear b1 o0
  have K1 : Hid (OutK w1 (w1.alloc (.cells #[] 5)) (.slice (some ⟨w1.heap.size, 0, none⟩) 0 0) p false 1) := K0.out.skip (by decide) (by show (if false = true then entB 0 p.o else []) = []; rw [if_neg (by decide)])
  have gx1 : (w1.alloc (.cells #[] 5)).heap[w.heap.size]? = some (.cells #[.int .i64 p.a0, .int .i64 p.a1, .int .i64 p.a2, .int .i64 p.a3, .int .i64 p.a4, .int .i64 p.a5, .int .i64 p.a6, .int .i64 p.a7, .int .i64 p.a8, .bool p.m, .slice d2 p.o.length p2, .slice d3 p.t.length p3, .slice d4 p.f.length p4] 35 (0, 0)) := (K1.out.bel.block w.heap.size hz1).trans HB.out.2.2
  have c1_0 : (w1.alloc (.cells #[] 5)).cell? ⟨w.heap.size, 0, none⟩ = some (.int .i64 p.a0) := by rw [bk_cell gx1]; rfl
  have c1_11 : (w1.alloc (.cells #[] 5)).cell? ⟨w.heap.size, 11, none⟩ = some (.slice d3 p.t.length p3) := by rw [bk_cell gx1]; rfl
  go_wp2_with fail
  go_at_call 68
  refine (numC w1.heap.size _ (parA p false 1) 1 p.a0 _ K1.out.own K1.out.bel.size (by have := H0.out.2.2.2.2.2.2.1 1 (by decide); omega) (by decide) (by decide) (by have := HQ.out.1; omega) (by have := HQ.out.1; omega)).mono ?_
  rintro e w3 ⟨r3, rfl, o3, g3⟩
  have el1 : (parL p false).getD 1 [] = entB 1 (putv p.a0) := rfl
  have K2 : Hid (OutK w1 w3 r3 p false 2) := K1.out.step (by decide) (by rw [el1]; exact o3) g3
  clear gx1 c1_0 c1_11 el1 o3 g3
  have hd : decide (0 < p.t.length) = false := decide_eq_false (by have := H0.out.2.2.2.2.2.2.2.2.1; omega)
  have hd2 : ¬ (0 < p.t.length) := by have := H0.out.2.2.2.2.2.2.2.2.1; omega
  have gy1 : w3.heap[w.heap.size]? = some (.cells #[.int .i64 p.a0, .int .i64 p.a1, .int .i64 p.a2, .int .i64 p.a3, .int .i64 p.a4, .int .i64 p.a5, .int .i64 p.a6, .int .i64 p.a7, .int .i64 p.a8, .bool p.m, .slice d2 p.o.length p2, .slice d3 p.t.length p3, .slice d4 p.f.length p4] 35 (0, 0)) := (K2.out.bel.block w.heap.size hz1).trans HB.out.2.2
  have cy1 : w3.cell? ⟨w.heap.size, 11, none⟩ = some (.slice d3 p.t.length p3) := by rw [bk_cell gy1]; rfl
  clear gy1
  have K3 : Hid (OutK w1 w3 r3 p false 3) := K2.out.skip (by decide) (by show (if 0 < p.t.length then entB 2 p.t else []) = []; rw [if_neg (by have := H0.out.2.2.2.2.2.2.2.2.1; omega)])
  have gx3 : w3.heap[w.heap.size]? = some (.cells #[.int .i64 p.a0, .int .i64 p.a1, .int .i64 p.a2, .int .i64 p.a3, .int .i64 p.a4, .int .i64 p.a5, .int .i64 p.a6, .int .i64 p.a7, .int .i64 p.a8, .bool p.m, .slice d2 p.o.length p2, .slice d3 p.t.length p3, .slice d4 p.f.length p4] 35 (0, 0)) := (K3.out.bel.block w.heap.size hz1).trans HB.out.2.2
  have c3_1 : w3.cell? ⟨w.heap.size, 1, none⟩ = some (.int .i64 p.a1) := by rw [bk_cell gx3]; rfl
  go_wp2_with fail
  go_at_call 68
  refine (numC w1.heap.size _ (parA p false 3) 3 p.a1 _ K3.out.own K3.out.bel.size (by have := H0.out.2.2.2.2.2.2.1 3 (by decide); omega) (by decide) (by decide) (by have := HQ.out.2.1; omega) (by have := HQ.out.2.1; omega)).mono ?_
  rintro e w5 ⟨r5, rfl, o5, g5⟩
  have el3 : (parL p false).getD 3 [] = entB 3 (putv p.a1) := rfl
  have K4 : Hid (OutK w1 w5 r5 p false 4) := K3.out.step (by decide) (by rw [el3]; exact o5) g5
  clear gx3 c3_1 el3 o5 g5
  clear hd hd2
  have gx4 : w5.heap[w.heap.size]? = some (.cells #[.int .i64 p.a0, .int .i64 p.a1, .int .i64 p.a2, .int .i64 p.a3, .int .i64 p.a4, .int .i64 p.a5, .int .i64 p.a6, .int .i64 p.a7, .int .i64 p.a8, .bool p.m, .slice d2 p.o.length p2, .slice d3 p.t.length p3, .slice d4 p.f.length p4] 35 (0, 0)) := (K4.out.bel.block w.heap.size hz1).trans HB.out.2.2
  have c4_2 : w5.cell? ⟨w.heap.size, 2, none⟩ = some (.int .i64 p.a2) := by rw [bk_cell gx4]; rfl
  go_wp2_with fail
  go_at_call 68
  refine (numC w1.heap.size _ (parA p false 4) 4 p.a2 _ K4.out.own K4.out.bel.size (by have := H0.out.2.2.2.2.2.2.1 4 (by decide); omega) (by decide) (by decide) (by have := HQ.out.2.2.1; omega) (by have := HQ.out.2.2.1; omega)).mono ?_
  rintro e w6 ⟨r6, rfl, o6, g6⟩
  have el4 : (parL p false).getD 4 [] = entB 4 (putv p.a2) := rfl
  have K5 : Hid (OutK w1 w6 r6 p false 5) := K4.out.step (by decide) (by rw [el4]; exact o6) g6
  clear gx4 c4_2 el4 o6 g6
  have gx5 : w6.heap[w.heap.size]? = some (.cells #[.int .i64 p.a0, .int .i64 p.a1, .int .i64 p.a2, .int .i64 p.a3, .int .i64 p.a4, .int .i64 p.a5, .int .i64 p.a6, .int .i64 p.a7, .int .i64 p.a8, .bool p.m, .slice d2 p.o.length p2, .slice d3 p.t.length p3, .slice d4 p.f.length p4] 35 (0, 0)) := (K5.out.bel.block w.heap.size hz1).trans HB.out.2.2
  have c5_3 : w6.cell? ⟨w.heap.size, 3, none⟩ = some (.int .i64 p.a3) := by rw [bk_cell gx5]; rfl
  go_wp2_with fail
  go_at_call 68
  refine (numC w1.heap.size _ (parA p false 5) 5 p.a3 _ K5.out.own K5.out.bel.size (by have := H0.out.2.2.2.2.2.2.1 5 (by decide); omega) (by decide) (by decide) (by have := HQ.out.2.2.2.1; omega) (by have := HQ.out.2.2.2.1; omega)).mono ?_
  rintro e w7 ⟨r7, rfl, o7, g7⟩
  have el5 : (parL p false).getD 5 [] = entB 5 (putv p.a3) := rfl
  have K6 : Hid (OutK w1 w7 r7 p false 6) := K5.out.step (by decide) (by rw [el5]; exact o7) g7
  clear gx5 c5_3 el5 o7 g7
  have gx6 : w7.heap[w.heap.size]? = some (.cells #[.int .i64 p.a0, .int .i64 p.a1, .int .i64 p.a2, .int .i64 p.a3, .int .i64 p.a4, .int .i64 p.a5, .int .i64 p.a6, .int .i64 p.a7, .int .i64 p.a8, .bool p.m, .slice d2 p.o.length p2, .slice d3 p.t.length p3, .slice d4 p.f.length p4] 35 (0, 0)) := (K6.out.bel.block w.heap.size hz1).trans HB.out.2.2
  have c6_4 : w7.cell? ⟨w.heap.size, 4, none⟩ = some (.int .i64 p.a4) := by rw [bk_cell gx6]; rfl
  go_wp2_with fail
  go_at_call 68
  refine (numC w1.heap.size _ (parA p false 6) 8 p.a4 _ K6.out.own K6.out.bel.size (by have := H0.out.2.2.2.2.2.2.1 6 (by decide); omega) (by decide) (by decide) (by have := HQ.out.2.2.2.2.1; omega) (by have := HQ.out.2.2.2.2.1; omega)).mono ?_
  rintro e w8 ⟨r8, rfl, o8, g8⟩
  have el6 : (parL p false).getD 6 [] = entB 8 (putv p.a4) := rfl
  have K7 : Hid (OutK w1 w8 r8 p false 7) := K6.out.step (by decide) (by rw [el6]; exact o8) g8
  clear gx6 c6_4 el6 o8 g8
  have gx7 : w8.heap[w.heap.size]? = some (.cells #[.int .i64 p.a0, .int .i64 p.a1, .int .i64 p.a2, .int .i64 p.a3, .int .i64 p.a4, .int .i64 p.a5, .int .i64 p.a6, .int .i64 p.a7, .int .i64 p.a8, .bool p.m, .slice d2 p.o.length p2, .slice d3 p.t.length p3, .slice d4 p.f.length p4] 35 (0, 0)) := (K7.out.bel.block w.heap.size hz1).trans HB.out.2.2
  have c7_5 : w8.cell? ⟨w.heap.size, 5, none⟩ = some (.int .i64 p.a5) := by rw [bk_cell gx7]; rfl
  go_wp2_with fail
  go_at_call 68
  refine (numC w1.heap.size _ (parA p false 7) 9 p.a5 _ K7.out.own K7.out.bel.size (by have := H0.out.2.2.2.2.2.2.1 7 (by decide); omega) (by decide) (by decide) (by have := HQ.out.2.2.2.2.2.1; omega) (by have := HQ.out.2.2.2.2.2.1; omega)).mono ?_
  rintro e w9 ⟨r9, rfl, o9, g9⟩
  have el7 : (parL p false).getD 7 [] = entB 9 (putv p.a5) := rfl
  have K8 : Hid (OutK w1 w9 r9 p false 8) := K7.out.step (by decide) (by rw [el7]; exact o9) g9
  clear gx7 c7_5 el7 o9 g9
  have gx8 : w9.heap[w.heap.size]? = some (.cells #[.int .i64 p.a0, .int .i64 p.a1, .int .i64 p.a2, .int .i64 p.a3, .int .i64 p.a4, .int .i64 p.a5, .int .i64 p.a6, .int .i64 p.a7, .int .i64 p.a8, .bool p.m, .slice d2 p.o.length p2, .slice d3 p.t.length p3, .slice d4 p.f.length p4] 35 (0, 0)) := (K8.out.bel.block w.heap.size hz1).trans HB.out.2.2
  have c8_6 : w9.cell? ⟨w.heap.size, 6, none⟩ = some (.int .i64 p.a6) := by rw [bk_cell gx8]; rfl
  have c8_9 : w9.cell? ⟨w.heap.size, 9, none⟩ = some (.bool p.m) := by rw [bk_cell gx8]; rfl
  go_wp2_with fail
  go_at_call 68
  refine (numC w1.heap.size _ (parA p false 8) 11 p.a6 _ K8.out.own K8.out.bel.size (by have := H0.out.2.2.2.2.2.2.1 8 (by decide); omega) (by decide) (by decide) (by have := HQ.out.2.2.2.2.2.2.1; omega) (by have := HQ.out.2.2.2.2.2.2.1; omega)).mono ?_
  rintro e w10 ⟨r10, rfl, o10, g10⟩
  have el8 : (parL p false).getD 8 [] = entB 11 (putv p.a6) := rfl
  have K9 : Hid (OutK w1 w10 r10 p false 9) := K8.out.step (by decide) (by rw [el8]; exact o10) g10
  clear gx8 c8_6 c8_9 el8 o10 g10
  have gy8 : w10.heap[w.heap.size]? = some (.cells #[.int .i64 p.a0, .int .i64 p.a1, .int .i64 p.a2, .int .i64 p.a3, .int .i64 p.a4, .int .i64 p.a5, .int .i64 p.a6, .int .i64 p.a7, .int .i64 p.a8, .bool p.m, .slice d2 p.o.length p2, .slice d3 p.t.length p3, .slice d4 p.f.length p4] 35 (0, 0)) := (K9.out.bel.block w.heap.size hz1).trans HB.out.2.2
  have cy8 : w10.cell? ⟨w.heap.size, 9, none⟩ = some (.bool false) := by rw [bk_cell gy8]; show some (Value.bool p.m) = _; rw [H0.out.2.2.2.2.2.2.2.2.2]
  clear gy8
  have K10 : Hid (OutK w1 w10 r10 p false 10) := K9.out.skip (by decide) (by show (if p.m = true then entB 12 [] else []) = []; rw [if_neg (by rw [H0.out.2.2.2.2.2.2.2.2.2]; decide)])
  have gx10 : w10.heap[w.heap.size]? = some (.cells #[.int .i64 p.a0, .int .i64 p.a1, .int .i64 p.a2, .int .i64 p.a3, .int .i64 p.a4, .int .i64 p.a5, .int .i64 p.a6, .int .i64 p.a7, .int .i64 p.a8, .bool p.m, .slice d2 p.o.length p2, .slice d3 p.t.length p3, .slice d4 p.f.length p4] 35 (0, 0)) := (K10.out.bel.block w.heap.size hz1).trans HB.out.2.2
  have c10_7 : w10.cell? ⟨w.heap.size, 7, none⟩ = some (.int .i64 p.a7) := by rw [bk_cell gx10]; rfl
  go_wp2_with fail
  go_at_call 68
  refine (numC w1.heap.size _ (parA p false 10) 14 p.a7 _ K10.out.own K10.out.bel.size (by have := H0.out.2.2.2.2.2.2.1 10 (by decide); omega) (by decide) (by decide) (by have := HQ.out.2.2.2.2.2.2.2.1; omega) (by have := HQ.out.2.2.2.2.2.2.2.1; omega)).mono ?_
  rintro e w12 ⟨r12, rfl, o12, g12⟩
  have el10 : (parL p false).getD 10 [] = entB 14 (putv p.a7) := rfl
  have K11 : Hid (OutK w1 w12 r12 p false 11) := K10.out.step (by decide) (by rw [el10]; exact o12) g12
  clear gx10 c10_7 el10 o12 g12
  have gx11 : w12.heap[w.heap.size]? = some (.cells #[.int .i64 p.a0, .int .i64 p.a1, .int .i64 p.a2, .int .i64 p.a3, .int .i64 p.a4, .int .i64 p.a5, .int .i64 p.a6, .int .i64 p.a7, .int .i64 p.a8, .bool p.m, .slice d2 p.o.length p2, .slice d3 p.t.length p3, .slice d4 p.f.length p4] 35 (0, 0)) := (K11.out.bel.block w.heap.size hz1).trans HB.out.2.2
  have c11_12 : w12.cell? ⟨w.heap.size, 12, none⟩ = some (.slice d4 p.f.length p4) := by rw [bk_cell gx11]; rfl
  go_wp2_with fail
  go_at_call 67
  refine (entC w1.heap.size _ _ (parA p false 11) p.f 15 _ K11.out.own ((H0.out.2.2.2.2.2.1.below HB.out.1).below K11.out.bel) (fun hx k h h2 => by have := own_of_row H0.out.2.2.2.2.2.1 hx h; have := (K11.out.own.lt k h2).1; omega) (fun hx k h => by have := own_of_row H0.out.2.2.2.2.2.1 hx h; have := K11.out.bel.size; omega) K11.out.bel.size (by have := H0.out.2.2.2.2.2.2.1 11 (by decide); omega) (by have := H0.out.2.2.2.2.2.2.2.1.2.2; omega) (by decide) (by decide)).mono ?_
  rintro e w13 ⟨r13, rfl, o13, g13⟩
  have el11 : (parL p false).getD 11 [] = entB 15 p.f := rfl
  have K12 : Hid (OutK w1 w13 r13 p false 12) := K11.out.step (by decide) (by rw [el11]; exact o13) g13
  clear gx11 c11_12 el11 o13 g13
  have gx12 : w13.heap[w.heap.size]? = some (.cells #[.int .i64 p.a0, .int .i64 p.a1, .int .i64 p.a2, .int .i64 p.a3, .int .i64 p.a4, .int .i64 p.a5, .int .i64 p.a6, .int .i64 p.a7, .int .i64 p.a8, .bool p.m, .slice d2 p.o.length p2, .slice d3 p.t.length p3, .slice d4 p.f.length p4] 35 (0, 0)) := (K12.out.bel.block w.heap.size hz1).trans HB.out.2.2
  have c12_8 : w13.cell? ⟨w.heap.size, 8, none⟩ = some (.int .i64 p.a8) := by rw [bk_cell gx12]; rfl
  go_wp2_with fail
  go_at_call 68
  refine (numC w1.heap.size _ (parA p false 12) 32 p.a8 _ K12.out.own K12.out.bel.size (by have := H0.out.2.2.2.2.2.2.1 12 (by decide); omega) (by decide) (by decide) (by have := HQ.out.2.2.2.2.2.2.2.2; omega) (by have := HQ.out.2.2.2.2.2.2.2.2; omega)).mono ?_
  rintro e w14 ⟨r14, rfl, o14, g14⟩
  have el12 : (parL p false).getD 12 [] = entB 32 (putv p.a8) := rfl
  have K13 : Hid (OutK w1 w14 r14 p false 13) := K12.out.step (by decide) (by rw [el12]; exact o14) g14
  clear gx12 c12_8 el12 o14 g14
  go_wp2
  go_ret2
  refine ⟨_, rfl, ?_, HB.out.1.trans (K13.out.bel.mono HB.out.1.size)⟩
  have := owns_mono K13.out.own (base' := w.heap.size) HB.out.1.size
  rw [parA_13] at this
  exact this
end Go.Proofs.YteggfkekgdlecaaGreatDoor

namespace Go.Proofs.YteggfkekgdlecaaGreatDoor
open Go.RowKit
set_option linter.unusedVariables false

set_option maxRecDepth 20000 in
set_option maxHeartbeats 4000000 in
theorem pbS_001 (v : Value) (p : PP) (w : World) (hr : PPRow w v p) (hs : p.small 9223372036854775807) (hyes : pok p false = true) (ht : p.t.length = 0) (hm : p.m = true) :
    Calls Tryz.prog 48 #[v, .bool false] w fun e w' => ∃ r, e = .returned (.tuple #[r, .int .i64 0]) ∧ w'.ownsRow w.heap.size 5 1 r (parB p false).length ((parB p false).map (Value.int .u8)) ∧ Below w.heap.size w w' := by
  obtain ⟨d2, d3, d4, p2, p3, p4, rfl, r2, r3, r4⟩ := hr.parts
  obtain ⟨⟨z2, z3, z4⟩, q0, q1, q2, q3, q4, q5, q6, q7, q8⟩ := pok_parts p false hyes
  have b0 := (Below.refl w.heap.size w).alloc (Nat.le_refl _) (.cells #[.int .i64 p.a0, .int .i64 p.a1, .int .i64 p.a2, .int .i64 p.a3, .int .i64 p.a4, .int .i64 p.a5, .int .i64 p.a6, .int .i64 p.a7, .int .i64 p.a8, .bool p.m, .slice d2 p.o.length p2, .slice d3 p.t.length p3, .slice d4 p.f.length p4] 35)
  have g0 := heap_alloc_new w (.cells #[.int .i64 p.a0, .int .i64 p.a1, .int .i64 p.a2, .int .i64 p.a3, .int .i64 p.a4, .int .i64 p.a5, .int .i64 p.a6, .int .i64 p.a7, .int .i64 p.a8, .bool p.m, .slice d2 p.o.length p2, .slice d3 p.t.length p3, .slice d4 p.f.length p4] 35)
  have C := pokS _ p false _ (hr.below b0) hs
  rw [hyes] at C
  have LE := parA_le p false hyes
  have H0 : Hid _ := And.intro C (And.intro b0 (And.intro g0 (And.intro r2 (And.intro r3 (And.intro r4 (And.intro LE (And.intro (And.intro z2 (And.intro z3 z4)) (And.intro ht hm))))))))
  have HQ : Hid _ := And.intro q0 (And.intro q1 (And.intro q2 (And.intro q3 (And.intro q4 (And.intro q5 (And.intro q6 (And.intro q7 q8)))))))
  clear C b0 g0 hr hs hyes r2 r3 r4 LE z2 z3 z4 q0 q1 q2 q3 q4 q5 q6 q7 q8 ht hm
  go_enter Tryz.func48, Tryz.ntmps48
  go_wp2_with fail
  go_at_call 44
  refine H0.out.1.mono ?_
  rintro e w1 ⟨rfl, b1⟩
  have o0 : (w1.alloc (.cells #[] 5)).ownsRow w1.heap.size 5 1 (.slice (some ⟨w1.heap.size, 0, none⟩) 0 0) (parA p false 0).length ((parA p false 0).map (Value.int .u8)) := World.ownsRow_lit _ #[] 0 (Nat.le_refl _) (by decide) rfl
  have K0 : Hid (OutK w1 (w1.alloc (.cells #[] 5)) (.slice (some ⟨w1.heap.size, 0, none⟩) 0 0) p false 0) := ⟨o0, (Below.refl _ _).alloc (Nat.le_refl _) _⟩
  have HB : Hid _ := And.intro (H0.out.2.1.trans (b1.mono H0.out.2.1.size)) (And.intro b1 ((b1.block w.heap.size (by simp)).trans H0.out.2.2.1))
  have hz1 : w.heap.size < w1.heap.size := by have := b1.size; simp at this; omega
  clear b1 o0
  have K1 : Hid (OutK w1 (w1.alloc (.cells #[] 5)) (.slice (some ⟨w1.heap.size, 0, none⟩) 0 0) p false 1) := K0.out.skip (by decide) (by show (if false = true then entB 0 p.o else []) = []; rw [if_neg (by decide)])
  have gx1 : (w1.alloc (.cells #[] 5)).heap[w.heap.size]? = some (.cells #[.int .i64 p.a0, .int .i64 p.a1, .int .i64 p.a2, .int .i64 p.a3, .int .i64 p.a4, .int .i64 p.a5, .int .i64 p.a6, .int .i64 p.a7, .int .i64 p.a8, .bool p.m, .slice d2 p.o.length p2, .slice d3 p.t.length p3, .slice d4 p.f.length p4] 35 (0, 0)) := (K1.out.bel.block w.heap.size hz1).trans HB.out.2.2
  have c1_0 : (w1.alloc (.cells #[] 5)).cell? ⟨w.heap.size, 0, none⟩ = some (.int .i64 p.a0) := by rw [bk_cell gx1]; rfl
  have c1_11 : (w1.alloc (.cells #[] 5)).cell? ⟨w.heap.size, 11, none⟩ = some (.slice d3 p.t.length p3) := by rw [bk_cell gx1]; rfl
  go_wp2_with fail
  go_at_call 68
  refine (numC w1.heap.size _ (parA p false 1) 1 p.a0 _ K1.out.own K1.out.bel.size (by have := H0.out.2.2.2.2.2.2.1 1 (by decide); omega) (by decide) (by decide) (by have := HQ.out.1; omega) (by have := HQ.out.1; omega)).mono ?_
  rintro e w3 ⟨r3, rfl, o3, g3⟩
  have el1 : (parL p false).getD 1 [] = entB 1 (putv p.a0) := rfl
  have K2 : Hid (OutK w1 w3 r3 p false 2) := K1.out.step (by decide) (by rw [el1]; exact o3) g3
  clear gx1 c1_0 c1_11 el1 o3 g3
  have hd : decide (0 < p.t.length) = false := decide_eq_false (by have := H0.out.2.2.2.2.2.2.2.2.1; omega)
  have hd2 : ¬ (0 < p.t.length) := by have := H0.out.2.2.2.2.2.2.2.2.1; omega
  have gy1 : w3.heap[w.heap.size]? = some (.cells #[.int .i64 p.a0, .int .i64 p.a1, .int .i64 p.a2, .int .i64 p.a3, .int .i64 p.a4, .int .i64 p.a5, .int .i64 p.a6, .int .i64 p.a7, .int .i64 p.a8, .bool p.m, .slice d2 p.o.length p2, .slice d3 p.t.length p3, .slice d4 p.f.length p4] 35 (0, 0)) := (K2.out.bel.block w.heap.size hz1).trans HB.out.2.2
  have cy1 : w3.cell? ⟨w.heap.size, 11, none⟩ = some (.slice d3 p.t.length p3) := by rw [bk_cell gy1]; rfl
  clear gy1
  have K3 : Hid (OutK w1 w3 r3 p false 3) := K2.out.skip (by decide) (by show (if 0 < p.t.length then entB 2 p.t else []) = []; rw [if_neg (by have := H0.out.2.2.2.2.2.2.2.2.1; omega)])
  have gx3 : w3.heap[w.heap.size]? = some (.cells #[.int .i64 p.a0, .int .i64 p.a1, .int .i64 p.a2, .int .i64 p.a3, .int .i64 p.a4, .int .i64 p.a5, .int .i64 p.a6, .int .i64 p.a7, .int .i64 p.a8, .bool p.m, .slice d2 p.o.length p2, .slice d3 p.t.length p3, .slice d4 p.f.length p4] 35 (0, 0)) := (K3.out.bel.block w.heap.size hz1).trans HB.out.2.2
  have c3_1 : w3.cell? ⟨w.heap.size, 1, none⟩ = some (.int .i64 p.a1) := by rw [bk_cell gx3]; rfl
  go_wp2_with fail
  go_at_call 68
  refine (numC w1.heap.size _ (parA p false 3) 3 p.a1 _ K3.out.own K3.out.bel.size (by have := H0.out.2.2.2.2.2.2.1 3 (by decide); omega) (by decide) (by decide) (by have := HQ.out.2.1; omega) (by have := HQ.out.2.1; omega)).mono ?_
  rintro e w5 ⟨r5, rfl, o5, g5⟩
  have el3 : (parL p false).getD 3 [] = entB 3 (putv p.a1) := rfl
  have K4 : Hid (OutK w1 w5 r5 p false 4) := K3.out.step (by decide) (by rw [el3]; exact o5) g5
  clear gx3 c3_1 el3 o5 g5
  clear hd hd2
  have gx4 : w5.heap[w.heap.size]? = some (.cells #[.int .i64 p.a0, .int .i64 p.a1, .int .i64 p.a2, .int .i64 p.a3, .int .i64 p.a4, .int .i64 p.a5, .int .i64 p.a6, .int .i64 p.a7, .int .i64 p.a8, .bool p.m, .slice d2 p.o.length p2, .slice d3 p.t.length p3, .slice d4 p.f.length p4] 35 (0, 0)) := (K4.out.bel.block w.heap.size hz1).trans HB.out.2.2
  have c4_2 : w5.cell? ⟨w.heap.size, 2, none⟩ = some (.int .i64 p.a2) := by rw [bk_cell gx4]; rfl
  go_wp2_with fail
  go_at_call 68
  refine (numC w1.heap.size _ (parA p false 4) 4 p.a2 _ K4.out.own K4.out.bel.size (by have := H0.out.2.2.2.2.2.2.1 4 (by decide); omega) (by decide) (by decide) (by have := HQ.out.2.2.1; omega) (by have := HQ.out.2.2.1; omega)).mono ?_
  rintro e w6 ⟨r6, rfl, o6, g6⟩
  have el4 : (parL p false).getD 4 [] = entB 4 (putv p.a2) := rfl
  have K5 : Hid (OutK w1 w6 r6 p false 5) := K4.out.step (by decide) (by rw [el4]; exact o6) g6
  clear gx4 c4_2 el4 o6 g6
  have gx5 : w6.heap[w.heap.size]? = some (.cells #[.int .i64 p.a0, .int .i64 p.a1, .int .i64 p.a2, .int .i64 p.a3, .int .i64 p.a4, .int .i64 p.a5, .int .i64 p.a6, .int .i64 p.a7, .int .i64 p.a8, .bool p.m, .slice d2 p.o.length p2, .slice d3 p.t.length p3, .slice d4 p.f.length p4] 35 (0, 0)) := (K5.out.bel.block w.heap.size hz1).trans HB.out.2.2
  have c5_3 : w6.cell? ⟨w.heap.size, 3, none⟩ = some (.int .i64 p.a3) := by rw [bk_cell gx5]; rfl
  go_wp2_with fail
  go_at_call 68
  refine (numC w1.heap.size _ (parA p false 5) 5 p.a3 _ K5.out.own K5.out.bel.size (by have := H0.out.2.2.2.2.2.2.1 5 (by decide); omega) (by decide) (by decide) (by have := HQ.out.2.2.2.1; omega) (by have := HQ.out.2.2.2.1; omega)).mono ?_
  rintro e w7 ⟨r7, rfl, o7, g7⟩
  have el5 : (parL p false).getD 5 [] = entB 5 (putv p.a3) := rfl
  have K6 : Hid (OutK w1 w7 r7 p false 6) := K5.out.step (by decide) (by rw [el5]; exact o7) g7
  clear gx5 c5_3 el5 o7 g7
  have gx6 : w7.heap[w.heap.size]? = some (.cells #[.int .i64 p.a0, .int .i64 p.a1, .int .i64 p.a2, .int .i64 p.a3, .int .i64 p.a4, .int .i64 p.a5, .int .i64 p.a6, .int .i64 p.a7, .int .i64 p.a8, .bool p.m, .slice d2 p.o.length p2, .slice d3 p.t.length p3, .slice d4 p.f.length p4] 35 (0, 0)) := (K6.out.bel.block w.heap.size hz1).trans HB.out.2.2
  have c6_4 : w7.cell? ⟨w.heap.size, 4, none⟩ = some (.int .i64 p.a4) := by rw [bk_cell gx6]; rfl
  go_wp2_with fail
  go_at_call 68
  refine (numC w1.heap.size _ (parA p false 6) 8 p.a4 _ K6.out.own K6.out.bel.size (by have := H0.out.2.2.2.2.2.2.1 6 (by decide); omega) (by decide) (by decide) (by have := HQ.out.2.2.2.2.1; omega) (by have := HQ.out.2.2.2.2.1; omega)).mono ?_
  rintro e w8 ⟨r8, rfl, o8, g8⟩
  have el6 : (parL p false).getD 6 [] = entB 8 (putv p.a4) := rfl
  have K7 : Hid (OutK w1 w8 r8 p false 7) := K6.out.step (by decide) (by rw [el6]; exact o8) g8
  clear gx6 c6_4 el6 o8 g8
  have gx7 : w8.heap[w.heap.size]? = some (.cells #[.int .i64 p.a0, .int .i64 p.a1, .int .i64 p.a2, .int .i64 p.a3, .int .i64 p.a4, .int .i64 p.a5, .int .i64 p.a6, .int .i64 p.a7, .int .i64 p.a8, .bool p.m, .slice d2 p.o.length p2, .slice d3 p.t.length p3, .slice d4 p.f.length p4] 35 (0, 0)) := (K7.out.bel.block w.heap.size hz1).trans HB.out.2.2
  have c7_5 : w8.cell? ⟨w.heap.size, 5, none⟩ = some (.int .i64 p.a5) := by rw [bk_cell gx7]; rfl
  go_wp2_with fail
  go_at_call 68
  refine (numC w1.heap.size _ (parA p false 7) 9 p.a5 _ K7.out.own K7.out.bel.size (by have := H0.out.2.2.2.2.2.2.1 7 (by decide); omega) (by decide) (by decide) (by have := HQ.out.2.2.2.2.2.1; omega) (by have := HQ.out.2.2.2.2.2.1; omega)).mono ?_
  rintro e w9 ⟨r9, rfl, o9, g9⟩
  have el7 : (parL p false).getD 7 [] = entB 9 (putv p.a5) := rfl
  have K8 : Hid (OutK w1 w9 r9 p false 8) := K7.out.step (by decide) (by rw [el7]; exact o9) g9
  clear gx7 c7_5 el7 o9 g9
  have gx8 : w9.heap[w.heap.size]? = some (.cells #[.int .i64 p.a0, .int .i64 p.a1, .int .i64 p.a2, .int .i64 p.a3, .int .i64 p.a4, .int .i64 p.a5, .int .i64 p.a6, .int .i64 p.a7, .int .i64 p.a8, .bool p.m, .slice d2 p.o.length p2, .slice d3 p.t.length p3, .slice d4 p.f.length p4] 35 (0, 0)) := (K8.out.bel.block w.heap.size hz1).trans HB.out.2.2
  have c8_6 : w9.cell? ⟨w.heap.size, 6, none⟩ = some (.int .i64 p.a6) := by rw [bk_cell gx8]; rfl
  have c8_9 : w9.cell? ⟨w.heap.size, 9, none⟩ = some (.bool p.m) := by rw [bk_cell gx8]; rfl
  go_wp2_with fail
  go_at_call 68
  refine (numC w1.heap.size _ (parA p false 8) 11 p.a6 _ K8.out.own K8.out.bel.size (by have := H0.out.2.2.2.2.2.2.1 8 (by decide); omega) (by decide) (by decide) (by have := HQ.out.2.2.2.2.2.2.1; omega) (by have := HQ.out.2.2.2.2.2.2.1; omega)).mono ?_
  rintro e w10 ⟨r10, rfl, o10, g10⟩
  have el8 : (parL p false).getD 8 [] = entB 11 (putv p.a6) := rfl
  have K9 : Hid (OutK w1 w10 r10 p false 9) := K8.out.step (by decide) (by rw [el8]; exact o10) g10
  clear gx8 c8_6 c8_9 el8 o10 g10
  have gy8 : w10.heap[w.heap.size]? = some (.cells #[.int .i64 p.a0, .int .i64 p.a1, .int .i64 p.a2, .int .i64 p.a3, .int .i64 p.a4, .int .i64 p.a5, .int .i64 p.a6, .int .i64 p.a7, .int .i64 p.a8, .bool p.m, .slice d2 p.o.length p2, .slice d3 p.t.length p3, .slice d4 p.f.length p4] 35 (0, 0)) := (K9.out.bel.block w.heap.size hz1).trans HB.out.2.2
  have cy8 : w10.cell? ⟨w.heap.size, 9, none⟩ = some (.bool true) := by rw [bk_cell gy8]; show some (Value.bool p.m) = _; rw [H0.out.2.2.2.2.2.2.2.2.2]
  clear gy8
  have gx9 : w10.heap[w.heap.size]? = some (.cells #[.int .i64 p.a0, .int .i64 p.a1, .int .i64 p.a2, .int .i64 p.a3, .int .i64 p.a4, .int .i64 p.a5, .int .i64 p.a6, .int .i64 p.a7, .int .i64 p.a8, .bool p.m, .slice d2 p.o.length p2, .slice d3 p.t.length p3, .slice d4 p.f.length p4] 35 (0, 0)) := (K9.out.bel.block w.heap.size hz1).trans HB.out.2.2
  have c9_9 : w10.cell? ⟨w.heap.size, 9, none⟩ = some (.bool p.m) := by rw [bk_cell gx9]; rfl
  go_wp2_with fail
  go_at_call 67
  have az : Below w10.heap.size w10 (w10.alloc (.cells #[] 5)) := (Below.refl _ _).alloc (Nat.le_refl _) _
  refine (entC w1.heap.size _ (.slice (some ⟨w10.heap.size, 0, none⟩) 0 0) (parA p false 9) [] 12 (w10.alloc (.cells #[] 5)) (owns_below K9.out.own az) (Or.inl ⟨rfl, _, _, rfl⟩) (fun hx => absurd rfl hx) (fun hx => absurd rfl hx) (Nat.le_trans K9.out.bel.size az.size) (by have := H0.out.2.2.2.2.2.2.1 9 (by decide); omega) (by simp) (by decide) (by decide)).mono ?_
  rintro e w11 ⟨r11, rfl, o11, g11⟩
  have el9 : (parL p false).getD 9 [] = entB 12 [] := by show (if p.m = true then entB 12 [] else []) = _; rw [if_pos H0.out.2.2.2.2.2.2.2.2.2]
  have K10 : Hid (OutK w1 w11 r11 p false 10) := K9.out.step (by decide) (by rw [el9]; exact o11) (GrW.after az g11)
  clear gx9 c9_9 el9 o11 g11 az
  have gx10 : w11.heap[w.heap.size]? = some (.cells #[.int .i64 p.a0, .int .i64 p.a1, .int .i64 p.a2, .int .i64 p.a3, .int .i64 p.a4, .int .i64 p.a5, .int .i64 p.a6, .int .i64 p.a7, .int .i64 p.a8, .bool p.m, .slice d2 p.o.length p2, .slice d3 p.t.length p3, .slice d4 p.f.length p4] 35 (0, 0)) := (K10.out.bel.block w.heap.size hz1).trans HB.out.2.2
  have c10_7 : w11.cell? ⟨w.heap.size, 7, none⟩ = some (.int .i64 p.a7) := by rw [bk_cell gx10]; rfl
  go_wp2_with fail
  go_at_call 68
  refine (numC w1.heap.size _ (parA p false 10) 14 p.a7 _ K10.out.own K10.out.bel.size (by have := H0.out.2.2.2.2.2.2.1 10 (by decide); omega) (by decide) (by decide) (by have := HQ.out.2.2.2.2.2.2.2.1; omega) (by have := HQ.out.2.2.2.2.2.2.2.1; omega)).mono ?_
  rintro e w12 ⟨r12, rfl, o12, g12⟩
  have el10 : (parL p false).getD 10 [] = entB 14 (putv p.a7) := rfl
  have K11 : Hid (OutK w1 w12 r12 p false 11) := K10.out.step (by decide) (by rw [el10]; exact o12) g12
  clear gx10 c10_7 el10 o12 g12
  have gx11 : w12.heap[w.heap.size]? = some (.cells #[.int .i64 p.a0, .int .i64 p.a1, .int .i64 p.a2, .int .i64 p.a3, .int .i64 p.a4, .int .i64 p.a5, .int .i64 p.a6, .int .i64 p.a7, .int .i64 p.a8, .bool p.m, .slice d2 p.o.length p2, .slice d3 p.t.length p3, .slice d4 p.f.length p4] 35 (0, 0)) := (K11.out.bel.block w.heap.size hz1).trans HB.out.2.2
  have c11_12 : w12.cell? ⟨w.heap.size, 12, none⟩ = some (.slice d4 p.f.length p4) := by rw [bk_cell gx11]; rfl
  go_wp2_with fail
  go_at_call 67
  refine (entC w1.heap.size _ _ (parA p false 11) p.f 15 _ K11.out.own ((H0.out.2.2.2.2.2.1.below HB.out.1).below K11.out.bel) (fun hx k h h2 => by have := own_of_row H0.out.2.2.2.2.2.1 hx h; have := (K11.out.own.lt k h2).1; omega) (fun hx k h => by have := own_of_row H0.out.2.2.2.2.2.1 hx h; have := K11.out.bel.size; omega) K11.out.bel.size (by have := H0.out.2.2.2.2.2.2.1 11 (by decide); omega) (by have := H0.out.2.2.2.2.2.2.2.1.2.2; omega) (by decide) (by decide)).mono ?_
  rintro e w13 ⟨r13, rfl, o13, g13⟩
  have el11 : (parL p false).getD 11 [] = entB 15 p.f := rfl
  have K12 : Hid (OutK w1 w13 r13 p false 12) := K11.out.step (by decide) (by rw [el11]; exact o13) g13
  clear gx11 c11_12 el11 o13 g13
  have gx12 : w13.heap[w.heap.size]? = some (.cells #[.int .i64 p.a0, .int .i64 p.a1, .int .i64 p.a2, .int .i64 p.a3, .int .i64 p.a4, .int .i64 p.a5, .int .i64 p.a6, .int .i64 p.a7, .int .i64 p.a8, .bool p.m, .slice d2 p.o.length p2, .slice d3 p.t.length p3, .slice d4 p.f.length p4] 35 (0, 0)) := (K12.out.bel.block w.heap.size hz1).trans HB.out.2.2
  have c12_8 : w13.cell? ⟨w.heap.size, 8, none⟩ = some (.int .i64 p.a8) := by rw [bk_cell gx12]; rfl
  go_wp2_with fail
  go_at_call 68
  refine (numC w1.heap.size _ (parA p false 12) 32 p.a8 _ K12.out.own K12.out.bel.size (by have := H0.out.2.2.2.2.2.2.1 12 (by decide); omega) (by decide) (by decide) (by have := HQ.out.2.2.2.2.2.2.2.2; omega) (by have := HQ.out.2.2.2.2.2.2.2.2; omega)).mono ?_
  rintro e w14 ⟨r14, rfl, o14, g14⟩
  have el12 : (parL p false).getD 12 [] = entB 32 (putv p.a8) := rfl
  have K13 : Hid (OutK w1 w14 r14 p false 13) := K12.out.step (by decide) (by rw [el12]; exact o14) g14
  clear gx12 c12_8 el12 o14 g14
  go_wp2
  go_ret2
  refine ⟨_, rfl, ?_, HB.out.1.trans (K13.out.bel.mono HB.out.1.size)⟩
  have := owns_mono K13.out.own (base' := w.heap.size) HB.out.1.size
  rw [parA_13] at this
  exact this
end Go.Proofs.YteggfkekgdlecaaGreatDoor

namespace Go.Proofs.YteggfkekgdlecaaGreatDoor
open Go.RowKit
set_option linter.unusedVariables false

set_option maxRecDepth 20000 in
set_option maxHeartbeats 4000000 in
theorem pbS_010 (v : Value) (p : PP) (w : World) (hr : PPRow w v p) (hs : p.small 9223372036854775807) (hyes : pok p false = true) (ht : 0 < p.t.length) (hm : p.m = false) :
    Calls Tryz.prog 48 #[v, .bool false] w fun e w' => ∃ r, e = .returned (.tuple #[r, .int .i64 0]) ∧ w'.ownsRow w.heap.size 5 1 r (parB p false).length ((parB p false).map (Value.int .u8)) ∧ Below w.heap.size w w' := by
  obtain ⟨d2, d3, d4, p2, p3, p4, rfl, r2, r3, r4⟩ := hr.parts
  obtain ⟨⟨z2, z3, z4⟩, q0, q1, q2, q3, q4, q5, q6, q7, q8⟩ := pok_parts p false hyes
  have b0 := (Below.refl w.heap.size w).alloc (Nat.le_refl _) (.cells #[.int .i64 p.a0, .int .i64 p.a1, .int .i64 p.a2, .int .i64 p.a3, .int .i64 p.a4, .int .i64 p.a5, .int .i64 p.a6, .int .i64 p.a7, .int .i64 p.a8, .bool p.m, .slice d2 p.o.length p2, .slice d3 p.t.length p3, .slice d4 p.f.length p4] 35)
  have g0 := heap_alloc_new w (.cells #[.int .i64 p.a0, .int .i64 p.a1, .int .i64 p.a2, .int .i64 p.a3, .int .i64 p.a4, .int .i64 p.a5, .int .i64 p.a6, .int .i64 p.a7, .int .i64 p.a8, .bool p.m, .slice d2 p.o.length p2, .slice d3 p.t.length p3, .slice d4 p.f.length p4] 35)
  have C := pokS _ p false _ (hr.below b0) hs
  rw [hyes] at C
  have LE := parA_le p false hyes
  have H0 : Hid _ := And.intro C (And.intro b0 (And.intro g0 (And.intro r2 (And.intro r3 (And.intro r4 (And.intro LE (And.intro (And.intro z2 (And.intro z3 z4)) (And.intro ht hm))))))))
  have HQ : Hid _ := And.intro q0 (And.intro q1 (And.intro q2 (And.intro q3 (And.intro q4 (And.intro q5 (And.intro q6 (And.intro q7 q8)))))))
  clear C b0 g0 hr hs hyes r2 r3 r4 LE z2 z3 z4 q0 q1 q2 q3 q4 q5 q6 q7 q8 ht hm
  go_enter Tryz.func48, Tryz.ntmps48
  go_wp2_with fail
  go_at_call 44
  refine H0.out.1.mono ?_
  rintro e w1 ⟨rfl, b1⟩
  have o0 : (w1.alloc (.cells #[] 5)).ownsRow w1.heap.size 5 1 (.slice (some ⟨w1.heap.size, 0, none⟩) 0 0) (parA p false 0).length ((parA p false 0).map (Value.int .u8)) := World.ownsRow_lit _ #[] 0 (Nat.le_refl _) (by decide) rfl
  have K0 : Hid (OutK w1 (w1.alloc (.cells #[] 5)) (.slice (some ⟨w1.heap.size, 0, none⟩) 0 0) p false 0) := ⟨o0, (Below.refl _ _).alloc (Nat.le_refl _) _⟩
  have HB : Hid _ := And.intro (H0.out.2.1.trans (b1.mono H0.out.2.1.size)) (And.intro b1 ((b1.block w.heap.size (by simp)).trans H0.out.2.2.1))
  have hz1 : w.heap.size < w1.heap.size := by have := b1.size; simp at this; omega
  clear b1 o0
  have K1 : Hid (OutK w1 (w1.alloc (.cells #[] 5)) (.slice (some ⟨w1.heap.size, 0, none⟩) 0 0) p false 1) := K0.out.skip (by decide) (by show (if false = true then entB 0 p.o else []) = []; rw [if_neg (by decide)])
  have gx1 : (w1.alloc (.cells #[] 5)).heap[w.heap.size]? = some (.cells #[.int .i64 p.a0, .int .i64 p.a1, .int .i64 p.a2, .int .i64 p.a3, .int .i64 p.a4, .int .i64 p.a5, .int .i64 p.a6, .int .i64 p.a7, .int .i64 p.a8, .bool p.m, .slice d2 p.o.length p2, .slice d3 p.t.length p3, .slice d4 p.f.length p4] 35 (0, 0)) := (K1.out.bel.block w.heap.size hz1).trans HB.out.2.2
  have c1_0 : (w1.alloc (.cells #[] 5)).cell? ⟨w.heap.size, 0, none⟩ = some (.int .i64 p.a0) := by rw [bk_cell gx1]; rfl
  have c1_11 : (w1.alloc (.cells #[] 5)).cell? ⟨w.heap.size, 11, none⟩ = some (.slice d3 p.t.length p3) := by rw [bk_cell gx1]; rfl
  go_wp2_with fail
  go_at_call 68
  refine (numC w1.heap.size _ (parA p false 1) 1 p.a0 _ K1.out.own K1.out.bel.size (by have := H0.out.2.2.2.2.2.2.1 1 (by decide); omega) (by decide) (by decide) (by have := HQ.out.1; omega) (by have := HQ.out.1; omega)).mono ?_
  rintro e w3 ⟨r3, rfl, o3, g3⟩
  have el1 : (parL p false).getD 1 [] = entB 1 (putv p.a0) := rfl
  have K2 : Hid (OutK w1 w3 r3 p false 2) := K1.out.step (by decide) (by rw [el1]; exact o3) g3
  clear gx1 c1_0 c1_11 el1 o3 g3
  have hd : decide (0 < p.t.length) = true := decide_eq_true (by have := H0.out.2.2.2.2.2.2.2.2.1; omega)
  have hd2 : 0 < p.t.length := by have := H0.out.2.2.2.2.2.2.2.2.1; omega
  have gy1 : w3.heap[w.heap.size]? = some (.cells #[.int .i64 p.a0, .int .i64 p.a1, .int .i64 p.a2, .int .i64 p.a3, .int .i64 p.a4, .int .i64 p.a5, .int .i64 p.a6, .int .i64 p.a7, .int .i64 p.a8, .bool p.m, .slice d2 p.o.length p2, .slice d3 p.t.length p3, .slice d4 p.f.length p4] 35 (0, 0)) := (K2.out.bel.block w.heap.size hz1).trans HB.out.2.2
  have cy1 : w3.cell? ⟨w.heap.size, 11, none⟩ = some (.slice d3 p.t.length p3) := by rw [bk_cell gy1]; rfl
  clear gy1
  have gx2 : w3.heap[w.heap.size]? = some (.cells #[.int .i64 p.a0, .int .i64 p.a1, .int .i64 p.a2, .int .i64 p.a3, .int .i64 p.a4, .int .i64 p.a5, .int .i64 p.a6, .int .i64 p.a7, .int .i64 p.a8, .bool p.m, .slice d2 p.o.length p2, .slice d3 p.t.length p3, .slice d4 p.f.length p4] 35 (0, 0)) := (K2.out.bel.block w.heap.size hz1).trans HB.out.2.2
  have c2_11 : w3.cell? ⟨w.heap.size, 11, none⟩ = some (.slice d3 p.t.length p3) := by rw [bk_cell gx2]; rfl
  go_wp2_with fail
  go_at_call 67
  refine (entC w1.heap.size _ _ (parA p false 2) p.t 2 _ K2.out.own ((H0.out.2.2.2.2.1.below HB.out.1).below K2.out.bel) (fun hx k h h2 => by have := own_of_row H0.out.2.2.2.2.1 hx h; have := (K2.out.own.lt k h2).1; omega) (fun hx k h => by have := own_of_row H0.out.2.2.2.2.1 hx h; have := K2.out.bel.size; omega) K2.out.bel.size (by have := H0.out.2.2.2.2.2.2.1 2 (by decide); omega) (by have := H0.out.2.2.2.2.2.2.2.1.2.1; omega) (by decide) (by decide)).mono ?_
  rintro e w4 ⟨r4, rfl, o4, g4⟩
  have el2 : (parL p false).getD 2 [] = entB 2 p.t := by show (if 0 < p.t.length then entB 2 p.t else []) = _; rw [if_pos H0.out.2.2.2.2.2.2.2.2.1]
  have K3 : Hid (OutK w1 w4 r4 p false 3) := K2.out.step (by decide) (by rw [el2]; exact o4) g4
  clear gx2 c2_11 el2 o4 g4
  clear hd hd2
  have gx3 : w4.heap[w.heap.size]? = some (.cells #[.int .i64 p.a0, .int .i64 p.a1, .int .i64 p.a2, .int .i64 p.a3, .int .i64 p.a4, .int .i64 p.a5, .int .i64 p.a6, .int .i64 p.a7, .int .i64 p.a8, .bool p.m, .slice d2 p.o.length p2, .slice d3 p.t.length p3, .slice d4 p.f.length p4] 35 (0, 0)) := (K3.out.bel.block w.heap.size hz1).trans HB.out.2.2
  have c3_1 : w4.cell? ⟨w.heap.size, 1, none⟩ = some (.int .i64 p.a1) := by rw [bk_cell gx3]; rfl
  go_wp2_with fail
  go_at_call 68
  refine (numC w1.heap.size _ (parA p false 3) 3 p.a1 _ K3.out.own K3.out.bel.size (by have := H0.out.2.2.2.2.2.2.1 3 (by decide); omega) (by decide) (by decide) (by have := HQ.out.2.1; omega) (by have := HQ.out.2.1; omega)).mono ?_
  rintro e w5 ⟨r5, rfl, o5, g5⟩
  have el3 : (parL p false).getD 3 [] = entB 3 (putv p.a1) := rfl
  have K4 : Hid (OutK w1 w5 r5 p false 4) := K3.out.step (by decide) (by rw [el3]; exact o5) g5
  clear gx3 c3_1 el3 o5 g5
  have gx4 : w5.heap[w.heap.size]? = some (.cells #[.int .i64 p.a0, .int .i64 p.a1, .int .i64 p.a2, .int .i64 p.a3, .int .i64 p.a4, .int .i64 p.a5, .int .i64 p.a6, .int .i64 p.a7, .int .i64 p.a8, .bool p.m, .slice d2 p.o.length p2, .slice d3 p.t.length p3, .slice d4 p.f.length p4] 35 (0, 0)) := (K4.out.bel.block w.heap.size hz1).trans HB.out.2.2
  have c4_2 : w5.cell? ⟨w.heap.size, 2, none⟩ = some (.int .i64 p.a2) := by rw [bk_cell gx4]; rfl
  go_wp2_with fail
  go_at_call 68
  refine (numC w1.heap.size _ (parA p false 4) 4 p.a2 _ K4.out.own K4.out.bel.size (by have := H0.out.2.2.2.2.2.2.1 4 (by decide); omega) (by decide) (by decide) (by have := HQ.out.2.2.1; omega) (by have := HQ.out.2.2.1; omega)).mono ?_
  rintro e w6 ⟨r6, rfl, o6, g6⟩
  have el4 : (parL p false).getD 4 [] = entB 4 (putv p.a2) := rfl
  have K5 : Hid (OutK w1 w6 r6 p false 5) := K4.out.step (by decide) (by rw [el4]; exact o6) g6
  clear gx4 c4_2 el4 o6 g6
  have gx5 : w6.heap[w.heap.size]? = some (.cells #[.int .i64 p.a0, .int .i64 p.a1, .int .i64 p.a2, .int .i64 p.a3, .int .i64 p.a4, .int .i64 p.a5, .int .i64 p.a6, .int .i64 p.a7, .int .i64 p.a8, .bool p.m, .slice d2 p.o.length p2, .slice d3 p.t.length p3, .slice d4 p.f.length p4] 35 (0, 0)) := (K5.out.bel.block w.heap.size hz1).trans HB.out.2.2
  have c5_3 : w6.cell? ⟨w.heap.size, 3, none⟩ = some (.int .i64 p.a3) := by rw [bk_cell gx5]; rfl
  go_wp2_with fail
  go_at_call 68
  refine (numC w1.heap.size _ (parA p false 5) 5 p.a3 _ K5.out.own K5.out.bel.size (by have := H0.out.2.2.2.2.2.2.1 5 (by decide); omega) (by decide) (by decide) (by have := HQ.out.2.2.2.1; omega) (by have := HQ.out.2.2.2.1; omega)).mono ?_
  rintro e w7 ⟨r7, rfl, o7, g7⟩
  have el5 : (parL p false).getD 5 [] = entB 5 (putv p.a3) := rfl
  have K6 : Hid (OutK w1 w7 r7 p false 6) := K5.out.step (by decide) (by rw [el5]; exact o7) g7
  clear gx5 c5_3 el5 o7 g7
  have gx6 : w7.heap[w.heap.size]? = some (.cells #[.int .i64 p.a0, .int .i64 p.a1, .int .i64 p.a2, .int .i64 p.a3, .int .i64 p.a4, .int .i64 p.a5, .int .i64 p.a6, .int .i64 p.a7, .int .i64 p.a8, .bool p.m, .slice d2 p.o.length p2, .slice d3 p.t.length p3, .slice d4 p.f.length p4] 35 (0, 0)) := (K6.out.bel.block w.heap.size hz1).trans HB.out.2.2
  have c6_4 : w7.cell? ⟨w.heap.size, 4, none⟩ = some (.int .i64 p.a4) := by rw [bk_cell gx6]; rfl
  go_wp2_with fail
  go_at_call 68
  refine (numC w1.heap.size _ (parA p false 6) 8 p.a4 _ K6.out.own K6.out.bel.size (by have := H0.out.2.2.2.2.2.2.1 6 (by decide); omega) (by decide) (by decide) (by have := HQ.out.2.2.2.2.1; omega) (by have := HQ.out.2.2.2.2.1; omega)).mono ?_
  rintro e w8 ⟨r8, rfl, o8, g8⟩
  have el6 : (parL p false).getD 6 [] = entB 8 (putv p.a4) := rfl
  have K7 : Hid (OutK w1 w8 r8 p false 7) := K6.out.step (by decide) (by rw [el6]; exact o8) g8
  clear gx6 c6_4 el6 o8 g8
  have gx7 : w8.heap[w.heap.size]? = some (.cells #[.int .i64 p.a0, .int .i64 p.a1, .int .i64 p.a2, .int .i64 p.a3, .int .i64 p.a4, .int .i64 p.a5, .int .i64 p.a6, .int .i64 p.a7, .int .i64 p.a8, .bool p.m, .slice d2 p.o.length p2, .slice d3 p.t.length p3, .slice d4 p.f.length p4] 35 (0, 0)) := (K7.out.bel.block w.heap.size hz1).trans HB.out.2.2
  have c7_5 : w8.cell? ⟨w.heap.size, 5, none⟩ = some (.int .i64 p.a5) := by rw [bk_cell gx7]; rfl
  go_wp2_with fail
  go_at_call 68
  refine (numC w1.heap.size _ (parA p false 7) 9 p.a5 _ K7.out.own K7.out.bel.size (by have := H0.out.2.2.2.2.2.2.1 7 (by decide); omega) (by decide) (by decide) (by have := HQ.out.2.2.2.2.2.1; omega) (by have := HQ.out.2.2.2.2.2.1; omega)).mono ?_
  rintro e w9 ⟨r9, rfl, o9, g9⟩
  have el7 : (parL p false).getD 7 [] = entB 9 (putv p.a5) := rfl
  have K8 : Hid (OutK w1 w9 r9 p false 8) := K7.out.step (by decide) (by rw [el7]; exact o9) g9
  clear gx7 c7_5 el7 o9 g9
  have gx8 : w9.heap[w.heap.size]? = some (.cells #[.int .i64 p.a0, .int .i64 p.a1, .int .i64 p.a2, .int .i64 p.a3, .int .i64 p.a4, .int .i64 p.a5, .int .i64 p.a6, .int .i64 p.a7, .int .i64 p.a8, .bool p.m, .slice d2 p.o.length p2, .slice d3 p.t.length p3, .slice d4 p.f.length p4] 35 (0, 0)) := (K8.out.bel.block w.heap.size hz1).trans HB.out.2.2
  have c8_6 : w9.cell? ⟨w.heap.size, 6, none⟩ = some (.int .i64 p.a6) := by rw [bk_cell gx8]; rfl
  have c8_9 : w9.cell? ⟨w.heap.size, 9, none⟩ = some (.bool p.m) := by rw [bk_cell gx8]; rfl
  go_wp2_with fail
  go_at_call 68
  refine (numC w1.heap.size _ (parA p false 8) 11 p.a6 _ K8.out.own K8.out.bel.size (by have := H0.out.2.2.2.2.2.2.1 8 (by decide); omega) (by decide) (by decide) (by have := HQ.out.2.2.2.2.2.2.1; omega) (by have := HQ.out.2.2.2.2.2.2.1; omega)).mono ?_
  rintro e w10 ⟨r10, rfl, o10, g10⟩
  have el8 : (parL p false).getD 8 [] = entB 11 (putv p.a6) := rfl
  have K9 : Hid (OutK w1 w10 r10 p false 9) := K8.out.step (by decide) (by rw [el8]; exact o10) g10
  clear gx8 c8_6 c8_9 el8 o10 g10
  have gy8 : w10.heap[w.heap.size]? = some (.cells #[.int .i64 p.a0, .int .i64 p.a1, .int .i64 p.a2, .int .i64 p.a3, .int .i64 p.a4, .int .i64 p.a5, .int .i64 p.a6, .int .i64 p.a7, .int .i64 p.a8, .bool p.m, .slice d2 p.o.length p2, .slice d3 p.t.length p3, .slice d4 p.f.length p4] 35 (0, 0)) := (K9.out.bel.block w.heap.size hz1).trans HB.out.2.2
  have cy8 : w10.cell? ⟨w.heap.size, 9, none⟩ = some (.bool false) := by rw [bk_cell gy8]; show some (Value.bool p.m) = _; rw [H0.out.2.2.2.2.2.2.2.2.2]
  clear gy8
  have K10 : Hid (OutK w1 w10 r10 p false 10) := K9.out.skip (by decide) (by show (if p.m = true then entB 12 [] else []) = []; rw [if_neg (by rw [H0.out.2.2.2.2.2.2.2.2.2]; decide)])
  have gx10 : w10.heap[w.heap.size]? = some (.cells #[.int .i64 p.a0, .int .i64 p.a1, .int .i64 p.a2, .int .i64 p.a3, .int .i64 p.a4, .int .i64 p.a5, .int .i64 p.a6, .int .i64 p.a7, .int .i64 p.a8, .bool p.m, .slice d2 p.o.length p2, .slice d3 p.t.length p3, .slice d4 p.f.length p4] 35 (0, 0)) := (K10.out.bel.block w.heap.size hz1).trans HB.out.2.2
  have c10_7 : w10.cell? ⟨w.heap.size, 7, none⟩ = some (.int .i64 p.a7) := by rw [bk_cell gx10]; rfl
  go_wp2_with fail
  go_at_call 68
  refine (numC w1.heap.size _ (parA p false 10) 14 p.a7 _ K10.out.own K10.out.bel.size (by have := H0.out.2.2.2.2.2.2.1 10 (by decide); omega) (by decide) (by decide) (by have := HQ.out.2.2.2.2.2.2.2.1; omega) (by have := HQ.out.2.2.2.2.2.2.2.1; omega)).mono ?_
  rintro e w12 ⟨r12, rfl, o12, g12⟩
  have el10 : (parL p false).getD 10 [] = entB 14 (putv p.a7) := rfl
  have K11 : Hid (OutK w1 w12 r12 p false 11) := K10.out.step (by decide) (by rw [el10]; exact o12) g12
  clear gx10 c10_7 el10 o12 g12
  have gx11 : w12.heap[w.heap.size]? = some (.cells #[.int .i64 p.a0, .int .i64 p.a1, .int .i64 p.a2, .int .i64 p.a3, .int .i64 p.a4, .int .i64 p.a5, .int .i64 p.a6, .int .i64 p.a7, .int .i64 p.a8, .bool p.m, .slice d2 p.o.length p2, .slice d3 p.t.length p3, .slice d4 p.f.length p4] 35 (0, 0)) := (K11.out.bel.block w.heap.size hz1).trans HB.out.2.2
  have c11_12 : w12.cell? ⟨w.heap.size, 12, none⟩ = some (.slice d4 p.f.length p4) := by rw [bk_cell gx11]; rfl
  go_wp2_with fail
  go_at_call 67
  refine (entC w1.heap.size _ _ (parA p false 11) p.f 15 _ K11.out.own ((H0.out.2.2.2.2.2.1.below HB.out.1).below K11.out.bel) (fun hx k h h2 => by have := own_of_row H0.out.2.2.2.2.2.1 hx h; have := (K11.out.own.lt k h2).1; omega) (fun hx k h => by have := own_of_row H0.out.2.2.2.2.2.1 hx h; have := K11.out.bel.size; omega) K11.out.bel.size (by have := H0.out.2.2.2.2.2.2.1 11 (by decide); omega) (by have := H0.out.2.2.2.2.2.2.2.1.2.2; omega) (by decide) (by decide)).mono ?_
  rintro e w13 ⟨r13, rfl, o13, g13⟩
  have el11 : (parL p false).getD 11 [] = entB 15 p.f := rfl
  have K12 : Hid (OutK w1 w13 r13 p false 12) := K11.out.step (by decide) (by rw [el11]; exact o13) g13
  clear gx11 c11_12 el11 o13 g13
  have gx12 : w13.heap[w.heap.size]? = some (.cells #[.int .i64 p.a0, .int .i64 p.a1, .int .i64 p.a2, .int .i64 p.a3, .int .i64 p.a4, .int .i64 p.a5, .int .i64 p.a6, .int .i64 p.a7, .int .i64 p.a8, .bool p.m, .slice d2 p.o.length p2, .slice d3 p.t.length p3, .slice d4 p.f.length p4] 35 (0, 0)) := (K12.out.bel.block w.heap.size hz1).trans HB.out.2.2
  have c12_8 : w13.cell? ⟨w.heap.size, 8, none⟩ = some (.int .i64 p.a8) := by rw [bk_cell gx12]; rfl
  go_wp2_with fail
  go_at_call 68
  refine (numC w1.heap.size _ (parA p false 12) 32 p.a8 _ K12.out.own K12.out.bel.size (by have := H0.out.2.2.2.2.2.2.1 12 (by decide); omega) (by decide) (by decide) (by have := HQ.out.2.2.2.2.2.2.2.2; omega) (by have := HQ.out.2.2.2.2.2.2.2.2; omega)).mono ?_
  rintro e w14 ⟨r14, rfl, o14, g14⟩
  have el12 : (parL p false).getD 12 [] = entB 32 (putv p.a8) := rfl
  have K13 : Hid (OutK w1 w14 r14 p false 13) := K12.out.step (by decide) (by rw [el12]; exact o14) g14
  clear gx12 c12_8 el12 o14 g14
  go_wp2
  go_ret2
  refine ⟨_, rfl, ?_, HB.out.1.trans (K13.out.bel.mono HB.out.1.size)⟩
  have := owns_mono K13.out.own (base' := w.heap.size) HB.out.1.size
  rw [parA_13] at this
  exact this
end Go.Proofs.YteggfkekgdlecaaGreatDoor

namespace Go.Proofs.YteggfkekgdlecaaGreatDoor
open Go.RowKit
set_option linter.unusedVariables false

set_option maxRecDepth 20000 in
set_option maxHeartbeats 4000000 in
theorem pbS_011 (v : Value) (p : PP) (w : World) (hr : PPRow w v p) (hs : p.small 9223372036854775807) (hyes : pok p false = true) (ht : 0 < p.t.length) (hm : p.m = true) :
    Calls Tryz.prog 48 #[v, .bool false] w fun e w' => ∃ r, e = .returned (.tuple #[r, .int .i64 0]) ∧ w'.ownsRow w.heap.size 5 1 r (parB p false).length ((parB p false).map (Value.int .u8)) ∧ Below w.heap.size w w' := by
  obtain ⟨d2, d3, d4, p2, p3, p4, rfl, r2, r3, r4⟩ := hr.parts
  obtain ⟨⟨z2, z3, z4⟩, q0, q1, q2, q3, q4, q5, q6, q7, q8⟩ := pok_parts p false hyes
  have b0 := (Below.refl w.heap.size w).alloc (Nat.le_refl _) (.cells #[.int .i64 p.a0, .int .i64 p.a1, .int .i64 p.a2, .int .i64 p.a3, .int .i64 p.a4, .int .i64 p.a5, .int .i64 p.a6, .int .i64 p.a7, .int .i64 p.a8, .bool p.m, .slice d2 p.o.length p2, .slice d3 p.t.length p3, .slice d4 p.f.length p4] 35)
  have g0 := heap_alloc_new w (.cells #[.int .i64 p.a0, .int .i64 p.a1, .int .i64 p.a2, .int .i64 p.a3, .int .i64 p.a4, .int .i64 p.a5, .int .i64 p.a6, .int .i64 p.a7, .int .i64 p.a8, .bool p.m, .slice d2 p.o.length p2, .slice d3 p.t.length p3, .slice d4 p.f.length p4] 35)
  have C := pokS _ p false _ (hr.below b0) hs
  rw [hyes] at C
  have LE := parA_le p false hyes
  have H0 : Hid _ := And.intro C (And.intro b0 (And.intro g0 (And.intro r2 (And.intro r3 (And.intro r4 (And.intro LE (And.intro (And.intro z2 (And.intro z3 z4)) (And.intro ht hm))))))))
  have HQ : Hid _ := And.intro q0 (And.intro q1 (And.intro q2 (And.intro q3 (And.intro q4 (And.intro q5 (And.intro q6 (And.intro q7 q8)))))))
  clear C b0 g0 hr hs hyes r2 r3 r4 LE z2 z3 z4 q0 q1 q2 q3 q4 q5 q6 q7 q8 ht hm
  go_enter Tryz.func48, Tryz.ntmps48
  go_wp2_with fail
  go_at_call 44
  refine H0.out.1.mono ?_
  rintro e w1 ⟨rfl, b1⟩
  have o0 : (w1.alloc (.cells #[] 5)).ownsRow w1.heap.size 5 1 (.slice (some ⟨w1.heap.size, 0, none⟩) 0 0) (parA p false 0).length ((parA p false 0).map (Value.int .u8)) := World.ownsRow_lit _ #[] 0 (Nat.le_refl _) (by decide) rfl
  have K0 : Hid (OutK w1 (w1.alloc (.cells #[] 5)) (.slice (some ⟨w1.heap.size, 0, none⟩) 0 0) p false 0) := ⟨o0, (Below.refl _ _).alloc (Nat.le_refl _) _⟩
  have HB : Hid _ := And.intro (H0.out.2.1.trans (b1.mono H0.out.2.1.size)) (And.intro b1 ((b1.block w.heap.size (by simp)).trans H0.out.2.2.1))
  have hz1 : w.heap.size < w1.heap.size := by have := b1.size; simp at this; omega
  clear b1 o0
  have K1 : Hid (OutK w1 (w1.alloc (.cells #[] 5)) (.slice (some ⟨w1.heap.size, 0, none⟩) 0 0) p false 1) := K0.out.skip (by decide) (by show (if false = true then entB 0 p.o else []) = []; rw [if_neg (by decide)])
  have gx1 : (w1.alloc (.cells #[] 5)).heap[w.heap.size]? = some (.cells #[.int .i64 p.a0, .int .i64 p.a1, .int .i64 p.a2, .int .i64 p.a3, .int .i64 p.a4, .int .i64 p.a5, .int .i64 p.a6, .int .i64 p.a7, .int .i64 p.a8, .bool p.m, .slice d2 p.o.length p2, .slice d3 p.t.length p3, .slice d4 p.f.length p4] 35 (0, 0)) := (K1.out.bel.block w.heap.size hz1).trans HB.out.2.2
  have c1_0 : (w1.alloc (.cells #[] 5)).cell? ⟨w.heap.size, 0, none⟩ = some (.int .i64 p.a0) := by rw [bk_cell gx1]; rfl
  have c1_11 : (w1.alloc (.cells #[] 5)).cell? ⟨w.heap.size, 11, none⟩ = some (.slice d3 p.t.length p3) := by rw [bk_cell gx1]; rfl
  go_wp2_with fail
  go_at_call 68
  refine (numC w1.heap.size _ (parA p false 1) 1 p.a0 _ K1.out.own K1.out.bel.size (by have := H0.out.2.2.2.2.2.2.1 1 (by decide); omega) (by decide) (by decide) (by have := HQ.out.1; omega) (by have := HQ.out.1; omega)).mono ?_
  rintro e w3 ⟨r3, rfl, o3, g3⟩
  have el1 : (parL p false).getD 1 [] = entB 1 (putv p.a0) := rfl
  have K2 : Hid (OutK w1 w3 r3 p false 2) := K1.out.step (by decide) (by rw [el1]; exact o3) g3
  clear gx1 c1_0 c1_11 el1 o3 g3
  have hd : decide (0 < p.t.length) = true := decide_eq_true (by have := H0.out.2.2.2.2.2.2.2.2.1; omega)
  have hd2 : 0 < p.t.length := by have := H0.out.2.2.2.2.2.2.2.2.1; omega
  have gy1 : w3.heap[w.heap.size]? = some (.cells #[.int .i64 p.a0, .int .i64 p.a1, .int .i64 p.a2, .int .i64 p.a3, .int .i64 p.a4, .int .i64 p.a5, .int .i64 p.a6, .int .i64 p.a7, .int .i64 p.a8, .bool p.m, .slice d2 p.o.length p2, .slice d3 p.t.length p3, .slice d4 p.f.length p4] 35 (0, 0)) := (K2.out.bel.block w.heap.size hz1).trans HB.out.2.2
  have cy1 : w3.cell? ⟨w.heap.size, 11, none⟩ = some (.slice d3 p.t.length p3) := by rw [bk_cell gy1]; rfl
  clear gy1
  have gx2 : w3.heap[w.heap.size]? = some (.cells #[.int .i64 p.a0, .int .i64 p.a1, .int .i64 p.a2, .int .i64 p.a3, .int .i64 p.a4, .int .i64 p.a5, .int .i64 p.a6, .int .i64 p.a7, .int .i64 p.a8, .bool p.m, .slice d2 p.o.length p2, .slice d3 p.t.length p3, .slice d4 p.f.length p4] 35 (0, 0)) := (K2.out.bel.block w.heap.size hz1).trans HB.out.2.2
  have c2_11 : w3.cell? ⟨w.heap.size, 11, none⟩ = some (.slice d3 p.t.length p3) := by rw [bk_cell gx2]; rfl
  go_wp2_with fail
  go_at_call 67
  refine (entC w1.heap.size _ _ (parA p false 2) p.t 2 _ K2.out.own ((H0.out.2.2.2.2.1.below HB.out.1).below K2.out.bel) (fun hx k h h2 => by have := own_of_row H0.out.2.2.2.2.1 hx h; have := (K2.out.own.lt k h2).1; omega) (fun hx k h => by have := own_of_row H0.out.2.2.2.2.1 hx h; have := K2.out.bel.size; omega) K2.out.bel.size (by have := H0.out.2.2.2.2.2.2.1 2 (by decide); omega) (by have := H0.out.2.2.2.2.2.2.2.1.2.1; omega) (by decide) (by decide)).mono ?_
  rintro e w4 ⟨r4, rfl, o4, g4⟩
  have el2 : (parL p false).getD 2 [] = entB 2 p.t := by show (if 0 < p.t.length then entB 2 p.t else []) = _; rw [if_pos H0.out.2.2.2.2.2.2.2.2.1]
  have K3 : Hid (OutK w1 w4 r4 p false 3) := K2.out.step (by decide) (by rw [el2]; exact o4) g4
  clear gx2 c2_11 el2 o4 g4
  clear hd hd2
  have gx3 : w4.heap[w.heap.size]? = some (.cells #[.int .i64 p.a0, .int .i64 p.a1, .int .i64 p.a2, .int .i64 p.a3, .int .i64 p.a4, .int .i64 p.a5, .int .i64 p.a6, .int .i64 p.a7, .int .i64 p.a8, .bool p.m, .slice d2 p.o.length p2, .slice d3 p.t.length p3, .slice d4 p.f.length p4] 35 (0, 0)) := (K3.out.bel.block w.heap.size hz1).trans HB.out.2.2
  have c3_1 : w4.cell? ⟨w.heap.size, 1, none⟩ = some (.int .i64 p.a1) := by rw [bk_cell gx3]; rfl
  go_wp2_with fail
  go_at_call 68
  refine (numC w1.heap.size _ (parA p false 3) 3 p.a1 _ K3.out.own K3.out.bel.size (by have := H0.out.2.2.2.2.2.2.1 3 (by decide); omega) (by decide) (by decide) (by have := HQ.out.2.1; omega) (by have := HQ.out.2.1; omega)).mono ?_
  rintro e w5 ⟨r5, rfl, o5, g5⟩
  have el3 : (parL p false).getD 3 [] = entB 3 (putv p.a1) := rfl
  have K4 : Hid (OutK w1 w5 r5 p false 4) := K3.out.step (by decide) (by rw [el3]; exact o5) g5
  clear gx3 c3_1 el3 o5 g5
  have gx4 : w5.heap[w.heap.size]? = some (.cells #[.int .i64 p.a0, .int .i64 p.a1, .int .i64 p.a2, .int .i64 p.a3, .int .i64 p.a4, .int .i64 p.a5, .int .i64 p.a6, .int .i64 p.a7, .int .i64 p.a8, .bool p.m, .slice d2 p.o.length p2, .slice d3 p.t.length p3, .slice d4 p.f.length p4] 35 (0, 0)) := (K4.out.bel.block w.heap.size hz1).trans HB.out.2.2
  have c4_2 : w5.cell? ⟨w.heap.size, 2, none⟩ = some (.int .i64 p.a2) := by rw [bk_cell gx4]; rfl
  go_wp2_with fail
  go_at_call 68
  refine (numC w1.heap.size _ (parA p false 4) 4 p.a2 _ K4.out.own K4.out.bel.size (by have := H0.out.2.2.2.2.2.2.1 4 (by decide); omega) (by decide) (by decide) (by have := HQ.out.2.2.1; omega) (by have := HQ.out.2.2.1; omega)).mono ?_
  rintro e w6 ⟨r6, rfl, o6, g6⟩
  have el4 : (parL p false).getD 4 [] = entB 4 (putv p.a2) := rfl
  have K5 : Hid (OutK w1 w6 r6 p false 5) := K4.out.step (by decide) (by rw [el4]; exact o6) g6
  clear gx4 c4_2 el4 o6 g6
  have gx5 : w6.heap[w.heap.size]? = some (.cells #[.int .i64 p.a0, .int .i64 p.a1, .int .i64 p.a2, .int .i64 p.a3, .int .i64 p.a4, .int .i64 p.a5, .int .i64 p.a6, .int .i64 p.a7, .int .i64 p.a8, .bool p.m, .slice d2 p.o.length p2, .slice d3 p.t.length p3, .slice d4 p.f.length p4] 35 (0, 0)) := (K5.out.bel.block w.heap.size hz1).trans HB.out.2.2
  have c5_3 : w6.cell? ⟨w.heap.size, 3, none⟩ = some (.int .i64 p.a3) := by rw [bk_cell gx5]; rfl
  go_wp2_with fail
  go_at_call 68
  refine (numC w1.heap.size _ (parA p false 5) 5 p.a3 _ K5.out.own K5.out.bel.size (by have := H0.out.2.2.2.2.2.2.1 5 (by decide); omega) (by decide) (by decide) (by have := HQ.out.2.2.2.1; omega) (by have := HQ.out.2.2.2.1; omega)).mono ?_
  rintro e w7 ⟨r7, rfl, o7, g7⟩
  have el5 : (parL p false).getD 5 [] = entB 5 (putv p.a3) := rfl
  have K6 : Hid (OutK w1 w7 r7 p false 6) := K5.out.step (by decide) (by rw [el5]; exact o7) g7
  clear gx5 c5_3 el5 o7 g7
  have gx6 : w7.heap[w.heap.size]? = some (.cells #[.int .i64 p.a0, .int .i64 p.a1, .int .i64 p.a2, .int .i64 p.a3, .int .i64 p.a4, .int .i64 p.a5, .int .i64 p.a6, .int .i64 p.a7, .int .i64 p.a8, .bool p.m, .slice d2 p.o.length p2, .slice d3 p.t.length p3, .slice d4 p.f.length p4] 35 (0, 0)) := (K6.out.bel.block w.heap.size hz1).trans HB.out.2.2
  have c6_4 : w7.cell? ⟨w.heap.size, 4, none⟩ = some (.int .i64 p.a4) := by rw [bk_cell gx6]; rfl
  go_wp2_with fail
  go_at_call 68
  refine (numC w1.heap.size _ (parA p false 6) 8 p.a4 _ K6.out.own K6.out.bel.size (by have := H0.out.2.2.2.2.2.2.1 6 (by decide); omega) (by decide) (by decide) (by have := HQ.out.2.2.2.2.1; omega) (by have := HQ.out.2.2.2.2.1; omega)).mono ?_
  rintro e w8 ⟨r8, rfl, o8, g8⟩
  have el6 : (parL p false).getD 6 [] = entB 8 (putv p.a4) := rfl
  have K7 : Hid (OutK w1 w8 r8 p false 7) := K6.out.step (by decide) (by rw [el6]; exact o8) g8
  clear gx6 c6_4 el6 o8 g8
  have gx7 : w8.heap[w.heap.size]? = some (.cells #[.int .i64 p.a0, .int .i64 p.a1, .int .i64 p.a2, .int .i64 p.a3, .int .i64 p.a4, .int .i64 p.a5, .int .i64 p.a6, .int .i64 p.a7, .int .i64 p.a8, .bool p.m, .slice d2 p.o.length p2, .slice d3 p.t.length p3, .slice d4 p.f.length p4] 35 (0, 0)) := (K7.out.bel.block w.heap.size hz1).trans HB.out.2.2
  have c7_5 : w8.cell? ⟨w.heap.size, 5, none⟩ = some (.int .i64 p.a5) := by rw [bk_cell gx7]; rfl
  go_wp2_with fail
  go_at_call 68
  refine (numC w1.heap.size _ (parA p false 7) 9 p.a5 _ K7.out.own K7.out.bel.size (by have := H0.out.2.2.2.2.2.2.1 7 (by decide); omega) (by decide) (by decide) (by have := HQ.out.2.2.2.2.2.1; omega) (by have := HQ.out.2.2.2.2.2.1; omega)).mono ?_
  rintro e w9 ⟨r9, rfl, o9, g9⟩
  have el7 : (parL p false).getD 7 [] = entB 9 (putv p.a5) := rfl
  have K8 : Hid (OutK w1 w9 r9 p false 8) := K7.out.step (by decide) (by rw [el7]; exact o9) g9
  clear gx7 c7_5 el7 o9 g9
  have gx8 : w9.heap[w.heap.size]? = some (.cells #[.int .i64 p.a0, .int .i64 p.a1, .int .i64 p.a2, .int .i64 p.a3, .int .i64 p.a4, .int .i64 p.a5, .int .i64 p.a6, .int .i64 p.a7, .int .i64 p.a8, .bool p.m, .slice d2 p.o.length p2, .slice d3 p.t.length p3, .slice d4 p.f.length p4] 35 (0, 0)) := (K8.out.bel.block w.heap.size hz1).trans HB.out.2.2
  have c8_6 : w9.cell? ⟨w.heap.size, 6, none⟩ = some (.int .i64 p.a6) := by rw [bk_cell gx8]; rfl
  have c8_9 : w9.cell? ⟨w.heap.size, 9, none⟩ = some (.bool p.m) := by rw [bk_cell gx8]; rfl
  go_wp2_with fail
  go_at_call 68
  refine (numC w1.heap.size _ (parA p false 8) 11 p.a6 _ K8.out.own K8.out.bel.size (by have := H0.out.2.2.2.2.2.2.1 8 (by decide); omega) (by decide) (by decide) (by have := HQ.out.2.2.2.2.2.2.1; omega) (by have := HQ.out.2.2.2.2.2.2.1; omega)).mono ?_
  rintro e w10 ⟨r10, rfl, o10, g10⟩
  have el8 : (parL p false).getD 8 [] = entB 11 (putv p.a6) := rfl
  have K9 : Hid (OutK w1 w10 r10 p false 9) := K8.out.step (by decide) (by rw [el8]; exact o10) g10
  clear gx8 c8_6 c8_9 el8 o10 g10
  have gy8 : w10.heap[w.heap.size]? = some (.cells #[.int .i64 p.a0, .int .i64 p.a1, .int .i64 p.a2, .int .i64 p.a3, .int .i64 p.a4, .int .i64 p.a5, .int .i64 p.a6, .int .i64 p.a7, .int .i64 p.a8, .bool p.m, .slice d2 p.o.length p2, .slice d3 p.t.length p3, .slice d4 p.f.length p4] 35 (0, 0)) := (K9.out.bel.block w.heap.size hz1).trans HB.out.2.2
  have cy8 : w10.cell? ⟨w.heap.size, 9, none⟩ = some (.bool true) := by rw [bk_cell gy8]; show some (Value.bool p.m) = _; rw [H0.out.2.2.2.2.2.2.2.2.2]
  clear gy8
  have gx9 : w10.heap[w.heap.size]? = some (.cells #[.int .i64 p.a0, .int .i64 p.a1, .int .i64 p.a2, .int .i64 p.a3, .int .i64 p.a4, .int .i64 p.a5, .int .i64 p.a6, .int .i64 p.a7, .int .i64 p.a8, .bool p.m, .slice d2 p.o.length p2, .slice d3 p.t.length p3, .slice d4 p.f.length p4] 35 (0, 0)) := (K9.out.bel.block w.heap.size hz1).trans HB.out.2.2
  have c9_9 : w10.cell? ⟨w.heap.size, 9, none⟩ = some (.bool p.m) := by rw [bk_cell gx9]; rfl
  go_wp2_with fail
  go_at_call 67
  have az : Below w10.heap.size w10 (w10.alloc (.cells #[] 5)) := (Below.refl _ _).alloc (Nat.le_refl _) _
  refine (entC w1.heap.size _ (.slice (some ⟨w10.heap.size, 0, none⟩) 0 0) (parA p false 9) [] 12 (w10.alloc (.cells #[] 5)) (owns_below K9.out.own az) (Or.inl ⟨rfl, _, _, rfl⟩) (fun hx => absurd rfl hx) (fun hx => absurd rfl hx) (Nat.le_trans K9.out.bel.size az.size) (by have := H0.out.2.2.2.2.2.2.1 9 (by decide); omega) (by simp) (by decide) (by decide)).mono ?_
  rintro e w11 ⟨r11, rfl, o11, g11⟩
  have el9 : (parL p false).getD 9 [] = entB 12 [] := by show (if p.m = true then entB 12 [] else []) = _; rw [if_pos H0.out.2.2.2.2.2.2.2.2.2]
  have K10 : Hid (OutK w1 w11 r11 p false 10) := K9.out.step (by decide) (by rw [el9]; exact o11) (GrW.after az g11)
  clear gx9 c9_9 el9 o11 g11 az
  have gx10 : w11.heap[w.heap.size]? = some (.cells #[.int .i64 p.a0, .int .i64 p.a1, .int .i64 p.a2, .int .i64 p.a3, .int .i64 p.a4, .int .i64 p.a5, .int .i64 p.a6, .int .i64 p.a7, .int .i64 p.a8, .bool p.m, .slice d2 p.o.length p2, .slice d3 p.t.length p3, .slice d4 p.f.length p4] 35 (0, 0)) := (K10.out.bel.block w.heap.size hz1).trans HB.out.2.2
  have c10_7 : w11.cell? ⟨w.heap.size, 7, none⟩ = some (.int .i64 p.a7) := by rw [bk_cell gx10]; rfl
  go_wp2_with fail
  go_at_call 68
  refine (numC w1.heap.size _ (parA p false 10) 14 p.a7 _ K10.out.own K10.out.bel.size (by have := H0.out.2.2.2.2.2.2.1 10 (by decide); omega) (by decide) (by decide) (by have := HQ.out.2.2.2.2.2.2.2.1; omega) (by have := HQ.out.2.2.2.2.2.2.2.1; omega)).mono ?_
  rintro e w12 ⟨r12, rfl, o12, g12⟩
  have el10 : (parL p false).getD 10 [] = entB 14 (putv p.a7) := rfl
  have K11 : Hid (OutK w1 w12 r12 p false 11) := K10.out.step (by decide) (by rw [el10]; exact o12) g12
  clear gx10 c10_7 el10 o12 g12
  have gx11 : w12.heap[w.heap.size]? = some (.cells #[.int .i64 p.a0, .int .i64 p.a1, .int .i64 p.a2, .int .i64 p.a3, .int .i64 p.a4, .int .i64 p.a5, .int .i64 p.a6, .int .i64 p.a7, .int .i64 p.a8, .bool p.m, .slice d2 p.o.length p2, .slice d3 p.t.length p3, .slice d4 p.f.length p4] 35 (0, 0)) := (K11.out.bel.block w.heap.size hz1).trans HB.out.2.2
  have c11_12 : w12.cell? ⟨w.heap.size, 12, none⟩ = some (.slice d4 p.f.length p4) := by rw [bk_cell gx11]; rfl
  go_wp2_with fail
  go_at_call 67
  refine (entC w1.heap.size _ _ (parA p false 11) p.f 15 _ K11.out.own ((H0.out.2.2.2.2.2.1.below HB.out.1).below K11.out.bel) (fun hx k h h2 => by have := own_of_row H0.out.2.2.2.2.2.1 hx h; have := (K11.out.own.lt k h2).1; omega) (fun hx k h => by have := own_of_row H0.out.2.2.2.2.2.1 hx h; have := K11.out.bel.size; omega) K11.out.bel.size (by have := H0.out.2.2.2.2.2.2.1 11 (by decide); omega) (by have := H0.out.2.2.2.2.2.2.2.1.2.2; omega) (by decide) (by decide)).mono ?_
  rintro e w13 ⟨r13, rfl, o13, g13⟩
  have el11 : (parL p false).getD 11 [] = entB 15 p.f := rfl
  have K12 : Hid (OutK w1 w13 r13 p false 12) := K11.out.step (by decide) (by rw [el11]; exact o13) g13
  clear gx11 c11_12 el11 o13 g13
  have gx12 : w13.heap[w.heap.size]? = some (.cells #[.int .i64 p.a0, .int .i64 p.a1, .int .i64 p.a2, .int .i64 p.a3, .int .i64 p.a4, .int .i64 p.a5, .int .i64 p.a6, .int .i64 p.a7, .int .i64 p.a8, .bool p.m, .slice d2 p.o.length p2, .slice d3 p.t.length p3, .slice d4 p.f.length p4] 35 (0, 0)) := (K12.out.bel.block w.heap.size hz1).trans HB.out.2.2
  have c12_8 : w13.cell? ⟨w.heap.size, 8, none⟩ = some (.int .i64 p.a8) := by rw [bk_cell gx12]; rfl
  go_wp2_with fail
  go_at_call 68
  refine (numC w1.heap.size _ (parA p false 12) 32 p.a8 _ K12.out.own K12.out.bel.size (by have := H0.out.2.2.2.2.2.2.1 12 (by decide); omega) (by decide) (by decide) (by have := HQ.out.2.2.2.2.2.2.2.2; omega) (by have := HQ.out.2.2.2.2.2.2.2.2; omega)).mono ?_
  rintro e w14 ⟨r14, rfl, o14, g14⟩
  have el12 : (parL p false).getD 12 [] = entB 32 (putv p.a8) := rfl
  have K13 : Hid (OutK w1 w14 r14 p false 13) := K12.out.step (by decide) (by rw [el12]; exact o14) g14
  clear gx12 c12_8 el12 o14 g14
  go_wp2
  go_ret2
  refine ⟨_, rfl, ?_, HB.out.1.trans (K13.out.bel.mono HB.out.1.size)⟩
  have := owns_mono K13.out.own (base' := w.heap.size) HB.out.1.size
  rw [parA_13] at this
  exact this
end Go.Proofs.YteggfkekgdlecaaGreatDoor

namespace Go.Proofs.YteggfkekgdlecaaGreatDoor
open Go.RowKit
set_option linter.unusedVariables false

set_option maxRecDepth 20000 in
set_option maxHeartbeats 4000000 in
theorem pbS_100 (v : Value) (p : PP) (w : World) (hr : PPRow w v p) (hs : p.small 9223372036854775807) (hyes : pok p true = true) (ht : p.t.length = 0) (hm : p.m = false) :
    Calls Tryz.prog 48 #[v, .bool true] w fun e w' => ∃ r, e = .returned (.tuple #[r, .int .i64 0]) ∧ w'.ownsRow w.heap.size 5 1 r (parB p true).length ((parB p true).map (Value.int .u8)) ∧ Below w.heap.size w w' := by
  obtain ⟨d2, d3, d4, p2, p3, p4, rfl, r2, r3, r4⟩ := hr.parts
  obtain ⟨⟨z2, z3, z4⟩, q0, q1, q2, q3, q4, q5, q6, q7, q8⟩ := pok_parts p true hyes
  have b0 := (Below.refl w.heap.size w).alloc (Nat.le_refl _) (.cells #[.int .i64 p.a0, .int .i64 p.a1, .int .i64 p.a2, .int .i64 p.a3, .int .i64 p.a4, .int .i64 p.a5, .int .i64 p.a6, .int .i64 p.a7, .int .i64 p.a8, .bool p.m, .slice d2 p.o.length p2, .slice d3 p.t.length p3, .slice d4 p.f.length p4] 35)
  have g0 := heap_alloc_new w (.cells #[.int .i64 p.a0, .int .i64 p.a1, .int .i64 p.a2, .int .i64 p.a3, .int .i64 p.a4, .int .i64 p.a5, .int .i64 p.a6, .int .i64 p.a7, .int .i64 p.a8, .bool p.m, .slice d2 p.o.length p2, .slice d3 p.t.length p3, .slice d4 p.f.length p4] 35)
  have C := pokS _ p true _ (hr.below b0) hs
  rw [hyes] at C
  have LE := parA_le p true hyes
  have H0 : Hid _ := And.intro C (And.intro b0 (And.intro g0 (And.intro r2 (And.intro r3 (And.intro r4 (And.intro LE (And.intro (And.intro z2 (And.intro z3 z4)) (And.intro ht hm))))))))
  have HQ : Hid _ := And.intro q0 (And.intro q1 (And.intro q2 (And.intro q3 (And.intro q4 (And.intro q5 (And.intro q6 (And.intro q7 q8)))))))
  clear C b0 g0 hr hs hyes r2 r3 r4 LE z2 z3 z4 q0 q1 q2 q3 q4 q5 q6 q7 q8 ht hm
  go_enter Tryz.func48, Tryz.ntmps48
  go_wp2_with fail
  go_at_call 44
  refine H0.out.1.mono ?_
  rintro e w1 ⟨rfl, b1⟩
  have o0 : (w1.alloc (.cells #[] 5)).ownsRow w1.heap.size 5 1 (.slice (some ⟨w1.heap.size, 0, none⟩) 0 0) (parA p true 0).length ((parA p true 0).map (Value.int .u8)) := World.ownsRow_lit _ #[] 0 (Nat.le_refl _) (by decide) rfl
  have K0 : Hid (OutK w1 (w1.alloc (.cells #[] 5)) (.slice (some ⟨w1.heap.size, 0, none⟩) 0 0) p true 0) := ⟨o0, (Below.refl _ _).alloc (Nat.le_refl _) _⟩
  have HB : Hid _ := And.intro (H0.out.2.1.trans (b1.mono H0.out.2.1.size)) (And.intro b1 ((b1.block w.heap.size (by simp)).trans H0.out.2.2.1))
  have hz1 : w.heap.size < w1.heap.size := by have := b1.size; simp at this; omega
  clear b1 o0
  have gx0 : (w1.alloc (.cells #[] 5)).heap[w.heap.size]? = some (.cells #[.int .i64 p.a0, .int .i64 p.a1, .int .i64 p.a2, .int .i64 p.a3, .int .i64 p.a4, .int .i64 p.a5, .int .i64 p.a6, .int .i64 p.a7, .int .i64 p.a8, .bool p.m, .slice d2 p.o.length p2, .slice d3 p.t.length p3, .slice d4 p.f.length p4] 35 (0, 0)) := (K0.out.bel.block w.heap.size hz1).trans HB.out.2.2
  have c0_10 : (w1.alloc (.cells #[] 5)).cell? ⟨w.heap.size, 10, none⟩ = some (.slice d2 p.o.length p2) := by rw [bk_cell gx0]; rfl
  go_wp2_with fail
  go_at_call 67
  refine (entC w1.heap.size _ _ (parA p true 0) p.o 0 _ K0.out.own ((H0.out.2.2.2.1.below HB.out.1).below K0.out.bel) (fun hx k h h2 => by have := own_of_row H0.out.2.2.2.1 hx h; have := (K0.out.own.lt k h2).1; omega) (fun hx k h => by have := own_of_row H0.out.2.2.2.1 hx h; have := K0.out.bel.size; omega) K0.out.bel.size (by have := H0.out.2.2.2.2.2.2.1 0 (by decide); omega) (by have := H0.out.2.2.2.2.2.2.2.1.1; omega) (by decide) (by decide)).mono ?_
  rintro e w2 ⟨r2, rfl, o2, g2⟩
  have el0 : (parL p true).getD 0 [] = entB 0 p.o := by show (if true = true then entB 0 p.o else []) = _; rw [if_pos rfl]
  have K1 : Hid (OutK w1 w2 r2 p true 1) := K0.out.step (by decide) (by rw [el0]; exact o2) g2
  clear gx0 c0_10 el0 o2 g2
  have gx1 : w2.heap[w.heap.size]? = some (.cells #[.int .i64 p.a0, .int .i64 p.a1, .int .i64 p.a2, .int .i64 p.a3, .int .i64 p.a4, .int .i64 p.a5, .int .i64 p.a6, .int .i64 p.a7, .int .i64 p.a8, .bool p.m, .slice d2 p.o.length p2, .slice d3 p.t.length p3, .slice d4 p.f.length p4] 35 (0, 0)) := (K1.out.bel.block w.heap.size hz1).trans HB.out.2.2
  have c1_0 : w2.cell? ⟨w.heap.size, 0, none⟩ = some (.int .i64 p.a0) := by rw [bk_cell gx1]; rfl
  have c1_11 : w2.cell? ⟨w.heap.size, 11, none⟩ = some (.slice d3 p.t.length p3) := by rw [bk_cell gx1]; rfl
  go_wp2_with fail
  go_at_call 68
  refine (numC w1.heap.size _ (parA p true 1) 1 p.a0 _ K1.out.own K1.out.bel.size (by have := H0.out.2.2.2.2.2.2.1 1 (by decide); omega) (by decide) (by decide) (by have := HQ.out.1; omega) (by have := HQ.out.1; omega)).mono ?_
  rintro e w3 ⟨r3, rfl, o3, g3⟩
  have el1 : (parL p true).getD 1 [] = entB 1 (putv p.a0) := rfl
  have K2 : Hid (OutK w1 w3 r3 p true 2) := K1.out.step (by decide) (by rw [el1]; exact o3) g3
  clear gx1 c1_0 c1_11 el1 o3 g3
  have hd : decide (0 < p.t.length) = false := decide_eq_false (by have := H0.out.2.2.2.2.2.2.2.2.1; omega)
  have hd2 : ¬ (0 < p.t.length) := by have := H0.out.2.2.2.2.2.2.2.2.1; omega
  have gy1 : w3.heap[w.heap.size]? = some (.cells #[.int .i64 p.a0, .int .i64 p.a1, .int .i64 p.a2, .int .i64 p.a3, .int .i64 p.a4, .int .i64 p.a5, .int .i64 p.a6, .int .i64 p.a7, .int .i64 p.a8, .bool p.m, .slice d2 p.o.length p2, .slice d3 p.t.length p3, .slice d4 p.f.length p4] 35 (0, 0)) := (K2.out.bel.block w.heap.size hz1).trans HB.out.2.2
  have cy1 : w3.cell? ⟨w.heap.size, 11, none⟩ = some (.slice d3 p.t.length p3) := by rw [bk_cell gy1]; rfl
  clear gy1
  have K3 : Hid (OutK w1 w3 r3 p true 3) := K2.out.skip (by decide) (by show (if 0 < p.t.length then entB 2 p.t else []) = []; rw [if_neg (by have := H0.out.2.2.2.2.2.2.2.2.1; omega)])
  have gx3 : w3.heap[w.heap.size]? = some (.cells #[.int .i64 p.a0, .int .i64 p.a1, .int .i64 p.a2, .int .i64 p.a3, .int .i64 p.a4, .int .i64 p.a5, .int .i64 p.a6, .int .i64 p.a7, .int .i64 p.a8, .bool p.m, .slice d2 p.o.length p2, .slice d3 p.t.length p3, .slice d4 p.f.length p4] 35 (0, 0)) := (K3.out.bel.block w.heap.size hz1).trans HB.out.2.2
  have c3_1 : w3.cell? ⟨w.heap.size, 1, none⟩ = some (.int .i64 p.a1) := by rw [bk_cell gx3]; rfl
  go_wp2_with fail
  go_at_call 68
  refine (numC w1.heap.size _ (parA p true 3) 3 p.a1 _ K3.out.own K3.out.bel.size (by have := H0.out.2.2.2.2.2.2.1 3 (by decide); omega) (by decide) (by decide) (by have := HQ.out.2.1; omega) (by have := HQ.out.2.1; omega)).mono ?_
  rintro e w5 ⟨r5, rfl, o5, g5⟩
  have el3 : (parL p true).getD 3 [] = entB 3 (putv p.a1) := rfl
  have K4 : Hid (OutK w1 w5 r5 p true 4) := K3.out.step (by decide) (by rw [el3]; exact o5) g5
  clear gx3 c3_1 el3 o5 g5
  clear hd hd2
  have gx4 : w5.heap[w.heap.size]? = some (.cells #[.int .i64 p.a0, .int .i64 p.a1, .int .i64 p.a2, .int .i64 p.a3, .int .i64 p.a4, .int .i64 p.a5, .int .i64 p.a6, .int .i64 p.a7, .int .i64 p.a8, .bool p.m, .slice d2 p.o.length p2, .slice d3 p.t.length p3, .slice d4 p.f.length p4] 35 (0, 0)) := (K4.out.bel.block w.heap.size hz1).trans HB.out.2.2
  have c4_2 : w5.cell? ⟨w.heap.size, 2, none⟩ = some (.int .i64 p.a2) := by rw [bk_cell gx4]; rfl
  go_wp2_with fail
  go_at_call 68
  refine (numC w1.heap.size _ (parA p true 4) 4 p.a2 _ K4.out.own K4.out.bel.size (by have := H0.out.2.2.2.2.2.2.1 4 (by decide); omega) (by decide) (by decide) (by have := HQ.out.2.2.1; omega) (by have := HQ.out.2.2.1; omega)).mono ?_
  rintro e w6 ⟨r6, rfl, o6, g6⟩
  have el4 : (parL p true).getD 4 [] = entB 4 (putv p.a2) := rfl
  have K5 : Hid (OutK w1 w6 r6 p true 5) := K4.out.step (by decide) (by rw [el4]; exact o6) g6
  clear gx4 c4_2 el4 o6 g6
  have gx5 : w6.heap[w.heap.size]? = some (.cells #[.int .i64 p.a0, .int .i64 p.a1, .int .i64 p.a2, .int .i64 p.a3, .int .i64 p.a4, .int .i64 p.a5, .int .i64 p.a6, .int .i64 p.a7, .int .i64 p.a8, .bool p.m, .slice d2 p.o.length p2, .slice d3 p.t.length p3, .slice d4 p.f.length p4] 35 (0, 0)) := (K5.out.bel.block w.heap.size hz1).trans HB.out.2.2
  have c5_3 : w6.cell? ⟨w.heap.size, 3, none⟩ = some (.int .i64 p.a3) := by rw [bk_cell gx5]; rfl
  go_wp2_with fail
  go_at_call 68
  refine (numC w1.heap.size _ (parA p true 5) 5 p.a3 _ K5.out.own K5.out.bel.size (by have := H0.out.2.2.2.2.2.2.1 5 (by decide); omega) (by decide) (by decide) (by have := HQ.out.2.2.2.1; omega) (by have := HQ.out.2.2.2.1; omega)).mono ?_
  rintro e w7 ⟨r7, rfl, o7, g7⟩
  have el5 : (parL p true).getD 5 [] = entB 5 (putv p.a3) := rfl
  have K6 : Hid (OutK w1 w7 r7 p true 6) := K5.out.step (by decide) (by rw [el5]; exact o7) g7
  clear gx5 c5_3 el5 o7 g7
  have gx6 : w7.heap[w.heap.size]? = some (.cells #[.int .i64 p.a0, .int .i64 p.a1, .int .i64 p.a2, .int .i64 p.a3, .int .i64 p.a4, .int .i64 p.a5, .int .i64 p.a6, .int .i64 p.a7, .int .i64 p.a8, .bool p.m, .slice d2 p.o.length p2, .slice d3 p.t.length p3, .slice d4 p.f.length p4] 35 (0, 0)) := (K6.out.bel.block w.heap.size hz1).trans HB.out.2.2
  have c6_4 : w7.cell? ⟨w.heap.size, 4, none⟩ = some (.int .i64 p.a4) := by rw [bk_cell gx6]; rfl
  go_wp2_with fail
  go_at_call 68
  refine (numC w1.heap.size _ (parA p true 6) 8 p.a4 _ K6.out.own K6.out.bel.size (by have := H0.out.2.2.2.2.2.2.1 6 (by decide); omega) (by decide) (by decide) (by have := HQ.out.2.2.2.2.1; omega) (by have := HQ.out.2.2.2.2.1; omega)).mono ?_
  rintro e w8 ⟨r8, rfl, o8, g8⟩
  have el6 : (parL p true).getD 6 [] = entB 8 (putv p.a4) := rfl
  have K7 : Hid (OutK w1 w8 r8 p true 7) := K6.out.step (by decide) (by rw [el6]; exact o8) g8
  clear gx6 c6_4 el6 o8 g8
  have gx7 : w8.heap[w.heap.size]? = some (.cells #[.int .i64 p.a0, .int .i64 p.a1, .int .i64 p.a2, .int .i64 p.a3, .int .i64 p.a4, .int .i64 p.a5, .int .i64 p.a6, .int .i64 p.a7, .int .i64 p.a8, .bool p.m, .slice d2 p.o.length p2, .slice d3 p.t.length p3, .slice d4 p.f.length p4] 35 (0, 0)) := (K7.out.bel.block w.heap.size hz1).trans HB.out.2.2
  have c7_5 : w8.cell? ⟨w.heap.size, 5, none⟩ = some (.int .i64 p.a5) := by rw [bk_cell gx7]; rfl
  go_wp2_with fail
  go_at_call 68
  refine (numC w1.heap.size _ (parA p true 7) 9 p.a5 _ K7.out.own K7.out.bel.size (by have := H0.out.2.2.2.2.2.2.1 7 (by decide); omega) (by decide) (by decide) (by have := HQ.out.2.2.2.2.2.1; omega) (by have := HQ.out.2.2.2.2.2.1; omega)).mono ?_
  rintro e w9 ⟨r9, rfl, o9, g9⟩
  have el7 : (parL p true).getD 7 [] = entB 9 (putv p.a5) := rfl
  have K8 : Hid (OutK w1 w9 r9 p true 8) := K7.out.step (by decide) (by rw [el7]; exact o9) g9
  clear gx7 c7_5 el7 o9 g9
  have gx8 : w9.heap[w.heap.size]? = some (.cells #[.int .i64 p.a0, .int .i64 p.a1, .int .i64 p.a2, .int .i64 p.a3, .int .i64 p.a4, .int .i64 p.a5, .int .i64 p.a6, .int .i64 p.a7, .int .i64 p.a8, .bool p.m, .slice d2 p.o.length p2, .slice d3 p.t.length p3, .slice d4 p.f.length p4] 35 (0, 0)) := (K8.out.bel.block w.heap.size hz1).trans HB.out.2.2
  have c8_6 : w9.cell? ⟨w.heap.size, 6, none⟩ = some (.int .i64 p.a6) := by rw [bk_cell gx8]; rfl
  have c8_9 : w9.cell? ⟨w.heap.size, 9, none⟩ = some (.bool p.m) := by rw [bk_cell gx8]; rfl
  go_wp2_with fail
  go_at_call 68
  refine (numC w1.heap.size _ (parA p true 8) 11 p.a6 _ K8.out.own K8.out.bel.size (by have := H0.out.2.2.2.2.2.2.1 8 (by decide); omega) (by decide) (by decide) (by have := HQ.out.2.2.2.2.2.2.1; omega) (by have := HQ.out.2.2.2.2.2.2.1; omega)).mono ?_
  rintro e w10 ⟨r10, rfl, o10, g10⟩
  have el8 : (parL p true).getD 8 [] = entB 11 (putv p.a6) := rfl
  have K9 : Hid (OutK w1 w10 r10 p true 9) := K8.out.step (by decide) (by rw [el8]; exact o10) g10
  clear gx8 c8_6 c8_9 el8 o10 g10
  have gy8 : w10.heap[w.heap.size]? = some (.cells #[.int .i64 p.a0, .int .i64 p.a1, .int .i64 p.a2, .int .i64 p.a3, .int .i64 p.a4, .int .i64 p.a5, .int .i64 p.a6, .int .i64 p.a7, .int .i64 p.a8, .bool p.m, .slice d2 p.o.length p2, .slice d3 p.t.length p3, .slice d4 p.f.length p4] 35 (0, 0)) := (K9.out.bel.block w.heap.size hz1).trans HB.out.2.2
  have cy8 : w10.cell? ⟨w.heap.size, 9, none⟩ = some (.bool false) := by rw [bk_cell gy8]; show some (Value.bool p.m) = _; rw [H0.out.2.2.2.2.2.2.2.2.2]
  clear gy8
  have K10 : Hid (OutK w1 w10 r10 p true 10) := K9.out.skip (by decide) (by show (if p.m = true then entB 12 [] else []) = []; rw [if_neg (by rw [H0.out.2.2.2.2.2.2.2.2.2]; decide)])
  have gx10 : w10.heap[w.heap.size]? = some (.cells #[.int .i64 p.a0, .int .i64 p.a1, .int .i64 p.a2, .int .i64 p.a3, .int .i64 p.a4, .int .i64 p.a5, .int .i64 p.a6, .int .i64 p.a7, .int .i64 p.a8, .bool p.m, .slice d2 p.o.length p2, .slice d3 p.t.length p3, .slice d4 p.f.length p4] 35 (0, 0)) := (K10.out.bel.block w.heap.size hz1).trans HB.out.2.2
  have c10_7 : w10.cell? ⟨w.heap.size, 7, none⟩ = some (.int .i64 p.a7) := by rw [bk_cell gx10]; rfl
  go_wp2_with fail
  go_at_call 68
  refine (numC w1.heap.size _ (parA p true 10) 14 p.a7 _ K10.out.own K10.out.bel.size (by have := H0.out.2.2.2.2.2.2.1 10 (by decide); omega) (by decide) (by decide) (by have := HQ.out.2.2.2.2.2.2.2.1; omega) (by have := HQ.out.2.2.2.2.2.2.2.1; omega)).mono ?_
  rintro e w12 ⟨r12, rfl, o12, g12⟩
  have el10 : (parL p true).getD 10 [] = entB 14 (putv p.a7) := rfl
  have K11 : Hid (OutK w1 w12 r12 p true 11) := K10.out.step (by decide) (by rw [el10]; exact o12) g12
  clear gx10 c10_7 el10 o12 g12
  have gx11 : w12.heap[w.heap.size]? = some (.cells #[.int .i64 p.a0, .int .i64 p.a1, .int .i64 p.a2, .int .i64 p.a3, .int .i64 p.a4, .int .i64 p.a5, .int .i64 p.a6, .int .i64 p.a7, .int .i64 p.a8, .bool p.m, .slice d2 p.o.length p2, .slice d3 p.t.length p3, .slice d4 p.f.length p4] 35 (0, 0)) := (K11.out.bel.block w.heap.size hz1).trans HB.out.2.2
  have c11_12 : w12.cell? ⟨w.heap.size, 12, none⟩ = some (.slice d4 p.f.length p4) := by rw [bk_cell gx11]; rfl
  go_wp2_with fail
  go_at_call 67
  refine (entC w1.heap.size _ _ (parA p true 11) p.f 15 _ K11.out.own ((H0.out.2.2.2.2.2.1.below HB.out.1).below K11.out.bel) (fun hx k h h2 => by have := own_of_row H0.out.2.2.2.2.2.1 hx h; have := (K11.out.own.lt k h2).1; omega) (fun hx k h => by have := own_of_row H0.out.2.2.2.2.2.1 hx h; have := K11.out.bel.size; omega) K11.out.bel.size (by have := H0.out.2.2.2.2.2.2.1 11 (by decide); omega) (by have := H0.out.2.2.2.2.2.2.2.1.2.2; omega) (by decide) (by decide)).mono ?_
  rintro e w13 ⟨r13, rfl, o13, g13⟩
  have el11 : (parL p true).getD 11 [] = entB 15 p.f := rfl
  have K12 : Hid (OutK w1 w13 r13 p true 12) := K11.out.step (by decide) (by rw [el11]; exact o13) g13
  clear gx11 c11_12 el11 o13 g13
  have gx12 : w13.heap[w.heap.size]? = some (.cells #[.int .i64 p.a0, .int .i64 p.a1, .int .i64 p.a2, .int .i64 p.a3, .int .i64 p.a4, .int .i64 p.a5, .int .i64 p.a6, .int .i64 p.a7, .int .i64 p.a8, .bool p.m, .slice d2 p.o.length p2, .slice d3 p.t.length p3, .slice d4 p.f.length p4] 35 (0, 0)) := (K12.out.bel.block w.heap.size hz1).trans HB.out.2.2
  have c12_8 : w13.cell? ⟨w.heap.size, 8, none⟩ = some (.int .i64 p.a8) := by rw [bk_cell gx12]; rfl
  go_wp2_with fail
  go_at_call 68
  refine (numC w1.heap.size _ (parA p true 12) 32 p.a8 _ K12.out.own K12.out.bel.size (by have := H0.out.2.2.2.2.2.2.1 12 (by decide); omega) (by decide) (by decide) (by have := HQ.out.2.2.2.2.2.2.2.2; omega) (by have := HQ.out.2.2.2.2.2.2.2.2; omega)).mono ?_
  rintro e w14 ⟨r14, rfl, o14, g14⟩
  have el12 : (parL p true).getD 12 [] = entB 32 (putv p.a8) := rfl
  have K13 : Hid (OutK w1 w14 r14 p true 13) := K12.out.step (by decide) (by rw [el12]; exact o14) g14
  clear gx12 c12_8 el12 o14 g14
  go_wp2
  go_ret2
  refine ⟨_, rfl, ?_, HB.out.1.trans (K13.out.bel.mono HB.out.1.size)⟩
  have := owns_mono K13.out.own (base' := w.heap.size) HB.out.1.size
  rw [parA_13] at this
  exact this
end Go.Proofs.YteggfkekgdlecaaGreatDoor

namespace Go.Proofs.YteggfkekgdlecaaGreatDoor
open Go.RowKit
set_option linter.unusedVariables false

set_option maxRecDepth 20000 in
set_option maxHeartbeats 4000000 in
theorem pbS_101 (v : Value) (p : PP) (w : World) (hr : PPRow w v p) (hs : p.small 9223372036854775807) (hyes : pok p true = true) (ht : p.t.length = 0) (hm : p.m = true) :
    Calls Tryz.prog 48 #[v, .bool true] w fun e w' => ∃ r, e = .returned (.tuple #[r, .int .i64 0]) ∧ w'.ownsRow w.heap.size 5 1 r (parB p true).length ((parB p true).map (Value.int .u8)) ∧ Below w.heap.size w w' := by
  obtain ⟨d2, d3, d4, p2, p3, p4, rfl, r2, r3, r4⟩ := hr.parts
  obtain ⟨⟨z2, z3, z4⟩, q0, q1, q2, q3, q4, q5, q6, q7, q8⟩ := pok_parts p true hyes
  have b0 := (Below.refl w.heap.size w).alloc (Nat.le_refl _) (.cells #[.int .i64 p.a0, .int .i64 p.a1, .int .i64 p.a2, .int .i64 p.a3, .int .i64 p.a4, .int .i64 p.a5, .int .i64 p.a6, .int .i64 p.a7, .int .i64 p.a8, .bool p.m, .slice d2 p.o.length p2, .slice d3 p.t.length p3, .slice d4 p.f.length p4] 35)
  have g0 := heap_alloc_new w (.cells #[.int .i64 p.a0, .int .i64 p.a1, .int .i64 p.a2, .int .i64 p.a3, .int .i64 p.a4, .int .i64 p.a5, .int .i64 p.a6, .int .i64 p.a7, .int .i64 p.a8, .bool p.m, .slice d2 p.o.length p2, .slice d3 p.t.length p3, .slice d4 p.f.length p4] 35)
  have C := pokS _ p true _ (hr.below b0) hs
  rw [hyes] at C
  have LE := parA_le p true hyes
  have H0 : Hid _ := And.intro C (And.intro b0 (And.intro g0 (And.intro r2 (And.intro r3 (And.intro r4 (And.intro LE (And.intro (And.intro z2 (And.intro z3 z4)) (And.intro ht hm))))))))
  have HQ : Hid _ := And.intro q0 (And.intro q1 (And.intro q2 (And.intro q3 (And.intro q4 (And.intro q5 (And.intro q6 (And.intro q7 q8)))))))
  clear C b0 g0 hr hs hyes r2 r3 r4 LE z2 z3 z4 q0 q1 q2 q3 q4 q5 q6 q7 q8 ht hm
  go_enter Tryz.func48, Tryz.ntmps48
  go_wp2_with fail
  go_at_call 44
  refine H0.out.1.mono ?_
  rintro e w1 ⟨rfl, b1⟩
  have o0 : (w1.alloc (.cells #[] 5)).ownsRow w1.heap.size 5 1 (.slice (some ⟨w1.heap.size, 0, none⟩) 0 0) (parA p true 0).length ((parA p true 0).map (Value.int .u8)) := World.ownsRow_lit _ #[] 0 (Nat.le_refl _) (by decide) rfl
  have K0 : Hid (OutK w1 (w1.alloc (.cells #[] 5)) (.slice (some ⟨w1.heap.size, 0, none⟩) 0 0) p true 0) := ⟨o0, (Below.refl _ _).alloc (Nat.le_refl _) _⟩
  have HB : Hid _ := And.intro (H0.out.2.1.trans (b1.mono H0.out.2.1.size)) (And.intro b1 ((b1.block w.heap.size (by simp)).trans H0.out.2.2.1))
  have hz1 : w.heap.size < w1.heap.size := by have := b1.size; simp at this; omega
  clear b1 o0
  have gx0 : (w1.alloc (.cells #[] 5)).heap[w.heap.size]? = some (.cells #[.int .i64 p.a0, .int .i64 p.a1, .int .i64 p.a2, .int .i64 p.a3, .int .i64 p.a4, .int .i64 p.a5, .int .i64 p.a6, .int .i64 p.a7, .int .i64 p.a8, .bool p.m, .slice d2 p.o.length p2, .slice d3 p.t.length p3, .slice d4 p.f.length p4] 35 (0, 0)) := (K0.out.bel.block w.heap.size hz1).trans HB.out.2.2
  have c0_10 : (w1.alloc (.cells #[] 5)).cell? ⟨w.heap.size, 10, none⟩ = some (.slice d2 p.o.length p2) := by rw [bk_cell gx0]; rfl
  go_wp2_with fail
  go_at_call 67
  refine (entC w1.heap.size _ _ (parA p true 0) p.o 0 _ K0.out.own ((H0.out.2.2.2.1.below HB.out.1).below K0.out.bel) (fun hx k h h2 => by have := own_of_row H0.out.2.2.2.1 hx h; have := (K0.out.own.lt k h2).1; omega) (fun hx k h => by have := own_of_row H0.out.2.2.2.1 hx h; have := K0.out.bel.size; omega) K0.out.bel.size (by have := H0.out.2.2.2.2.2.2.1 0 (by decide); omega) (by have := H0.out.2.2.2.2.2.2.2.1.1; omega) (by decide) (by decide)).mono ?_
  rintro e w2 ⟨r2, rfl, o2, g2⟩
  have el0 : (parL p true).getD 0 [] = entB 0 p.o := by show (if true = true then entB 0 p.o else []) = _; rw [if_pos rfl]
  have K1 : Hid (OutK w1 w2 r2 p true 1) := K0.out.step (by decide) (by rw [el0]; exact o2) g2
  clear gx0 c0_10 el0 o2 g2
  have gx1 : w2.heap[w.heap.size]? = some (.cells #[.int .i64 p.a0, .int .i64 p.a1, .int .i64 p.a2, .int .i64 p.a3, .int .i64 p.a4, .int .i64 p.a5, .int .i64 p.a6, .int .i64 p.a7, .int .i64 p.a8, .bool p.m, .slice d2 p.o.length p2, .slice d3 p.t.length p3, .slice d4 p.f.length p4] 35 (0, 0)) := (K1.out.bel.block w.heap.size hz1).trans HB.out.2.2
  have c1_0 : w2.cell? ⟨w.heap.size, 0, none⟩ = some (.int .i64 p.a0) := by rw [bk_cell gx1]; rfl
  have c1_11 : w2.cell? ⟨w.heap.size, 11, none⟩ = some (.slice d3 p.t.length p3) := by rw [bk_cell gx1]; rfl
  go_wp2_with fail
  go_at_call 68
  refine (numC w1.heap.size _ (parA p true 1) 1 p.a0 _ K1.out.own K1.out.bel.size (by have := H0.out.2.2.2.2.2.2.1 1 (by decide); omega) (by decide) (by decide) (by have := HQ.out.1; omega) (by have := HQ.out.1; omega)).mono ?_
  rintro e w3 ⟨r3, rfl, o3, g3⟩
  have el1 : (parL p true).getD 1 [] = entB 1 (putv p.a0) := rfl
  have K2 : Hid (OutK w1 w3 r3 p true 2) := K1.out.step (by decide) (by rw [el1]; exact o3) g3
  clear gx1 c1_0 c1_11 el1 o3 g3
  have hd : decide (0 < p.t.length) = false := decide_eq_false (by have := H0.out.2.2.2.2.2.2.2.2.1; omega)
  have hd2 : ¬ (0 < p.t.length) := by have := H0.out.2.2.2.2.2.2.2.2.1; omega
  have gy1 : w3.heap[w.heap.size]? = some (.cells #[.int .i64 p.a0, .int .i64 p.a1, .int .i64 p.a2, .int .i64 p.a3, .int .i64 p.a4, .int .i64 p.a5, .int .i64 p.a6, .int .i64 p.a7, .int .i64 p.a8, .bool p.m, .slice d2 p.o.length p2, .slice d3 p.t.length p3, .slice d4 p.f.length p4] 35 (0, 0)) := (K2.out.bel.block w.heap.size hz1).trans HB.out.2.2
  have cy1 : w3.cell? ⟨w.heap.size, 11, none⟩ = some (.slice d3 p.t.length p3) := by rw [bk_cell gy1]; rfl
  clear gy1
  have K3 : Hid (OutK w1 w3 r3 p true 3) := K2.out.skip (by decide) (by show (if 0 < p.t.length then entB 2 p.t else []) = []; rw [if_neg (by have := H0.out.2.2.2.2.2.2.2.2.1; omega)])
  have gx3 : w3.heap[w.heap.size]? = some (.cells #[.int .i64 p.a0, .int .i64 p.a1, .int .i64 p.a2, .int .i64 p.a3, .int .i64 p.a4, .int .i64 p.a5, .int .i64 p.a6, .int .i64 p.a7, .int .i64 p.a8, .bool p.m, .slice d2 p.o.length p2, .slice d3 p.t.length p3, .slice d4 p.f.length p4] 35 (0, 0)) := (K3.out.bel.block w.heap.size hz1).trans HB.out.2.2
  have c3_1 : w3.cell? ⟨w.heap.size, 1, none⟩ = some (.int .i64 p.a1) := by rw [bk_cell gx3]; rfl
  go_wp2_with fail
  go_at_call 68
  refine (numC w1.heap.size _ (parA p true 3) 3 p.a1 _ K3.out.own K3.out.bel.size (by have := H0.out.2.2.2.2.2.2.1 3 (by decide); omega) (by decide) (by decide) (by have := HQ.out.2.1; omega) (by have := HQ.out.2.1; omega)).mono ?_
  rintro e w5 ⟨r5, rfl, o5, g5⟩
  have el3 : (parL p true).getD 3 [] = entB 3 (putv p.a1) := rfl
  have K4 : Hid (OutK w1 w5 r5 p true 4) := K3.out.step (by decide) (by rw [el3]; exact o5) g5
  clear gx3 c3_1 el3 o5 g5
  clear hd hd2
  have gx4 : w5.heap[w.heap.size]? = some (.cells #[.int .i64 p.a0, .int .i64 p.a1, .int .i64 p.a2, .int .i64 p.a3, .int .i64 p.a4, .int .i64 p.a5, .int .i64 p.a6, .int .i64 p.a7, .int .i64 p.a8, .bool p.m, .slice d2 p.o.length p2, .slice d3 p.t.length p3, .slice d4 p.f.length p4] 35 (0, 0)) := (K4.out.bel.block w.heap.size hz1).trans HB.out.2.2
  have c4_2 : w5.cell? ⟨w.heap.size, 2, none⟩ = some (.int .i64 p.a2) := by rw [bk_cell gx4]; rfl
  go_wp2_with fail
  go_at_call 68
  refine (numC w1.heap.size _ (parA p true 4) 4 p.a2 _ K4.out.own K4.out.bel.size (by have := H0.out.2.2.2.2.2.2.1 4 (by decide); omega) (by decide) (by decide) (by have := HQ.out.2.2.1; omega) (by have := HQ.out.2.2.1; omega)).mono ?_
  rintro e w6 ⟨r6, rfl, o6, g6⟩
  have el4 : (parL p true).getD 4 [] = entB 4 (putv p.a2) := rfl
  have K5 : Hid (OutK w1 w6 r6 p true 5) := K4.out.step (by decide) (by rw [el4]; exact o6) g6
  clear gx4 c4_2 el4 o6 g6
  have gx5 : w6.heap[w.heap.size]? = some (.cells #[.int .i64 p.a0, .int .i64 p.a1, .int .i64 p.a2, .int .i64 p.a3, .int .i64 p.a4, .int .i64 p.a5, .int .i64 p.a6, .int .i64 p.a7, .int .i64 p.a8, .bool p.m, .slice d2 p.o.length p2, .slice d3 p.t.length p3, .slice d4 p.f.length p4] 35 (0, 0)) := (K5.out.bel.block w.heap.size hz1).trans HB.out.2.2
  have c5_3 : w6.cell? ⟨w.heap.size, 3, none⟩ = some (.int .i64 p.a3) := by rw [bk_cell gx5]; rfl
  go_wp2_with fail
  go_at_call 68
  refine (numC w1.heap.size _ (parA p true 5) 5 p.a3 _ K5.out.own K5.out.bel.size (by have := H0.out.2.2.2.2.2.2.1 5 (by decide); omega) (by decide) (by decide) (by have := HQ.out.2.2.2.1; omega) (by have := HQ.out.2.2.2.1; omega)).mono ?_
  rintro e w7 ⟨r7, rfl, o7, g7⟩
  have el5 : (parL p true).getD 5 [] = entB 5 (putv p.a3) := rfl
  have K6 : Hid (OutK w1 w7 r7 p true 6) := K5.out.step (by decide) (by rw [el5]; exact o7) g7
  clear gx5 c5_3 el5 o7 g7
  have gx6 : w7.heap[w.heap.size]? = some (.cells #[.int .i64 p.a0, .int .i64 p.a1, .int .i64 p.a2, .int .i64 p.a3, .int .i64 p.a4, .int .i64 p.a5, .int .i64 p.a6, .int .i64 p.a7, .int .i64 p.a8, .bool p.m, .slice d2 p.o.length p2, .slice d3 p.t.length p3, .slice d4 p.f.length p4] 35 (0, 0)) := (K6.out.bel.block w.heap.size hz1).trans HB.out.2.2
  have c6_4 : w7.cell? ⟨w.heap.size, 4, none⟩ = some (.int .i64 p.a4) := by rw [bk_cell gx6]; rfl
  go_wp2_with fail
  go_at_call 68
  refine (numC w1.heap.size _ (parA p true 6) 8 p.a4 _ K6.out.own K6.out.bel.size (by have := H0.out.2.2.2.2.2.2.1 6 (by decide); omega) (by decide) (by decide) (by have := HQ.out.2.2.2.2.1; omega) (by have := HQ.out.2.2.2.2.1; omega)).mono ?_
  rintro e w8 ⟨r8, rfl, o8, g8⟩
  have el6 : (parL p true).getD 6 [] = entB 8 (putv p.a4) := rfl
  have K7 : Hid (OutK w1 w8 r8 p true 7) := K6.out.step (by decide) (by rw [el6]; exact o8) g8
  clear gx6 c6_4 el6 o8 g8
  have gx7 : w8.heap[w.heap.size]? = some (.cells #[.int .i64 p.a0, .int .i64 p.a1, .int .i64 p.a2, .int .i64 p.a3, .int .i64 p.a4, .int .i64 p.a5, .int .i64 p.a6, .int .i64 p.a7, .int .i64 p.a8, .bool p.m, .slice d2 p.o.length p2, .slice d3 p.t.length p3, .slice d4 p.f.length p4] 35 (0, 0)) := (K7.out.bel.block w.heap.size hz1).trans HB.out.2.2
  have c7_5 : w8.cell? ⟨w.heap.size, 5, none⟩ = some (.int .i64 p.a5) := by rw [bk_cell gx7]; rfl
  go_wp2_with fail
  go_at_call 68
  refine (numC w1.heap.size _ (parA p true 7) 9 p.a5 _ K7.out.own K7.out.bel.size (by have := H0.out.2.2.2.2.2.2.1 7 (by decide); omega) (by decide) (by decide) (by have := HQ.out.2.2.2.2.2.1; omega) (by have := HQ.out.2.2.2.2.2.1; omega)).mono ?_
  rintro e w9 ⟨r9, rfl, o9, g9⟩
  have el7 : (parL p true).getD 7 [] = entB 9 (putv p.a5) := rfl
  have K8 : Hid (OutK w1 w9 r9 p true 8) := K7.out.step (by decide) (by rw [el7]; exact o9) g9
  clear gx7 c7_5 el7 o9 g9
  have gx8 : w9.heap[w.heap.size]? = some (.cells #[.int .i64 p.a0, .int .i64 p.a1, .int .i64 p.a2, .int .i64 p.a3, .int .i64 p.a4, .int .i64 p.a5, .int .i64 p.a6, .int .i64 p.a7, .int .i64 p.a8, .bool p.m, .slice d2 p.o.length p2, .slice d3 p.t.length p3, .slice d4 p.f.length p4] 35 (0, 0)) := (K8.out.bel.block w.heap.size hz1).trans HB.out.2.2
  have c8_6 : w9.cell? ⟨w.heap.size, 6, none⟩ = some (.int .i64 p.a6) := by rw [bk_cell gx8]; rfl
  have c8_9 : w9.cell? ⟨w.heap.size, 9, none⟩ = some (.bool p.m) := by rw [bk_cell gx8]; rfl
  go_wp2_with fail
  go_at_call 68
  refine (numC w1.heap.size _ (parA p true 8) 11 p.a6 _ K8.out.own K8.out.bel.size (by have := H0.out.2.2.2.2.2.2.1 8 (by decide); omega) (by decide) (by decide) (by have := HQ.out.2.2.2.2.2.2.1; omega) (by have := HQ.out.2.2.2.2.2.2.1; omega)).mono ?_
  rintro e w10 ⟨r10, rfl, o10, g10⟩
  have el8 : (parL p true).getD 8 [] = entB 11 (putv p.a6) := rfl
  have K9 : Hid (OutK w1 w10 r10 p true 9) := K8.out.step (by decide) (by rw [el8]; exact o10) g10
  clear gx8 c8_6 c8_9 el8 o10 g10
  have gy8 : w10.heap[w.heap.size]? = some (.cells #[.int .i64 p.a0, .int .i64 p.a1, .int .i64 p.a2, .int .i64 p.a3, .int .i64 p.a4, .int .i64 p.a5, .int .i64 p.a6, .int .i64 p.a7, .int .i64 p.a8, .bool p.m, .slice d2 p.o.length p2, .slice d3 p.t.length p3, .slice d4 p.f.length p4] 35 (0, 0)) := (K9.out.bel.block w.heap.size hz1).trans HB.out.2.2
  have cy8 : w10.cell? ⟨w.heap.size, 9, none⟩ = some (.bool true) := by rw [bk_cell gy8]; show some (Value.bool p.m) = _; rw [H0.out.2.2.2.2.2.2.2.2.2]
  clear gy8
  have gx9 : w10.heap[w.heap.size]? = some (.cells #[.int .i64 p.a0, .int .i64 p.a1, .int .i64 p.a2, .int .i64 p.a3, .int .i64 p.a4, .int .i64 p.a5, .int .i64 p.a6, .int .i64 p.a7, .int .i64 p.a8, .bool p.m, .slice d2 p.o.length p2, .slice d3 p.t.length p3, .slice d4 p.f.length p4] 35 (0, 0)) := (K9.out.bel.block w.heap.size hz1).trans HB.out.2.2
  have c9_9 : w10.cell? ⟨w.heap.size, 9, none⟩ = some (.bool p.m) := by rw [bk_cell gx9]; rfl
  go_wp2_with fail
  go_at_call 67
  have az : Below w10.heap.size w10 (w10.alloc (.cells #[] 5)) := (Below.refl _ _).alloc (Nat.le_refl _) _
  refine (entC w1.heap.size _ (.slice (some ⟨w10.heap.size, 0, none⟩) 0 0) (parA p true 9) [] 12 (w10.alloc (.cells #[] 5)) (owns_below K9.out.own az) (Or.inl ⟨rfl, _, _, rfl⟩) (fun hx => absurd rfl hx) (fun hx => absurd rfl hx) (Nat.le_trans K9.out.bel.size az.size) (by have := H0.out.2.2.2.2.2.2.1 9 (by decide); omega) (by simp) (by decide) (by decide)).mono ?_
  rintro e w11 ⟨r11, rfl, o11, g11⟩
  have el9 : (parL p true).getD 9 [] = entB 12 [] := by show (if p.m = true then entB 12 [] else []) = _; rw [if_pos H0.out.2.2.2.2.2.2.2.2.2]
  have K10 : Hid (OutK w1 w11 r11 p true 10) := K9.out.step (by decide) (by rw [el9]; exact o11) (GrW.after az g11)
  clear gx9 c9_9 el9 o11 g11 az
  have gx10 : w11.heap[w.heap.size]? = some (.cells #[.int .i64 p.a0, .int .i64 p.a1, .int .i64 p.a2, .int .i64 p.a3, .int .i64 p.a4, .int .i64 p.a5, .int .i64 p.a6, .int .i64 p.a7, .int .i64 p.a8, .bool p.m, .slice d2 p.o.length p2, .slice d3 p.t.length p3, .slice d4 p.f.length p4] 35 (0, 0)) := (K10.out.bel.block w.heap.size hz1).trans HB.out.2.2
  have c10_7 : w11.cell? ⟨w.heap.size, 7, none⟩ = some (.int .i64 p.a7) := by rw [bk_cell gx10]; rfl
  go_wp2_with fail
  go_at_call 68
  refine (numC w1.heap.size _ (parA p true 10) 14 p.a7 _ K10.out.own K10.out.bel.size (by have := H0.out.2.2.2.2.2.2.1 10 (by decide); omega) (by decide) (by decide) (by have := HQ.out.2.2.2.2.2.2.2.1; omega) (by have := HQ.out.2.2.2.2.2.2.2.1; omega)).mono ?_
  rintro e w12 ⟨r12, rfl, o12, g12⟩
  have el10 : (parL p true).getD 10 [] = entB 14 (putv p.a7) := rfl
  have K11 : Hid (OutK w1 w12 r12 p true 11) := K10.out.step (by decide) (by rw [el10]; exact o12) g12
  clear gx10 c10_7 el10 o12 g12
  have gx11 : w12.heap[w.heap.size]? = some (.cells #[.int .i64 p.a0, .int .i64 p.a1, .int .i64 p.a2, .int .i64 p.a3, .int .i64 p.a4, .int .i64 p.a5, .int .i64 p.a6, .int .i64 p.a7, .int .i64 p.a8, .bool p.m, .slice d2 p.o.length p2, .slice d3 p.t.length p3, .slice d4 p.f.length p4] 35 (0, 0)) := (K11.out.bel.block w.heap.size hz1).trans HB.out.2.2
  have c11_12 : w12.cell? ⟨w.heap.size, 12, none⟩ = some (.slice d4 p.f.length p4) := by rw [bk_cell gx11]; rfl
  go_wp2_with fail
  go_at_call 67
  refine (entC w1.heap.size _ _ (parA p true 11) p.f 15 _ K11.out.own ((H0.out.2.2.2.2.2.1.below HB.out.1).below K11.out.bel) (fun hx k h h2 => by have := own_of_row H0.out.2.2.2.2.2.1 hx h; have := (K11.out.own.lt k h2).1; omega) (fun hx k h => by have := own_of_row H0.out.2.2.2.2.2.1 hx h; have := K11.out.bel.size; omega) K11.out.bel.size (by have := H0.out.2.2.2.2.2.2.1 11 (by decide); omega) (by have := H0.out.2.2.2.2.2.2.2.1.2.2; omega) (by decide) (by decide)).mono ?_
  rintro e w13 ⟨r13, rfl, o13, g13⟩
  have el11 : (parL p true).getD 11 [] = entB 15 p.f := rfl
  have K12 : Hid (OutK w1 w13 r13 p true 12) := K11.out.step (by decide) (by rw [el11]; exact o13) g13
  clear gx11 c11_12 el11 o13 g13
  have gx12 : w13.heap[w.heap.size]? = some (.cells #[.int .i64 p.a0, .int .i64 p.a1, .int .i64 p.a2, .int .i64 p.a3, .int .i64 p.a4, .int .i64 p.a5, .int .i64 p.a6, .int .i64 p.a7, .int .i64 p.a8, .bool p.m, .slice d2 p.o.length p2, .slice d3 p.t.length p3, .slice d4 p.f.length p4] 35 (0, 0)) := (K12.out.bel.block w.heap.size hz1).trans HB.out.2.2
  have c12_8 : w13.cell? ⟨w.heap.size, 8, none⟩ = some (.int .i64 p.a8) := by rw [bk_cell gx12]; rfl
  go_wp2_with fail
  go_at_call 68
  refine (numC w1.heap.size _ (parA p true 12) 32 p.a8 _ K12.out.own K12.out.bel.size (by have := H0.out.2.2.2.2.2.2.1 12 (by decide); omega) (by decide) (by decide) (by have := HQ.out.2.2.2.2.2.2.2.2; omega) (by have := HQ.out.2.2.2.2.2.2.2.2; omega)).mono ?_
  rintro e w14 ⟨r14, rfl, o14, g14⟩
  have el12 : (parL p true).getD 12 [] = entB 32 (putv p.a8) := rfl
  have K13 : Hid (OutK w1 w14 r14 p true 13) := K12.out.step (by decide) (by rw [el12]; exact o14) g14
  clear gx12 c12_8 el12 o14 g14
  go_wp2
  go_ret2
  refine ⟨_, rfl, ?_, HB.out.1.trans (K13.out.bel.mono HB.out.1.size)⟩
  have := owns_mono K13.out.own (base' := w.heap.size) HB.out.1.size
  rw [parA_13] at this
  exact this
end Go.Proofs.YteggfkekgdlecaaGreatDoor

namespace Go.Proofs.YteggfkekgdlecaaGreatDoor
open Go.RowKit
set_option linter.unusedVariables false

set_option maxRecDepth 20000 in
set_option maxHeartbeats 4000000 in
theorem pbS_110 (v : Value) (p : PP) (w : World) (hr : PPRow w v p) (hs : p.small 9223372036854775807) (hyes : pok p true = true) (ht : 0 < p.t.length) (hm : p.m = false) :
    Calls Tryz.prog 48 #[v, .bool true] w fun e w' => ∃ r, e = .returned (.tuple #[r, .int .i64 0]) ∧ w'.ownsRow w.heap.size 5 1 r (parB p true).length ((parB p true).map (Value.int .u8)) ∧ Below w.heap.size w w' := by
  obtain ⟨d2, d3, d4, p2, p3, p4, rfl, r2, r3, r4⟩ := hr.parts
  obtain ⟨⟨z2, z3, z4⟩, q0, q1, q2, q3, q4, q5, q6, q7, q8⟩ := pok_parts p true hyes
  have b0 := (Below.refl w.heap.size w).alloc (Nat.le_refl _) (.cells #[.int .i64 p.a0, .int .i64 p.a1, .int .i64 p.a2, .int .i64 p.a3, .int .i64 p.a4, .int .i64 p.a5, .int .i64 p.a6, .int .i64 p.a7, .int .i64 p.a8, .bool p.m, .slice d2 p.o.length p2, .slice d3 p.t.length p3, .slice d4 p.f.length p4] 35)
  have g0 := heap_alloc_new w (.cells #[.int .i64 p.a0, .int .i64 p.a1, .int .i64 p.a2, .int .i64 p.a3, .int .i64 p.a4, .int .i64 p.a5, .int .i64 p.a6, .int .i64 p.a7, .int .i64 p.a8, .bool p.m, .slice d2 p.o.length p2, .slice d3 p.t.length p3, .slice d4 p.f.length p4] 35)
  have C := pokS _ p true _ (hr.below b0) hs
  rw [hyes] at C
  have LE := parA_le p true hyes
  have H0 : Hid _ := And.intro C (And.intro b0 (And.intro g0 (And.intro r2 (And.intro r3 (And.intro r4 (And.intro LE (And.intro (And.intro z2 (And.intro z3 z4)) (And.intro ht hm))))))))
  have HQ : Hid _ := And.intro q0 (And.intro q1 (And.intro q2 (And.intro q3 (And.intro q4 (And.intro q5 (And.intro q6 (And.intro q7 q8)))))))
  clear C b0 g0 hr hs hyes r2 r3 r4 LE z2 z3 z4 q0 q1 q2 q3 q4 q5 q6 q7 q8 ht hm
  go_enter Tryz.func48, Tryz.ntmps48
  go_wp2_with fail
  go_at_call 44
  refine H0.out.1.mono ?_
  rintro e w1 ⟨rfl, b1⟩
  have o0 : (w1.alloc (.cells #[] 5)).ownsRow w1.heap.size 5 1 (.slice (some ⟨w1.heap.size, 0, none⟩) 0 0) (parA p true 0).length ((parA p true 0).map (Value.int .u8)) := World.ownsRow_lit _ #[] 0 (Nat.le_refl _) (by decide) rfl
  have K0 : Hid (OutK w1 (w1.alloc (.cells #[] 5)) (.slice (some ⟨w1.heap.size, 0, none⟩) 0 0) p true 0) := ⟨o0, (Below.refl _ _).alloc (Nat.le_refl _) _⟩
  have HB : Hid _ := And.intro (H0.out.2.1.trans (b1.mono H0.out.2.1.size)) (And.intro b1 ((b1.block w.heap.size (by simp)).trans H0.out.2.2.1))
  have hz1 : w.heap.size < w1.heap.size := by have := b1.size; simp at this; omega
  clear b1 o0
  have gx0 : (w1.alloc (.cells #[] 5)).heap[w.heap.size]? = some (.cells #[.int .i64 p.a0, .int .i64 p.a1, .int .i64 p.a2, .int .i64 p.a3, .int .i64 p.a4, .int .i64 p.a5, .int .i64 p.a6, .int .i64 p.a7, .int .i64 p.a8, .bool p.m, .slice d2 p.o.length p2, .slice d3 p.t.length p3, .slice d4 p.f.length p4] 35 (0, 0)) := (K0.out.bel.block w.heap.size hz1).trans HB.out.2.2
  have c0_10 : (w1.alloc (.cells #[] 5)).cell? ⟨w.heap.size, 10, none⟩ = some (.slice d2 p.o.length p2) := by rw [bk_cell gx0]; rfl
  go_wp2_with fail
  go_at_call 67
  refine (entC w1.heap.size _ _ (parA p true 0) p.o 0 _ K0.out.own ((H0.out.2.2.2.1.below HB.out.1).below K0.out.bel) (fun hx k h h2 => by have := own_of_row H0.out.2.2.2.1 hx h; have := (K0.out.own.lt k h2).1; omega) (fun hx k h => by have := own_of_row H0.out.2.2.2.1 hx h; have := K0.out.bel.size; omega) K0.out.bel.size (by have := H0.out.2.2.2.2.2.2.1 0 (by decide); omega) (by have := H0.out.2.2.2.2.2.2.2.1.1; omega) (by decide) (by decide)).mono ?_
  rintro e w2 ⟨r2, rfl, o2, g2⟩
  have el0 : (parL p true).getD 0 [] = entB 0 p.o := by show (if true = true then entB 0 p.o else []) = _; rw [if_pos rfl]
  have K1 : Hid (OutK w1 w2 r2 p true 1) := K0.out.step (by decide) (by rw [el0]; exact o2) g2
  clear gx0 c0_10 el0 o2 g2
  have gx1 : w2.heap[w.heap.size]? = some (.cells #[.int .i64 p.a0, .int .i64 p.a1, .int .i64 p.a2, .int .i64 p.a3, .int .i64 p.a4, .int .i64 p.a5, .int .i64 p.a6, .int .i64 p.a7, .int .i64 p.a8, .bool p.m, .slice d2 p.o.length p2, .slice d3 p.t.length p3, .slice d4 p.f.length p4] 35 (0, 0)) := (K1.out.bel.block w.heap.size hz1).trans HB.out.2.2
  have c1_0 : w2.cell? ⟨w.heap.size, 0, none⟩ = some (.int .i64 p.a0) := by rw [bk_cell gx1]; rfl
  have c1_11 : w2.cell? ⟨w.heap.size, 11, none⟩ = some (.slice d3 p.t.length p3) := by rw [bk_cell gx1]; rfl
  go_wp2_with fail
  go_at_call 68
  refine (numC w1.heap.size _ (parA p true 1) 1 p.a0 _ K1.out.own K1.out.bel.size (by have := H0.out.2.2.2.2.2.2.1 1 (by decide); omega) (by decide) (by decide) (by have := HQ.out.1; omega) (by have := HQ.out.1; omega)).mono ?_
  rintro e w3 ⟨r3, rfl, o3, g3⟩
  have el1 : (parL p true).getD 1 [] = entB 1 (putv p.a0) := rfl
  have K2 : Hid (OutK w1 w3 r3 p true 2) := K1.out.step (by decide) (by rw [el1]; exact o3) g3
  clear gx1 c1_0 c1_11 el1 o3 g3
  have hd : decide (0 < p.t.length) = true := decide_eq_true (by have := H0.out.2.2.2.2.2.2.2.2.1; omega)
  have hd2 : 0 < p.t.length := by have := H0.out.2.2.2.2.2.2.2.2.1; omega
  have gy1 : w3.heap[w.heap.size]? = some (.cells #[.int .i64 p.a0, .int .i64 p.a1, .int .i64 p.a2, .int .i64 p.a3, .int .i64 p.a4, .int .i64 p.a5, .int .i64 p.a6, .int .i64 p.a7, .int .i64 p.a8, .bool p.m, .slice d2 p.o.length p2, .slice d3 p.t.length p3, .slice d4 p.f.length p4] 35 (0, 0)) := (K2.out.bel.block w.heap.size hz1).trans HB.out.2.2
  have cy1 : w3.cell? ⟨w.heap.size, 11, none⟩ = some (.slice d3 p.t.length p3) := by rw [bk_cell gy1]; rfl
  clear gy1
  have gx2 : w3.heap[w.heap.size]? = some (.cells #[.int .i64 p.a0, .int .i64 p.a1, .int .i64 p.a2, .int .i64 p.a3, .int .i64 p.a4, .int .i64 p.a5, .int .i64 p.a6, .int .i64 p.a7, .int .i64 p.a8, .bool p.m, .slice d2 p.o.length p2, .slice d3 p.t.length p3, .slice d4 p.f.length p4] 35 (0, 0)) := (K2.out.bel.block w.heap.size hz1).trans HB.out.2.2
  have c2_11 : w3.cell? ⟨w.heap.size, 11, none⟩ = some (.slice d3 p.t.length p3) := by rw [bk_cell gx2]; rfl
  go_wp2_with fail
  go_at_call 67
  refine (entC w1.heap.size _ _ (parA p true 2) p.t 2 _ K2.out.own ((H0.out.2.2.2.2.1.below HB.out.1).below K2.out.bel) (fun hx k h h2 => by have := own_of_row H0.out.2.2.2.2.1 hx h; have := (K2.out.own.lt k h2).1; omega) (fun hx k h => by have := own_of_row H0.out.2.2.2.2.1 hx h; have := K2.out.bel.size; omega) K2.out.bel.size (by have := H0.out.2.2.2.2.2.2.1 2 (by decide); omega) (by have := H0.out.2.2.2.2.2.2.2.1.2.1; omega) (by decide) (by decide)).mono ?_
  rintro e w4 ⟨r4, rfl, o4, g4⟩
  have el2 : (parL p true).getD 2 [] = entB 2 p.t := by show (if 0 < p.t.length then entB 2 p.t else []) = _; rw [if_pos H0.out.2.2.2.2.2.2.2.2.1]
  have K3 : Hid (OutK w1 w4 r4 p true 3) := K2.out.step (by decide) (by rw [el2]; exact o4) g4
  clear gx2 c2_11 el2 o4 g4
  clear hd hd2
  have gx3 : w4.heap[w.heap.size]? = some (.cells #[.int .i64 p.a0, .int .i64 p.a1, .int .i64 p.a2, .int .i64 p.a3, .int .i64 p.a4, .int .i64 p.a5, .int .i64 p.a6, .int .i64 p.a7, .int .i64 p.a8, .bool p.m, .slice d2 p.o.length p2, .slice d3 p.t.length p3, .slice d4 p.f.length p4] 35 (0, 0)) := (K3.out.bel.block w.heap.size hz1).trans HB.out.2.2
  have c3_1 : w4.cell? ⟨w.heap.size, 1, none⟩ = some (.int .i64 p.a1) := by rw [bk_cell gx3]; rfl
  go_wp2_with fail
  go_at_call 68
  refine (numC w1.heap.size _ (parA p true 3) 3 p.a1 _ K3.out.own K3.out.bel.size (by have := H0.out.2.2.2.2.2.2.1 3 (by decide); omega) (by decide) (by decide) (by have := HQ.out.2.1; omega) (by have := HQ.out.2.1; omega)).mono ?_
  rintro e w5 ⟨r5, rfl, o5, g5⟩
  have el3 : (parL p true).getD 3 [] = entB 3 (putv p.a1) := rfl
  have K4 : Hid (OutK w1 w5 r5 p true 4) := K3.out.step (by decide) (by rw [el3]; exact o5) g5
  clear gx3 c3_1 el3 o5 g5
  have gx4 : w5.heap[w.heap.size]? = some (.cells #[.int .i64 p.a0, .int .i64 p.a1, .int .i64 p.a2, .int .i64 p.a3, .int .i64 p.a4, .int .i64 p.a5, .int .i64 p.a6, .int .i64 p.a7, .int .i64 p.a8, .bool p.m, .slice d2 p.o.length p2, .slice d3 p.t.length p3, .slice d4 p.f.length p4] 35 (0, 0)) := (K4.out.bel.block w.heap.size hz1).trans HB.out.2.2
  have c4_2 : w5.cell? ⟨w.heap.size, 2, none⟩ = some (.int .i64 p.a2) := by rw [bk_cell gx4]; rfl
  go_wp2_with fail
  go_at_call 68
  refine (numC w1.heap.size _ (parA p true 4) 4 p.a2 _ K4.out.own K4.out.bel.size (by have := H0.out.2.2.2.2.2.2.1 4 (by decide); omega) (by decide) (by decide) (by have := HQ.out.2.2.1; omega) (by have := HQ.out.2.2.1; omega)).mono ?_
  rintro e w6 ⟨r6, rfl, o6, g6⟩
  have el4 : (parL p true).getD 4 [] = entB 4 (putv p.a2) := rfl
  have K5 : Hid (OutK w1 w6 r6 p true 5) := K4.out.step (by decide) (by rw [el4]; exact o6) g6
  clear gx4 c4_2 el4 o6 g6
  have gx5 : w6.heap[w.heap.size]? = some (.cells #[.int .i64 p.a0, .int .i64 p.a1, .int .i64 p.a2, .int .i64 p.a3, .int .i64 p.a4, .int .i64 p.a5, .int .i64 p.a6, .int .i64 p.a7, .int .i64 p.a8, .bool p.m, .slice d2 p.o.length p2, .slice d3 p.t.length p3, .slice d4 p.f.length p4] 35 (0, 0)) := (K5.out.bel.block w.heap.size hz1).trans HB.out.2.2
  have c5_3 : w6.cell? ⟨w.heap.size, 3, none⟩ = some (.int .i64 p.a3) := by rw [bk_cell gx5]; rfl
  go_wp2_with fail
  go_at_call 68
  refine (numC w1.heap.size _ (parA p true 5) 5 p.a3 _ K5.out.own K5.out.bel.size (by have := H0.out.2.2.2.2.2.2.1 5 (by decide); omega) (by decide) (by decide) (by have := HQ.out.2.2.2.1; omega) (by have := HQ.out.2.2.2.1; omega)).mono ?_
  rintro e w7 ⟨r7, rfl, o7, g7⟩
  have el5 : (parL p true).getD 5 [] = entB 5 (putv p.a3) := rfl
  have K6 : Hid (OutK w1 w7 r7 p true 6) := K5.out.step (by decide) (by rw [el5]; exact o7) g7
  clear gx5 c5_3 el5 o7 g7
  have gx6 : w7.heap[w.heap.size]? = some (.cells #[.int .i64 p.a0, .int .i64 p.a1, .int .i64 p.a2, .int .i64 p.a3, .int .i64 p.a4, .int .i64 p.a5, .int .i64 p.a6, .int .i64 p.a7, .int .i64 p.a8, .bool p.m, .slice d2 p.o.length p2, .slice d3 p.t.length p3, .slice d4 p.f.length p4] 35 (0, 0)) := (K6.out.bel.block w.heap.size hz1).trans HB.out.2.2
  have c6_4 : w7.cell? ⟨w.heap.size, 4, none⟩ = some (.int .i64 p.a4) := by rw [bk_cell gx6]; rfl
  go_wp2_with fail
  go_at_call 68
  refine (numC w1.heap.size _ (parA p true 6) 8 p.a4 _ K6.out.own K6.out.bel.size (by have := H0.out.2.2.2.2.2.2.1 6 (by decide); omega) (by decide) (by decide) (by have := HQ.out.2.2.2.2.1; omega) (by have := HQ.out.2.2.2.2.1; omega)).mono ?_
  rintro e w8 ⟨r8, rfl, o8, g8⟩
  have el6 : (parL p true).getD 6 [] = entB 8 (putv p.a4) := rfl
  have K7 : Hid (OutK w1 w8 r8 p true 7) := K6.out.step (by decide) (by rw [el6]; exact o8) g8
  clear gx6 c6_4 el6 o8 g8
  have gx7 : w8.heap[w.heap.size]? = some (.cells #[.int .i64 p.a0, .int .i64 p.a1, .int .i64 p.a2, .int .i64 p.a3, .int .i64 p.a4, .int .i64 p.a5, .int .i64 p.a6, .int .i64 p.a7, .int .i64 p.a8, .bool p.m, .slice d2 p.o.length p2, .slice d3 p.t.length p3, .slice d4 p.f.length p4] 35 (0, 0)) := (K7.out.bel.block w.heap.size hz1).trans HB.out.2.2
  have c7_5 : w8.cell? ⟨w.heap.size, 5, none⟩ = some (.int .i64 p.a5) := by rw [bk_cell gx7]; rfl
  go_wp2_with fail
  go_at_call 68
  refine (numC w1.heap.size _ (parA p true 7) 9 p.a5 _ K7.out.own K7.out.bel.size (by have := H0.out.2.2.2.2.2.2.1 7 (by decide); omega) (by decide) (by decide) (by have := HQ.out.2.2.2.2.2.1; omega) (by have := HQ.out.2.2.2.2.2.1; omega)).mono ?_
  rintro e w9 ⟨r9, rfl, o9, g9⟩
  have el7 : (parL p true).getD 7 [] = entB 9 (putv p.a5) := rfl
  have K8 : Hid (OutK w1 w9 r9 p true 8) := K7.out.step (by decide) (by rw [el7]; exact o9) g9
  clear gx7 c7_5 el7 o9 g9
  have gx8 : w9.heap[w.heap.size]? = some (.cells #[.int .i64 p.a0, .int .i64 p.a1, .int .i64 p.a2, .int .i64 p.a3, .int .i64 p.a4, .int .i64 p.a5, .int .i64 p.a6, .int .i64 p.a7, .int .i64 p.a8, .bool p.m, .slice d2 p.o.length p2, .slice d3 p.t.length p3, .slice d4 p.f.length p4] 35 (0, 0)) := (K8.out.bel.block w.heap.size hz1).trans HB.out.2.2
  have c8_6 : w9.cell? ⟨w.heap.size, 6, none⟩ = some (.int .i64 p.a6) := by rw [bk_cell gx8]; rfl
  have c8_9 : w9.cell? ⟨w.heap.size, 9, none⟩ = some (.bool p.m) := by rw [bk_cell gx8]; rfl
  go_wp2_with fail
  go_at_call 68
  refine (numC w1.heap.size _ (parA p true 8) 11 p.a6 _ K8.out.own K8.out.bel.size (by have := H0.out.2.2.2.2.2.2.1 8 (by decide); omega) (by decide) (by decide) (by have := HQ.out.2.2.2.2.2.2.1; omega) (by have := HQ.out.2.2.2.2.2.2.1; omega)).mono ?_
  rintro e w10 ⟨r10, rfl, o10, g10⟩
  have el8 : (parL p true).getD 8 [] = entB 11 (putv p.a6) := rfl
  have K9 : Hid (OutK w1 w10 r10 p true 9) := K8.out.step (by decide) (by rw [el8]; exact o10) g10
  clear gx8 c8_6 c8_9 el8 o10 g10
  have gy8 : w10.heap[w.heap.size]? = some (.cells #[.int .i64 p.a0, .int .i64 p.a1, .int .i64 p.a2, .int .i64 p.a3, .int .i64 p.a4, .int .i64 p.a5, .int .i64 p.a6, .int .i64 p.a7, .int .i64 p.a8, .bool p.m, .slice d2 p.o.length p2, .slice d3 p.t.length p3, .slice d4 p.f.length p4] 35 (0, 0)) := (K9.out.bel.block w.heap.size hz1).trans HB.out.2.2
  have cy8 : w10.cell? ⟨w.heap.size, 9, none⟩ = some (.bool false) := by rw [bk_cell gy8]; show some (Value.bool p.m) = _; rw [H0.out.2.2.2.2.2.2.2.2.2]
  clear gy8
  have K10 : Hid (OutK w1 w10 r10 p true 10) := K9.out.skip (by decide) (by show (if p.m = true then entB 12 [] else []) = []; rw [if_neg (by rw [H0.out.2.2.2.2.2.2.2.2.2]; decide)])
  have gx10 : w10.heap[w.heap.size]? = some (.cells #[.int .i64 p.a0, .int .i64 p.a1, .int .i64 p.a2, .int .i64 p.a3, .int .i64 p.a4, .int .i64 p.a5, .int .i64 p.a6, .int .i64 p.a7, .int .i64 p.a8, .bool p.m, .slice d2 p.o.length p2, .slice d3 p.t.length p3, .slice d4 p.f.length p4] 35 (0, 0)) := (K10.out.bel.block w.heap.size hz1).trans HB.out.2.2
  have c10_7 : w10.cell? ⟨w.heap.size, 7, none⟩ = some (.int .i64 p.a7) := by rw [bk_cell gx10]; rfl
  go_wp2_with fail
  go_at_call 68
  refine (numC w1.heap.size _ (parA p true 10) 14 p.a7 _ K10.out.own K10.out.bel.size (by have := H0.out.2.2.2.2.2.2.1 10 (by decide); omega) (by decide) (by decide) (by have := HQ.out.2.2.2.2.2.2.2.1; omega) (by have := HQ.out.2.2.2.2.2.2.2.1; omega)).mono ?_
  rintro e w12 ⟨r12, rfl, o12, g12⟩
  have el10 : (parL p true).getD 10 [] = entB 14 (putv p.a7) := rfl
  have K11 : Hid (OutK w1 w12 r12 p true 11) := K10.out.step (by decide) (by rw [el10]; exact o12) g12
  clear gx10 c10_7 el10 o12 g12
  have gx11 : w12.heap[w.heap.size]? = some (.cells #[.int .i64 p.a0, .int .i64 p.a1, .int .i64 p.a2, .int .i64 p.a3, .int .i64 p.a4, .int .i64 p.a5, .int .i64 p.a6, .int .i64 p.a7, .int .i64 p.a8, .bool p.m, .slice d2 p.o.length p2, .slice d3 p.t.length p3, .slice d4 p.f.length p4] 35 (0, 0)) := (K11.out.bel.block w.heap.size hz1).trans HB.out.2.2
  have c11_12 : w12.cell? ⟨w.heap.size, 12, none⟩ = some (.slice d4 p.f.length p4) := by rw [bk_cell gx11]; rfl
  go_wp2_with fail
  go_at_call 67
  refine (entC w1.heap.size _ _ (parA p true 11) p.f 15 _ K11.out.own ((H0.out.2.2.2.2.2.1.below HB.out.1).below K11.out.bel) (fun hx k h h2 => by have := own_of_row H0.out.2.2.2.2.2.1 hx h; have := (K11.out.own.lt k h2).1; omega) (fun hx k h => by have := own_of_row H0.out.2.2.2.2.2.1 hx h; have := K11.out.bel.size; omega) K11.out.bel.size (by have := H0.out.2.2.2.2.2.2.1 11 (by decide); omega) (by have := H0.out.2.2.2.2.2.2.2.1.2.2; omega) (by decide) (by decide)).mono ?_
  rintro e w13 ⟨r13, rfl, o13, g13⟩
  have el11 : (parL p true).getD 11 [] = entB 15 p.f := rfl
  have K12 : Hid (OutK w1 w13 r13 p true 12) := K11.out.step (by decide) (by rw [el11]; exact o13) g13
  clear gx11 c11_12 el11 o13 g13
  have gx12 : w13.heap[w.heap.size]? = some (.cells #[.int .i64 p.a0, .int .i64 p.a1, .int .i64 p.a2, .int .i64 p.a3, .int .i64 p.a4, .int .i64 p.a5, .int .i64 p.a6, .int .i64 p.a7, .int .i64 p.a8, .bool p.m, .slice d2 p.o.length p2, .slice d3 p.t.length p3, .slice d4 p.f.length p4] 35 (0, 0)) := (K12.out.bel.block w.heap.size hz1).trans HB.out.2.2
  have c12_8 : w13.cell? ⟨w.heap.size, 8, none⟩ = some (.int .i64 p.a8) := by rw [bk_cell gx12]; rfl
  go_wp2_with fail
  go_at_call 68
  refine (numC w1.heap.size _ (parA p true 12) 32 p.a8 _ K12.out.own K12.out.bel.size (by have := H0.out.2.2.2.2.2.2.1 12 (by decide); omega) (by decide) (by decide) (by have := HQ.out.2.2.2.2.2.2.2.2; omega) (by have := HQ.out.2.2.2.2.2.2.2.2; omega)).mono ?_
  rintro e w14 ⟨r14, rfl, o14, g14⟩
  have el12 : (parL p true).getD 12 [] = entB 32 (putv p.a8) := rfl
  have K13 : Hid (OutK w1 w14 r14 p true 13) := K12.out.step (by decide) (by rw [el12]; exact o14) g14
  clear gx12 c12_8 el12 o14 g14
  go_wp2
  go_ret2
  refine ⟨_, rfl, ?_, HB.out.1.trans (K13.out.bel.mono HB.out.1.size)⟩
  have := owns_mono K13.out.own (base' := w.heap.size) HB.out.1.size
  rw [parA_13] at this
  exact this
end Go.Proofs.YteggfkekgdlecaaGreatDoor

namespace Go.Proofs.YteggfkekgdlecaaGreatDoor
open Go.RowKit
set_option linter.unusedVariables false

set_option maxRecDepth 20000 in
set_option maxHeartbeats 4000000 in
theorem pbS_111 (v : Value) (p : PP) (w : World) (hr : PPRow w v p) (hs : p.small 9223372036854775807) (hyes : pok p true = true) (ht : 0 < p.t.length) (hm : p.m = true) :
    Calls Tryz.prog 48 #[v, .bool true] w fun e w' => ∃ r, e = .returned (.tuple #[r, .int .i64 0]) ∧ w'.ownsRow w.heap.size 5 1 r (parB p true).length ((parB p true).map (Value.int .u8)) ∧ Below w.heap.size w w' := by
  obtain ⟨d2, d3, d4, p2, p3, p4, rfl, r2, r3, r4⟩ := hr.parts
  obtain ⟨⟨z2, z3, z4⟩, q0, q1, q2, q3, q4, q5, q6, q7, q8⟩ := pok_parts p true hyes
  have b0 := (Below.refl w.heap.size w).alloc (Nat.le_refl _) (.cells #[.int .i64 p.a0, .int .i64 p.a1, .int .i64 p.a2, .int .i64 p.a3, .int .i64 p.a4, .int .i64 p.a5, .int .i64 p.a6, .int .i64 p.a7, .int .i64 p.a8, .bool p.m, .slice d2 p.o.length p2, .slice d3 p.t.length p3, .slice d4 p.f.length p4] 35)
  have g0 := heap_alloc_new w (.cells #[.int .i64 p.a0, .int .i64 p.a1, .int .i64 p.a2, .int .i64 p.a3, .int .i64 p.a4, .int .i64 p.a5, .int .i64 p.a6, .int .i64 p.a7, .int .i64 p.a8, .bool p.m, .slice d2 p.o.length p2, .slice d3 p.t.length p3, .slice d4 p.f.length p4] 35)
  have C := pokS _ p true _ (hr.below b0) hs
  rw [hyes] at C
  have LE := parA_le p true hyes
  have H0 : Hid _ := And.intro C (And.intro b0 (And.intro g0 (And.intro r2 (And.intro r3 (And.intro r4 (And.intro LE (And.intro (And.intro z2 (And.intro z3 z4)) (And.intro ht hm))))))))
  have HQ : Hid _ := And.intro q0 (And.intro q1 (And.intro q2 (And.intro q3 (And.intro q4 (And.intro q5 (And.intro q6 (And.intro q7 q8)))))))
  clear C b0 g0 hr hs hyes r2 r3 r4 LE z2 z3 z4 q0 q1 q2 q3 q4 q5 q6 q7 q8 ht hm
  go_enter Tryz.func48, Tryz.ntmps48
  go_wp2_with fail
  go_at_call 44
  refine H0.out.1.mono ?_
  rintro e w1 ⟨rfl, b1⟩
  have o0 : (w1.alloc (.cells #[] 5)).ownsRow w1.heap.size 5 1 (.slice (some ⟨w1.heap.size, 0, none⟩) 0 0) (parA p true 0).length ((parA p true 0).map (Value.int .u8)) := World.ownsRow_lit _ #[] 0 (Nat.le_refl _) (by decide) rfl
  have K0 : Hid (OutK w1 (w1.alloc (.cells #[] 5)) (.slice (some ⟨w1.heap.size, 0, none⟩) 0 0) p true 0) := ⟨o0, (Below.refl _ _).alloc (Nat.le_refl _) _⟩
  have HB : Hid _ := And.intro (H0.out.2.1.trans (b1.mono H0.out.2.1.size)) (And.intro b1 ((b1.block w.heap.size (by simp)).trans H0.out.2.2.1))
  have hz1 : w.heap.size < w1.heap.size := by have := b1.size; simp at this; omega
  clear b1 o0
  have gx0 : (w1.alloc (.cells #[] 5)).heap[w.heap.size]? = some (.cells #[.int .i64 p.a0, .int .i64 p.a1, .int .i64 p.a2, .int .i64 p.a3, .int .i64 p.a4, .int .i64 p.a5, .int .i64 p.a6, .int .i64 p.a7, .int .i64 p.a8, .bool p.m, .slice d2 p.o.length p2, .slice d3 p.t.length p3, .slice d4 p.f.length p4] 35 (0, 0)) := (K0.out.bel.block w.heap.size hz1).trans HB.out.2.2
  have c0_10 : (w1.alloc (.cells #[] 5)).cell? ⟨w.heap.size, 10, none⟩ = some (.slice d2 p.o.length p2) := by rw [bk_cell gx0]; rfl
  go_wp2_with fail
  go_at_call 67
  refine (entC w1.heap.size _ _ (parA p true 0) p.o 0 _ K0.out.own ((H0.out.2.2.2.1.below HB.out.1).below K0.out.bel) (fun hx k h h2 => by have := own_of_row H0.out.2.2.2.1 hx h; have := (K0.out.own.lt k h2).1; omega) (fun hx k h => by have := own_of_row H0.out.2.2.2.1 hx h; have := K0.out.bel.size; omega) K0.out.bel.size (by have := H0.out.2.2.2.2.2.2.1 0 (by decide); omega) (by have := H0.out.2.2.2.2.2.2.2.1.1; omega) (by decide) (by decide)).mono ?_
  rintro e w2 ⟨r2, rfl, o2, g2⟩
  have el0 : (parL p true).getD 0 [] = entB 0 p.o := by show (if true = true then entB 0 p.o else []) = _; rw [if_pos rfl]
  have K1 : Hid (OutK w1 w2 r2 p true 1) := K0.out.step (by decide) (by rw [el0]; exact o2) g2
  clear gx0 c0_10 el0 o2 g2
  have gx1 : w2.heap[w.heap.size]? = some (.cells #[.int .i64 p.a0, .int .i64 p.a1, .int .i64 p.a2, .int .i64 p.a3, .int .i64 p.a4, .int .i64 p.a5, .int .i64 p.a6, .int .i64 p.a7, .int .i64 p.a8, .bool p.m, .slice d2 p.o.length p2, .slice d3 p.t.length p3, .slice d4 p.f.length p4] 35 (0, 0)) := (K1.out.bel.block w.heap.size hz1).trans HB.out.2.2
  have c1_0 : w2.cell? ⟨w.heap.size, 0, none⟩ = some (.int .i64 p.a0) := by rw [bk_cell gx1]; rfl
  have c1_11 : w2.cell? ⟨w.heap.size, 11, none⟩ = some (.slice d3 p.t.length p3) := by rw [bk_cell gx1]; rfl
  go_wp2_with fail
  go_at_call 68
  refine (numC w1.heap.size _ (parA p true 1) 1 p.a0 _ K1.out.own K1.out.bel.size (by have := H0.out.2.2.2.2.2.2.1 1 (by decide); omega) (by decide) (by decide) (by have := HQ.out.1; omega) (by have := HQ.out.1; omega)).mono ?_
  rintro e w3 ⟨r3, rfl, o3, g3⟩
  have el1 : (parL p true).getD 1 [] = entB 1 (putv p.a0) := rfl
  have K2 : Hid (OutK w1 w3 r3 p true 2) := K1.out.step (by decide) (by rw [el1]; exact o3) g3
  clear gx1 c1_0 c1_11 el1 o3 g3
  have hd : decide (0 < p.t.length) = true := decide_eq_true (by have := H0.out.2.2.2.2.2.2.2.2.1; omega)
  have hd2 : 0 < p.t.length := by have := H0.out.2.2.2.2.2.2.2.2.1; omega
  have gy1 : w3.heap[w.heap.size]? = some (.cells #[.int .i64 p.a0, .int .i64 p.a1, .int .i64 p.a2, .int .i64 p.a3, .int .i64 p.a4, .int .i64 p.a5, .int .i64 p.a6, .int .i64 p.a7, .int .i64 p.a8, .bool p.m, .slice d2 p.o.length p2, .slice d3 p.t.length p3, .slice d4 p.f.length p4] 35 (0, 0)) := (K2.out.bel.block w.heap.size hz1).trans HB.out.2.2
  have cy1 : w3.cell? ⟨w.heap.size, 11, none⟩ = some (.slice d3 p.t.length p3) := by rw [bk_cell gy1]; rfl
  clear gy1
  have gx2 : w3.heap[w.heap.size]? = some (.cells #[.int .i64 p.a0, .int .i64 p.a1, .int .i64 p.a2, .int .i64 p.a3, .int .i64 p.a4, .int .i64 p.a5, .int .i64 p.a6, .int .i64 p.a7, .int .i64 p.a8, .bool p.m, .slice d2 p.o.length p2, .slice d3 p.t.length p3, .slice d4 p.f.length p4] 35 (0, 0)) := (K2.out.bel.block w.heap.size hz1).trans HB.out.2.2
  have c2_11 : w3.cell? ⟨w.heap.size, 11, none⟩ = some (.slice d3 p.t.length p3) := by rw [bk_cell gx2]; rfl
  go_wp2_with fail
  go_at_call 67
  refine (entC w1.heap.size _ _ (parA p true 2) p.t 2 _ K2.out.own ((H0.out.2.2.2.2.1.below HB.out.1).below K2.out.bel) (fun hx k h h2 => by have := own_of_row H0.out.2.2.2.2.1 hx h; have := (K2.out.own.lt k h2).1; omega) (fun hx k h => by have := own_of_row H0.out.2.2.2.2.1 hx h; have := K2.out.bel.size; omega) K2.out.bel.size (by have := H0.out.2.2.2.2.2.2.1 2 (by decide); omega) (by have := H0.out.2.2.2.2.2.2.2.1.2.1; omega) (by decide) (by decide)).mono ?_
  rintro e w4 ⟨r4, rfl, o4, g4⟩
  have el2 : (parL p true).getD 2 [] = entB 2 p.t := by show (if 0 < p.t.length then entB 2 p.t else []) = _; rw [if_pos H0.out.2.2.2.2.2.2.2.2.1]
  have K3 : Hid (OutK w1 w4 r4 p true 3) := K2.out.step (by decide) (by rw [el2]; exact o4) g4
  clear gx2 c2_11 el2 o4 g4
  clear hd hd2
  have gx3 : w4.heap[w.heap.size]? = some (.cells #[.int .i64 p.a0, .int .i64 p.a1, .int .i64 p.a2, .int .i64 p.a3, .int .i64 p.a4, .int .i64 p.a5, .int .i64 p.a6, .int .i64 p.a7, .int .i64 p.a8, .bool p.m, .slice d2 p.o.length p2, .slice d3 p.t.length p3, .slice d4 p.f.length p4] 35 (0, 0)) := (K3.out.bel.block w.heap.size hz1).trans HB.out.2.2
  have c3_1 : w4.cell? ⟨w.heap.size, 1, none⟩ = some (.int .i64 p.a1) := by rw [bk_cell gx3]; rfl
  go_wp2_with fail
  go_at_call 68
  refine (numC w1.heap.size _ (parA p true 3) 3 p.a1 _ K3.out.own K3.out.bel.size (by have := H0.out.2.2.2.2.2.2.1 3 (by decide); omega) (by decide) (by decide) (by have := HQ.out.2.1; omega) (by have := HQ.out.2.1; omega)).mono ?_
  rintro e w5 ⟨r5, rfl, o5, g5⟩
  have el3 : (parL p true).getD 3 [] = entB 3 (putv p.a1) := rfl
  have K4 : Hid (OutK w1 w5 r5 p true 4) := K3.out.step (by decide) (by rw [el3]; exact o5) g5
  clear gx3 c3_1 el3 o5 g5
  have gx4 : w5.heap[w.heap.size]? = some (.cells #[.int .i64 p.a0, .int .i64 p.a1, .int .i64 p.a2, .int .i64 p.a3, .int .i64 p.a4, .int .i64 p.a5, .int .i64 p.a6, .int .i64 p.a7, .int .i64 p.a8, .bool p.m, .slice d2 p.o.length p2, .slice d3 p.t.length p3, .slice d4 p.f.length p4] 35 (0, 0)) := (K4.out.bel.block w.heap.size hz1).trans HB.out.2.2
  have c4_2 : w5.cell? ⟨w.heap.size, 2, none⟩ = some (.int .i64 p.a2) := by rw [bk_cell gx4]; rfl
  go_wp2_with fail
  go_at_call 68
  refine (numC w1.heap.size _ (parA p true 4) 4 p.a2 _ K4.out.own K4.out.bel.size (by have := H0.out.2.2.2.2.2.2.1 4 (by decide); omega) (by decide) (by decide) (by have := HQ.out.2.2.1; omega) (by have := HQ.out.2.2.1; omega)).mono ?_
  rintro e w6 ⟨r6, rfl, o6, g6⟩
  have el4 : (parL p true).getD 4 [] = entB 4 (putv p.a2) := rfl
  have K5 : Hid (OutK w1 w6 r6 p true 5) := K4.out.step (by decide) (by rw [el4]; exact o6) g6
  clear gx4 c4_2 el4 o6 g6
  have gx5 : w6.heap[w.heap.size]? = some (.cells #[.int .i64 p.a0, .int .i64 p.a1, .int .i64 p.a2, .int .i64 p.a3, .int .i64 p.a4, .int .i64 p.a5, .int .i64 p.a6, .int .i64 p.a7, .int .i64 p.a8, .bool p.m, .slice d2 p.o.length p2, .slice d3 p.t.length p3, .slice d4 p.f.length p4] 35 (0, 0)) := (K5.out.bel.block w.heap.size hz1).trans HB.out.2.2
  have c5_3 : w6.cell? ⟨w.heap.size, 3, none⟩ = some (.int .i64 p.a3) := by rw [bk_cell gx5]; rfl
  go_wp2_with fail
  go_at_call 68
  refine (numC w1.heap.size _ (parA p true 5) 5 p.a3 _ K5.out.own K5.out.bel.size (by have := H0.out.2.2.2.2.2.2.1 5 (by decide); omega) (by decide) (by decide) (by have := HQ.out.2.2.2.1; omega) (by have := HQ.out.2.2.2.1; omega)).mono ?_
  rintro e w7 ⟨r7, rfl, o7, g7⟩
  have el5 : (parL p true).getD 5 [] = entB 5 (putv p.a3) := rfl
  have K6 : Hid (OutK w1 w7 r7 p true 6) := K5.out.step (by decide) (by rw [el5]; exact o7) g7
  clear gx5 c5_3 el5 o7 g7
  have gx6 : w7.heap[w.heap.size]? = some (.cells #[.int .i64 p.a0, .int .i64 p.a1, .int .i64 p.a2, .int .i64 p.a3, .int .i64 p.a4, .int .i64 p.a5, .int .i64 p.a6, .int .i64 p.a7, .int .i64 p.a8, .bool p.m, .slice d2 p.o.length p2, .slice d3 p.t.length p3, .slice d4 p.f.length p4] 35 (0, 0)) := (K6.out.bel.block w.heap.size hz1).trans HB.out.2.2
  have c6_4 : w7.cell? ⟨w.heap.size, 4, none⟩ = some (.int .i64 p.a4) := by rw [bk_cell gx6]; rfl
  go_wp2_with fail
  go_at_call 68
  refine (numC w1.heap.size _ (parA p true 6) 8 p.a4 _ K6.out.own K6.out.bel.size (by have := H0.out.2.2.2.2.2.2.1 6 (by decide); omega) (by decide) (by decide) (by have := HQ.out.2.2.2.2.1; omega) (by have := HQ.out.2.2.2.2.1; omega)).mono ?_
  rintro e w8 ⟨r8, rfl, o8, g8⟩
  have el6 : (parL p true).getD 6 [] = entB 8 (putv p.a4) := rfl
  have K7 : Hid (OutK w1 w8 r8 p true 7) := K6.out.step (by decide) (by rw [el6]; exact o8) g8
  clear gx6 c6_4 el6 o8 g8
  have gx7 : w8.heap[w.heap.size]? = some (.cells #[.int .i64 p.a0, .int .i64 p.a1, .int .i64 p.a2, .int .i64 p.a3, .int .i64 p.a4, .int .i64 p.a5, .int .i64 p.a6, .int .i64 p.a7, .int .i64 p.a8, .bool p.m, .slice d2 p.o.length p2, .slice d3 p.t.length p3, .slice d4 p.f.length p4] 35 (0, 0)) := (K7.out.bel.block w.heap.size hz1).trans HB.out.2.2
  have c7_5 : w8.cell? ⟨w.heap.size, 5, none⟩ = some (.int .i64 p.a5) := by rw [bk_cell gx7]; rfl
  go_wp2_with fail
  go_at_call 68
  refine (numC w1.heap.size _ (parA p true 7) 9 p.a5 _ K7.out.own K7.out.bel.size (by have := H0.out.2.2.2.2.2.2.1 7 (by decide); omega) (by decide) (by decide) (by have := HQ.out.2.2.2.2.2.1; omega) (by have := HQ.out.2.2.2.2.2.1; omega)).mono ?_
  rintro e w9 ⟨r9, rfl, o9, g9⟩
  have el7 : (parL p true).getD 7 [] = entB 9 (putv p.a5) := rfl
  have K8 : Hid (OutK w1 w9 r9 p true 8) := K7.out.step (by decide) (by rw [el7]; exact o9) g9
  clear gx7 c7_5 el7 o9 g9
  have gx8 : w9.heap[w.heap.size]? = some (.cells #[.int .i64 p.a0, .int .i64 p.a1, .int .i64 p.a2, .int .i64 p.a3, .int .i64 p.a4, .int .i64 p.a5, .int .i64 p.a6, .int .i64 p.a7, .int .i64 p.a8, .bool p.m, .slice d2 p.o.length p2, .slice d3 p.t.length p3, .slice d4 p.f.length p4] 35 (0, 0)) := (K8.out.bel.block w.heap.size hz1).trans HB.out.2.2
  have c8_6 : w9.cell? ⟨w.heap.size, 6, none⟩ = some (.int .i64 p.a6) := by rw [bk_cell gx8]; rfl
  have c8_9 : w9.cell? ⟨w.heap.size, 9, none⟩ = some (.bool p.m) := by rw [bk_cell gx8]; rfl
  go_wp2_with fail
  go_at_call 68
  refine (numC w1.heap.size _ (parA p true 8) 11 p.a6 _ K8.out.own K8.out.bel.size (by have := H0.out.2.2.2.2.2.2.1 8 (by decide); omega) (by decide) (by decide) (by have := HQ.out.2.2.2.2.2.2.1; omega) (by have := HQ.out.2.2.2.2.2.2.1; omega)).mono ?_
  rintro e w10 ⟨r10, rfl, o10, g10⟩
  have el8 : (parL p true).getD 8 [] = entB 11 (putv p.a6) := rfl
  have K9 : Hid (OutK w1 w10 r10 p true 9) := K8.out.step (by decide) (by rw [el8]; exact o10) g10
  clear gx8 c8_6 c8_9 el8 o10 g10
  have gy8 : w10.heap[w.heap.size]? = some (.cells #[.int .i64 p.a0, .int .i64 p.a1, .int .i64 p.a2, .int .i64 p.a3, .int .i64 p.a4, .int .i64 p.a5, .int .i64 p.a6, .int .i64 p.a7, .int .i64 p.a8, .bool p.m, .slice d2 p.o.length p2, .slice d3 p.t.length p3, .slice d4 p.f.length p4] 35 (0, 0)) := (K9.out.bel.block w.heap.size hz1).trans HB.out.2.2
  have cy8 : w10.cell? ⟨w.heap.size, 9, none⟩ = some (.bool true) := by rw [bk_cell gy8]; show some (Value.bool p.m) = _; rw [H0.out.2.2.2.2.2.2.2.2.2]
  clear gy8
  have gx9 : w10.heap[w.heap.size]? = some (.cells #[.int .i64 p.a0, .int .i64 p.a1, .int .i64 p.a2, .int .i64 p.a3, .int .i64 p.a4, .int .i64 p.a5, .int .i64 p.a6, .int .i64 p.a7, .int .i64 p.a8, .bool p.m, .slice d2 p.o.length p2, .slice d3 p.t.length p3, .slice d4 p.f.length p4] 35 (0, 0)) := (K9.out.bel.block w.heap.size hz1).trans HB.out.2.2
  have c9_9 : w10.cell? ⟨w.heap.size, 9, none⟩ = some (.bool p.m) := by rw [bk_cell gx9]; rfl
  go_wp2_with fail
  go_at_call 67
  have az : Below w10.heap.size w10 (w10.alloc (.cells #[] 5)) := (Below.refl _ _).alloc (Nat.le_refl _) _
  refine (entC w1.heap.size _ (.slice (some ⟨w10.heap.size, 0, none⟩) 0 0) (parA p true 9) [] 12 (w10.alloc (.cells #[] 5)) (owns_below K9.out.own az) (Or.inl ⟨rfl, _, _, rfl⟩) (fun hx => absurd rfl hx) (fun hx => absurd rfl hx) (Nat.le_trans K9.out.bel.size az.size) (by have := H0.out.2.2.2.2.2.2.1 9 (by decide); omega) (by simp) (by decide) (by decide)).mono ?_
  rintro e w11 ⟨r11, rfl, o11, g11⟩
  have el9 : (parL p true).getD 9 [] = entB 12 [] := by show (if p.m = true then entB 12 [] else []) = _; rw [if_pos H0.out.2.2.2.2.2.2.2.2.2]
  have K10 : Hid (OutK w1 w11 r11 p true 10) := K9.out.step (by decide) (by rw [el9]; exact o11) (GrW.after az g11)
  clear gx9 c9_9 el9 o11 g11 az
  have gx10 : w11.heap[w.heap.size]? = some (.cells #[.int .i64 p.a0, .int .i64 p.a1, .int .i64 p.a2, .int .i64 p.a3, .int .i64 p.a4, .int .i64 p.a5, .int .i64 p.a6, .int .i64 p.a7, .int .i64 p.a8, .bool p.m, .slice d2 p.o.length p2, .slice d3 p.t.length p3, .slice d4 p.f.length p4] 35 (0, 0)) := (K10.out.bel.block w.heap.size hz1).trans HB.out.2.2
  have c10_7 : w11.cell? ⟨w.heap.size, 7, none⟩ = some (.int .i64 p.a7) := by rw [bk_cell gx10]; rfl
  go_wp2_with fail
  go_at_call 68
  refine (numC w1.heap.size _ (parA p true 10) 14 p.a7 _ K10.out.own K10.out.bel.size (by have := H0.out.2.2.2.2.2.2.1 10 (by decide); omega) (by decide) (by decide) (by have := HQ.out.2.2.2.2.2.2.2.1; omega) (by have := HQ.out.2.2.2.2.2.2.2.1; omega)).mono ?_
  rintro e w12 ⟨r12, rfl, o12, g12⟩
  have el10 : (parL p true).getD 10 [] = entB 14 (putv p.a7) := rfl
  have K11 : Hid (OutK w1 w12 r12 p true 11) := K10.out.step (by decide) (by rw [el10]; exact o12) g12
  clear gx10 c10_7 el10 o12 g12
  have gx11 : w12.heap[w.heap.size]? = some (.cells #[.int .i64 p.a0, .int .i64 p.a1, .int .i64 p.a2, .int .i64 p.a3, .int .i64 p.a4, .int .i64 p.a5, .int .i64 p.a6, .int .i64 p.a7, .int .i64 p.a8, .bool p.m, .slice d2 p.o.length p2, .slice d3 p.t.length p3, .slice d4 p.f.length p4] 35 (0, 0)) := (K11.out.bel.block w.heap.size hz1).trans HB.out.2.2
  have c11_12 : w12.cell? ⟨w.heap.size, 12, none⟩ = some (.slice d4 p.f.length p4) := by rw [bk_cell gx11]; rfl
  go_wp2_with fail
  go_at_call 67
  refine (entC w1.heap.size _ _ (parA p true 11) p.f 15 _ K11.out.own ((H0.out.2.2.2.2.2.1.below HB.out.1).below K11.out.bel) (fun hx k h h2 => by have := own_of_row H0.out.2.2.2.2.2.1 hx h; have := (K11.out.own.lt k h2).1; omega) (fun hx k h => by have := own_of_row H0.out.2.2.2.2.2.1 hx h; have := K11.out.bel.size; omega) K11.out.bel.size (by have := H0.out.2.2.2.2.2.2.1 11 (by decide); omega) (by have := H0.out.2.2.2.2.2.2.2.1.2.2; omega) (by decide) (by decide)).mono ?_
  rintro e w13 ⟨r13, rfl, o13, g13⟩
  have el11 : (parL p true).getD 11 [] = entB 15 p.f := rfl
  have K12 : Hid (OutK w1 w13 r13 p true 12) := K11.out.step (by decide) (by rw [el11]; exact o13) g13
  clear gx11 c11_12 el11 o13 g13
  have gx12 : w13.heap[w.heap.size]? = some (.cells #[.int .i64 p.a0, .int .i64 p.a1, .int .i64 p.a2, .int .i64 p.a3, .int .i64 p.a4, .int .i64 p.a5, .int .i64 p.a6, .int .i64 p.a7, .int .i64 p.a8, .bool p.m, .slice d2 p.o.length p2, .slice d3 p.t.length p3, .slice d4 p.f.length p4] 35 (0, 0)) := (K12.out.bel.block w.heap.size hz1).trans HB.out.2.2
  have c12_8 : w13.cell? ⟨w.heap.size, 8, none⟩ = some (.int .i64 p.a8) := by rw [bk_cell gx12]; rfl
  go_wp2_with fail
  go_at_call 68
  refine (numC w1.heap.size _ (parA p true 12) 32 p.a8 _ K12.out.own K12.out.bel.size (by have := H0.out.2.2.2.2.2.2.1 12 (by decide); omega) (by decide) (by decide) (by have := HQ.out.2.2.2.2.2.2.2.2; omega) (by have := HQ.out.2.2.2.2.2.2.2.2; omega)).mono ?_
  rintro e w14 ⟨r14, rfl, o14, g14⟩
  have el12 : (parL p true).getD 12 [] = entB 32 (putv p.a8) := rfl
  have K13 : Hid (OutK w1 w14 r14 p true 13) := K12.out.step (by decide) (by rw [el12]; exact o14) g14
  clear gx12 c12_8 el12 o14 g14
  go_wp2
  go_ret2
  refine ⟨_, rfl, ?_, HB.out.1.trans (K13.out.bel.mono HB.out.1.size)⟩
  have := owns_mono K13.out.own (base' := w.heap.size) HB.out.1.size
  rw [parA_13] at this
  exact this
end Go.Proofs.YteggfkekgdlecaaGreatDoor

namespace Go.Proofs.YteggfkekgdlecaaGreatDoor
open Go.RowKit
set_option linter.unusedVariables false

theorem pbS_ok (v : Value) (p : PP) (s : Bool) (w : World) (hr : PPRow w v p) (hs : p.small 9223372036854775807) (hyes : pok p s = true) :
    Calls Tryz.prog 48 #[v, .bool s] w fun e w' => ∃ r, e = .returned (.tuple #[r, .int .i64 0]) ∧ w'.ownsRow w.heap.size 5 1 r (parB p s).length ((parB p s).map (Value.int .u8)) ∧ Below w.heap.size w w' := by
  cases s <;> by_cases ht : 0 < p.t.length <;> cases hm : p.m
  · exact pbS_010 v p w hr hs hyes ht hm
  · exact pbS_011 v p w hr hs hyes ht hm
  · exact pbS_000 v p w hr hs hyes (by omega) hm
  · exact pbS_001 v p w hr hs hyes (by omega) hm
  · exact pbS_110 v p w hr hs hyes ht hm
  · exact pbS_111 v p w hr hs hyes ht hm
  · exact pbS_100 v p w hr hs hyes (by omega) hm
  · exact pbS_101 v p w hr hs hyes (by omega) hm
end Go.Proofs.YteggfkekgdlecaaGreatDoor
