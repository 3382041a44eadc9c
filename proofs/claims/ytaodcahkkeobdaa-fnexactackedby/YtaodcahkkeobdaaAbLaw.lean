import Derived.Test.YtaodcahkkeobdaaFrmO
import Derived.Test.YtaodcahkkeobdaaEqInts
import Derived.Test.YtaodcahkkeobdaaMarkInts
import Derived.Test.YtaodcahkkeobdaaToInts
import Derived.Deep.RegionWith
import Derived.Deep.CutRange
namespace Go.Proofs.Ytaodcahkkeobdaa
open Go.RowKit
set_option linter.unusedVariables false

theorem FOwns.partsX {w : World} {base : Nat} {v : Value} {h : F8} (k : FOwns w base v h) : ∃ (a2 a3 a4 : Option Addr) (p2 p3 p4 : Nat), v = .agg #[.int .i64 h.k, .int .i64 h.a, .int .i64 h.b, .int .i64 h.c, .bool h.fin, .slice a2 h.d.length p2, .slice a3 h.t.length p3, .slice a4 h.r.length p4] := by
  obtain ⟨a2, a3, a4, p2, p3, p4, e, _⟩ := k.row.parts
  exact ⟨a2, a3, a4, p2, p3, p4, e⟩
set_option maxRecDepth 20000 in
set_option maxHeartbeats 1000000 in
theorem ab_huge (a2 a3 a4 : Option Addr) (ap2 ap3 ap4 : Nat) (k0 : F8) (ao : Option Addr) (m cp : Nat) (w : World) (h : 1048576 < m) (hm : m ≤ 9223372036854775807) :
    Calls Try.prog 4 #[.agg #[.int .i64 k0.k, .int .i64 k0.a, .int .i64 k0.b, .int .i64 k0.c, .bool k0.fin, .slice a2 k0.d.length ap2, .slice a3 k0.t.length ap3, .slice a4 k0.r.length ap4], .slice ao m cp] w fun e w' => e = .returned (.bool true) ∧ Below w.heap.size w w' := by
  have hd : (1048576 : Int) < (m : Int) := by omega
  go_enter Try.func4, Try.ntmps4
  go_wp2
  go_ret
  exact ⟨rfl, (Below.refl _ _).alloc (Nat.le_refl _) _⟩
set_option maxRecDepth 20000 in
set_option maxHeartbeats 1000000 in
theorem ab_hugeF (v : Value) (k0 : F8) (sm : k0.small 9223372036854775807) (ao : Option Addr) (m cp : Nat) (w : World) (row : FRow w v k0) (h : m ≤ 1048576) (hf : 1048576 < k0.total) :
    Calls Try.prog 4 #[v, .slice ao m cp] w fun e w' => e = .returned (.bool true) ∧ Below w.heap.size w w' := by
  have B0 : ∀ ob : Obj, Below w.heap.size w (w.alloc ob) := fun ob => (Below.refl _ _).alloc (Nat.le_refl _) ob
  have HH : Hid _ := And.intro row (And.intro sm (And.intro hf B0))
  clear row sm hf B0
  obtain ⟨a2, a3, a4, ap2, ap3, ap4, ev, _, _, _⟩ := HH.out.1.parts
  subst ev
  have hd : decide ((1048576 : Int) < (m : Int)) = false := decide_eq_false (by omega)
  go_enter Try.func4, Try.ntmps4
  go_wp2_with fail
  go_at_call 14
  refine (fsz_over _ k0 1048576 _ (HH.out.1.below (HH.out.2.2.2 _)) HH.out.2.1 (by decide) (by decide) HH.out.2.2.1).mono ?_
  rintro e w1 ⟨rfl, b1⟩
  go_wp2
  go_ret
  exact ⟨rfl, (HH.out.2.2.2 _).trans (b1.mono (HH.out.2.2.2 _).size)⟩
set_option maxRecDepth 20000 in
set_option maxHeartbeats 8000000 in
theorem abLaw (v0 : Value) (k0 : F8) (v1 : Value) (xs ys : List Int) (cd : Int) (w : World) (row : FRow w v0 k0) (rx : Row w .i64 v1 xs) (hx : xs.length ≤ 1048576) (hf : k0.total ≤ 1048576) (hy : ys.length ≤ 1048576) (hS : ∀ v u w, FRow w v k0 → Row w .i64 u xs → Calls Try.prog 15 #[v, u] w fun e w' => ∃ r, e = .returned (.tuple #[r, .int .i64 cd]) ∧ w'.ownsRow w.heap.size 3 1 r ys.length (ys.map (Value.int .i64)) ∧ Below w.heap.size w w') (hI : ∀ v u w, FRow w v k0 → Row w .i64 u xs → Calls Try.prog 18 #[v, u] w fun e w' => ∃ r, e = .returned (.tuple #[r, .int .i64 cd]) ∧ w'.ownsRow w.heap.size 3 1 r ys.length (ys.map (Value.int .i64)) ∧ Below w.heap.size w w') :
    Calls Try.prog 4 #[v0, v1] w fun e w' => e = .returned (.bool true) ∧ Below w.heap.size w w' := by
  have sk : k0.small 1048576 := by unfold F8.total at hf; exact ⟨by omega, by omega, by omega⟩
  have hcc : (cd != cd) = false := by simp
  obtain ⟨K, eK⟩ : ∃ K : Int, K = 1 + (k0.d.length : Int) + (k0.t.length : Int) + 2 * (k0.r.length : Int) := ⟨_, rfl⟩
  have hK0 : 0 ≤ K ∧ K ≤ 4194305 := by have h1 := sk.1; have h2 := sk.2.1; have h3 := sk.2.2; omega
  obtain ⟨K2, eK2⟩ : ∃ K2 : Int, K2 = K + (xs.length : Int) := ⟨_, rfl⟩
  obtain ⟨M, eM⟩ : ∃ M : Int, M = 1 + (ys.length : Int) := ⟨_, rfl⟩
  have hK2 : ¬ (K2 < 0) := by omega
  have hM : ¬ (M < 0) := by omega
  have hMM : (M != M) = false := by simp
  have hl : ¬ (1048576 - k0.total < 0) := by omega
  have B0 : ∀ ob : Obj, Below w.heap.size w (w.alloc ob) := fun ob => (Below.refl _ _).alloc (Nat.le_refl _) ob
  obtain ⟨ao, cp, ev1⟩ := rx.form
  obtain ⟨m, em⟩ : ∃ m, m = xs.length := ⟨_, rfl⟩
  have hd : decide ((1048576 : Int) < (m : Int)) = false := decide_eq_false (by omega)
  obtain ⟨lt, elt⟩ : ∃ lt, lt = 1048576 - k0.total := ⟨_, rfl⟩
  rw [← elt] at hl
  have HH : Hid _ := And.intro row (And.intro rx (And.intro sk (And.intro hS (And.intro hI (And.intro B0 (And.intro hf elt))))))
  have EK : Hid _ := And.intro eK (And.intro eK2 (And.intro eM (And.intro hK0 (And.intro hx (And.intro hy (And.intro em ev1))))))
  rw [ev1, ← em]
  obtain ⟨a2, a3, a4, ap2, ap3, ap4, ev, _, _, _⟩ := row.parts
  rw [ev] at HH ⊢
  clear row rx sk hS hI B0 hf elt eK eK2 eM hK0 hx hy em ev ev1
  have K0 := heap_alloc_new w (.cells #[.int .i64 k0.k, .int .i64 k0.a, .int .i64 k0.b, .int .i64 k0.c, .bool k0.fin, .slice a2 k0.d.length ap2, .slice a3 k0.t.length ap3, .slice a4 k0.r.length ap4] 37)
  have L0 : w.heap.size < (w.alloc (.cells #[.int .i64 k0.k, .int .i64 k0.a, .int .i64 k0.b, .int .i64 k0.c, .bool k0.fin, .slice a2 k0.d.length ap2, .slice a3 k0.t.length ap3, .slice a4 k0.r.length ap4] 37)).heap.size := by simp
  have Q0 : Hid _ := And.intro K0 L0
  clear K0 L0
  go_enter Try.func4, Try.ntmps4
  go_wp2_with fail
  go_at_call 14
  refine (fsz_fit _ k0 1048576 _ (HH.out.1.below (HH.out.2.2.2.2.2.1 _)) (by decide) (by decide) HH.out.2.2.2.2.2.2.1).mono ?_
  rintro e w1 ⟨rfl, b1⟩
  have B1 := (HH.out.2.2.2.2.2.1 (.cells #[.int .i64 k0.k, .int .i64 k0.a, .int .i64 k0.b, .int .i64 k0.c, .bool k0.fin, .slice a2 k0.d.length ap2, .slice a3 k0.t.length ap3, .slice a4 k0.r.length ap4] 37)).trans (b1.mono (HH.out.2.2.2.2.2.1 (.cells #[.int .i64 k0.k, .int .i64 k0.a, .int .i64 k0.b, .int .i64 k0.c, .bool k0.fin, .slice a2 k0.d.length ap2, .slice a3 k0.t.length ap3, .slice a4 k0.r.length ap4] 37)).size)
  have K1 := (b1.block w.heap.size Q0.out.2).trans Q0.out.1
  have c_0 : w1.cell? ⟨w.heap.size, 0, none⟩ = some (.int .i64 k0.k) := bk_cell K1 0
  have c_1 : w1.cell? ⟨w.heap.size, 1, none⟩ = some (.int .i64 k0.a) := bk_cell K1 1
  have c_2 : w1.cell? ⟨w.heap.size, 2, none⟩ = some (.int .i64 k0.b) := bk_cell K1 2
  have c_3 : w1.cell? ⟨w.heap.size, 3, none⟩ = some (.int .i64 k0.c) := bk_cell K1 3
  have c_4 : w1.cell? ⟨w.heap.size, 4, none⟩ = some (.bool k0.fin) := bk_cell K1 4
  have c_5 : w1.cell? ⟨w.heap.size, 5, none⟩ = some (.slice a2 k0.d.length ap2) := bk_cell K1 5
  have c_6 : w1.cell? ⟨w.heap.size, 6, none⟩ = some (.slice a3 k0.t.length ap3) := bk_cell K1 6
  have c_7 : w1.cell? ⟨w.heap.size, 7, none⟩ = some (.slice a4 k0.r.length ap4) := bk_cell K1 7
  have H1 : Hid _ := And.intro B1 K1
  clear b1 B1 K1
  rw [← HH.out.2.2.2.2.2.2.2]
  go_wp2_with fail
  go_at_call 16
  refine (toFrm _ k0 w1 (HH.out.1.below H1.out.1) HH.out.2.2.1).mono ?_
  rintro e w2 ⟨r1, rfl, f2, b2⟩
  have B2 := H1.out.1.trans (b2.mono H1.out.1.size)
  have H2 : Hid _ := And.intro B2 (And.intro f2 ((b2.block w.heap.size (Array.getElem?_eq_some_iff.1 H1.out.2).1).trans H1.out.2))
  clear c_0 c_1 c_2 c_3 c_4 c_5 c_6 c_7
  clear b2 f2 B2
  go_wp2_with fail
  go_at_call 17
  have TI3 := toInts v1 xs w2 (HH.out.2.1.below H2.out.1) (Nat.le_trans EK.out.2.2.2.2.1 (by decide))
  rw [EK.out.2.2.2.2.2.2.2, ← EK.out.2.2.2.2.2.2.1] at TI3
  refine TI3.mono ?_
  clear TI3
  rintro e w3 ⟨r2, rfl, o3, b3⟩
  rw [EK.out.2.2.2.2.2.2.1] at o3
  have B3 := H2.out.1.trans (b3.mono H2.out.1.size)
  have H3 : Hid _ := And.intro B3 (And.intro (H2.out.2.1.below b3) (And.intro (row_of_owns o3) ((b3.block w.heap.size (Array.getElem?_eq_some_iff.1 H2.out.2.2).1).trans H2.out.2.2)))
  clear b3 o3 B3
  go_wp2_with fail
  go_at_call 15
  refine (HH.out.2.2.2.1 _ _ w3 H3.out.2.1 H3.out.2.2.1).mono ?_
  rintro e w4 ⟨rS, rfl, oS, b4⟩
  have B4 := H3.out.1.trans (b4.mono H3.out.1.size)
  have K4 := (b4.block w.heap.size (Array.getElem?_eq_some_iff.1 H3.out.2.2.2).1).trans H3.out.2.2.2
  have d_0 : w4.cell? ⟨w.heap.size, 0, none⟩ = some (.int .i64 k0.k) := bk_cell K4 0
  have d_1 : w4.cell? ⟨w.heap.size, 1, none⟩ = some (.int .i64 k0.a) := bk_cell K4 1
  have d_2 : w4.cell? ⟨w.heap.size, 2, none⟩ = some (.int .i64 k0.b) := bk_cell K4 2
  have d_3 : w4.cell? ⟨w.heap.size, 3, none⟩ = some (.int .i64 k0.c) := bk_cell K4 3
  have d_4 : w4.cell? ⟨w.heap.size, 4, none⟩ = some (.bool k0.fin) := bk_cell K4 4
  have d_5 : w4.cell? ⟨w.heap.size, 5, none⟩ = some (.slice a2 k0.d.length ap2) := bk_cell K4 5
  have d_6 : w4.cell? ⟨w.heap.size, 6, none⟩ = some (.slice a3 k0.t.length ap3) := bk_cell K4 6
  have d_7 : w4.cell? ⟨w.heap.size, 7, none⟩ = some (.slice a4 k0.r.length ap4) := bk_cell K4 7
  have H4 : Hid _ := And.intro B4 (And.intro (row_of_owns oS) K4)
  clear b4 oS B4 K4
  go_wp2_with fail
  go_at_call 16
  refine (toFrmO _ k0 w4 (HH.out.1.below H4.out.1) HH.out.2.2.1).mono ?_
  rintro e w5 ⟨x0, rfl, f5, b5⟩
  obtain ⟨x2, x3, x4, xp2, xp3, xp4, eX⟩ := f5.partsX
  subst eX
  have A5 : Below w5.heap.size w5 (w5.alloc (.cells #[.int .i64 k0.k, .int .i64 k0.a, .int .i64 k0.b, .int .i64 k0.c, .bool k0.fin, .slice x2 k0.d.length xp2, .slice x3 k0.t.length xp3, .slice x4 k0.r.length xp4] 27)) := (Below.refl _ _).alloc (Nat.le_refl _) _
  have c5 := b5.trans (A5.mono b5.size)
  have K5 := heap_alloc_new w5 (.cells #[.int .i64 k0.k, .int .i64 k0.a, .int .i64 k0.b, .int .i64 k0.c, .bool k0.fin, .slice x2 k0.d.length xp2, .slice x3 k0.t.length xp3, .slice x4 k0.r.length xp4] 27)
  have H5 : Hid _ := And.intro c5 (And.intro (f5.below A5) (And.intro K5 (And.intro f5.fbelow (And.intro b5.size (show w5.heap.size < (w5.alloc (.cells #[.int .i64 k0.k, .int .i64 k0.a, .int .i64 k0.b, .int .i64 k0.c, .bool k0.fin, .slice x2 k0.d.length xp2, .slice x3 k0.t.length xp3, .slice x4 k0.r.length xp4] 27)).heap.size by simp)))))
  clear d_0 d_1 d_2 d_3 d_4 d_5 d_6 d_7
  clear f5 b5 A5 c5 K5
  go_wp2_with fail
  go_at_call 17
  have TI6 := toInts v1 xs (w5.alloc (.cells #[.int .i64 k0.k, .int .i64 k0.a, .int .i64 k0.b, .int .i64 k0.c, .bool k0.fin, .slice x2 k0.d.length xp2, .slice x3 k0.t.length xp3, .slice x4 k0.r.length xp4] 27)) (HH.out.2.1.below (H4.out.1.trans (H5.out.1.mono H4.out.1.size))) (Nat.le_trans EK.out.2.2.2.2.1 (by decide))
  rw [EK.out.2.2.2.2.2.2.2, ← EK.out.2.2.2.2.2.2.1] at TI6
  refine TI6.mono ?_
  clear TI6
  rintro e w6 ⟨x1, rfl, o6, b6⟩
  rw [EK.out.2.2.2.2.2.2.1] at o6
  have c6 := H5.out.1.trans (b6.mono H5.out.1.size)
  have K6 := (b6.block w5.heap.size H5.out.2.2.2.2.2).trans H5.out.2.2.1
  have e_0 : w6.cell? ⟨w5.heap.size, 0, none⟩ = some (.int .i64 k0.k) := bk_cell K6 0
  have e_1 : w6.cell? ⟨w5.heap.size, 1, none⟩ = some (.int .i64 k0.a) := bk_cell K6 1
  have e_2 : w6.cell? ⟨w5.heap.size, 2, none⟩ = some (.int .i64 k0.b) := bk_cell K6 2
  have e_3 : w6.cell? ⟨w5.heap.size, 3, none⟩ = some (.int .i64 k0.c) := bk_cell K6 3
  have e_4 : w6.cell? ⟨w5.heap.size, 4, none⟩ = some (.bool k0.fin) := bk_cell K6 4
  have e_5 : w6.cell? ⟨w5.heap.size, 5, none⟩ = some (.slice x2 k0.d.length xp2) := bk_cell K6 5
  have e_6 : w6.cell? ⟨w5.heap.size, 6, none⟩ = some (.slice x3 k0.t.length xp3) := bk_cell K6 6
  have e_7 : w6.cell? ⟨w5.heap.size, 7, none⟩ = some (.slice x4 k0.r.length xp4) := bk_cell K6 7
  have H6 : Hid _ := And.intro c6 (And.intro (H5.out.2.1.below b6) (And.intro o6 (And.intro K6 b6.size)))
  clear b6 o6 c6 K6
  go_wp2_with fail
  go_at_call 18
  refine (HH.out.2.2.2.2.1 _ _ w6 H6.out.2.1.row (row_of_owns H6.out.2.2.1)).mono ?_
  rintro e w7 ⟨g0, rfl, o7, b7⟩
  have c7 := H6.out.1.trans (b7.mono H6.out.1.size)
  have K7 := (b7.block w5.heap.size (Array.getElem?_eq_some_iff.1 H6.out.2.2.2.1).1).trans H6.out.2.2.2.1
  have H7 : Hid _ := And.intro c7 (And.intro (H6.out.2.1.below b7) (And.intro (owns_below H6.out.2.2.1 b7) (And.intro o7 (And.intro K7 b7))))
  clear e_0 e_1 e_2 e_3 e_4 e_5 e_6 e_7
  clear b7 o7 c7 K7
  go_wp2_with fail
  go_at_call 19
  refine (eqInts_same _ _ ys w7 (row_of_owns H7.out.2.2.2.1) (H4.out.2.1.below H7.out.1) (Nat.le_trans EK.out.2.2.2.2.2.1 (by decide))).mono ?_
  rintro e w8 ⟨rfl, m8, hw8⟩
  have b8 : Below w7.heap.size w7 w8 := by rw [hw8]; exact below_drewN (Below.refl _ _) m8
  clear hw8
  have c8 := H7.out.1.trans (b8.mono H7.out.1.size)
  have K8 := (b8.block w5.heap.size (Array.getElem?_eq_some_iff.1 H7.out.2.2.2.2.1).1).trans H7.out.2.2.2.2.1
  have J8 := (c8.block w.heap.size (Array.getElem?_eq_some_iff.1 H4.out.2.2).1).trans H4.out.2.2
  have H8 : Hid _ := And.intro c8 (And.intro (H7.out.2.1.below b8) (And.intro (owns_below H7.out.2.2.1 b8) (And.intro (owns_below H7.out.2.2.2.1 b8) (And.intro K8 (And.intro J8 (H7.out.2.2.2.2.2.trans (b8.mono H7.out.2.2.2.2.2.size)))))))
  have D : Hid (Below w8.heap.size w8 w8.drew) := (Below.refl _ _).drew
  have K8d : w8.drew.heap[w5.heap.size]? = some (.cells #[.int .i64 k0.k, .int .i64 k0.a, .int .i64 k0.b, .int .i64 k0.c, .bool k0.fin, .slice x2 k0.d.length xp2, .slice x3 k0.t.length xp3, .slice x4 k0.r.length xp4] 27 (0, 0)) := K8
  have J8d : w8.drew.heap[w.heap.size]? = some (.cells #[.int .i64 k0.k, .int .i64 k0.a, .int .i64 k0.b, .int .i64 k0.c, .bool k0.fin, .slice a2 k0.d.length ap2, .slice a3 k0.t.length ap3, .slice a4 k0.r.length ap4] 37 (0, 0)) := J8
  have g8l : w5.heap.size < w8.drew.heap.size := (Array.getElem?_eq_some_iff.1 K8d).1
  have y_0 : w8.drew.cell? ⟨w5.heap.size, 0, none⟩ = some (.int .i64 k0.k) := bk_cell K8d 0
  have y_1 : w8.drew.cell? ⟨w5.heap.size, 1, none⟩ = some (.int .i64 k0.a) := bk_cell K8d 1
  have y_2 : w8.drew.cell? ⟨w5.heap.size, 2, none⟩ = some (.int .i64 k0.b) := bk_cell K8d 2
  have y_3 : w8.drew.cell? ⟨w5.heap.size, 3, none⟩ = some (.int .i64 k0.c) := bk_cell K8d 3
  have y_4 : w8.drew.cell? ⟨w5.heap.size, 4, none⟩ = some (.bool k0.fin) := bk_cell K8d 4
  have y_5 : w8.drew.cell? ⟨w5.heap.size, 5, none⟩ = some (.slice x2 k0.d.length xp2) := bk_cell K8d 5
  have y_6 : w8.drew.cell? ⟨w5.heap.size, 6, none⟩ = some (.slice x3 k0.t.length xp3) := bk_cell K8d 6
  have y_7 : w8.drew.cell? ⟨w5.heap.size, 7, none⟩ = some (.slice x4 k0.r.length xp4) := bk_cell K8d 7
  have z_0 : w8.drew.cell? ⟨w.heap.size, 0, none⟩ = some (.int .i64 k0.k) := bk_cell J8d 0
  have z_1 : w8.drew.cell? ⟨w.heap.size, 1, none⟩ = some (.int .i64 k0.a) := bk_cell J8d 1
  have z_2 : w8.drew.cell? ⟨w.heap.size, 2, none⟩ = some (.int .i64 k0.b) := bk_cell J8d 2
  have z_3 : w8.drew.cell? ⟨w.heap.size, 3, none⟩ = some (.int .i64 k0.c) := bk_cell J8d 3
  have z_4 : w8.drew.cell? ⟨w.heap.size, 4, none⟩ = some (.bool k0.fin) := bk_cell J8d 4
  have z_5 : w8.drew.cell? ⟨w.heap.size, 5, none⟩ = some (.slice a2 k0.d.length ap2) := bk_cell J8d 5
  have z_6 : w8.drew.cell? ⟨w.heap.size, 6, none⟩ = some (.slice a3 k0.t.length ap3) := bk_cell J8d 6
  have z_7 : w8.drew.cell? ⟨w.heap.size, 7, none⟩ = some (.slice a4 k0.r.length ap4) := bk_cell J8d 7
  have FA : Hid _ := And.intro (HH.out.1.below (H4.out.1.trans ((c8.trans (D.out.mono c8.size)).mono H4.out.1.size))) (H8.out.2.1.below D.out).row
  clear b8 c8 K8 J8 K8d J8d
  go_upto_region 13 with fail
  go_cut [56] from 52 to 56 (fun cv wx => cv = .bool false ∧ Below w8.heap.size w8 wx)
  case first =>
    go_region_with (first
      | (go_at_call 16; refine (toFrm _ k0 w8.drew FA.out.1 HH.out.2.2.1).mono ?_; rintro e wy ⟨ry, rfl, oy, by'⟩; have q0 : wy.cell? ⟨w5.heap.size, 0, none⟩ = some (.int .i64 k0.k) := (by'.cell (p := ⟨w5.heap.size, 0, none⟩) g8l).trans y_0; have q1 : wy.cell? ⟨w5.heap.size, 1, none⟩ = some (.int .i64 k0.a) := (by'.cell (p := ⟨w5.heap.size, 1, none⟩) g8l).trans y_1; have q2 : wy.cell? ⟨w5.heap.size, 2, none⟩ = some (.int .i64 k0.b) := (by'.cell (p := ⟨w5.heap.size, 2, none⟩) g8l).trans y_2; have q3 : wy.cell? ⟨w5.heap.size, 3, none⟩ = some (.int .i64 k0.c) := (by'.cell (p := ⟨w5.heap.size, 3, none⟩) g8l).trans y_3; have q4 : wy.cell? ⟨w5.heap.size, 4, none⟩ = some (.bool k0.fin) := (by'.cell (p := ⟨w5.heap.size, 4, none⟩) g8l).trans y_4; have q5 : wy.cell? ⟨w5.heap.size, 5, none⟩ = some (.slice x2 k0.d.length xp2) := (by'.cell (p := ⟨w5.heap.size, 5, none⟩) g8l).trans y_5; have q6 : wy.cell? ⟨w5.heap.size, 6, none⟩ = some (.slice x3 k0.t.length xp3) := (by'.cell (p := ⟨w5.heap.size, 6, none⟩) g8l).trans y_6; have q7 : wy.cell? ⟨w5.heap.size, 7, none⟩ = some (.slice x4 k0.r.length xp4) := (by'.cell (p := ⟨w5.heap.size, 7, none⟩) g8l).trans y_7)
      | (go_at_call 9; refine (eqFrm_same _ _ k0 wy (FA.out.2.below by') oy HH.out.2.2.1).mono ?_; rintro e wz ⟨rfl, bz⟩))
    all_goals (go_wp2_with fail; go_meet; exact ⟨rfl, D.out.trans ((by'.trans (bz.mono by'.size)).mono D.out.size)⟩)
  case rest =>
  obtain ⟨rfl, b9⟩ := hcut
  have c9 := H8.out.1.trans (b9.mono H8.out.1.size)
  have K9 := (b9.block w5.heap.size (Array.getElem?_eq_some_iff.1 H8.out.2.2.2.2.1).1).trans H8.out.2.2.2.2.1
  have e9 := H8.out.2.2.2.2.2.2.trans (b9.mono H8.out.2.2.2.2.2.2.size)
  have H9 : Hid _ := And.intro c9 (And.intro (H8.out.2.1.below b9) (And.intro (owns_below H8.out.2.2.1 b9) (And.intro (owns_below H8.out.2.2.2.1 b9) (And.intro K9 e9))))
  clear b9 c9 K9 e9
  clear y_0 y_1 y_2 y_3 y_4 y_5 y_6 y_7
  clear z_0 z_1 z_2 z_3 z_4 z_5 z_6 z_7
  go_wp2_with fail
  go_at_call 17
  have TI10 := toInts v1 xs wc (HH.out.2.1.below (H4.out.1.trans (H9.out.1.mono H4.out.1.size))) (Nat.le_trans EK.out.2.2.2.2.1 (by decide))
  rw [EK.out.2.2.2.2.2.2.2, ← EK.out.2.2.2.2.2.2.1] at TI10
  refine TI10.mono ?_
  clear TI10
  rintro e w10 ⟨r10, rfl, o10, b10⟩
  rw [EK.out.2.2.2.2.2.2.1] at o10
  have c10 := H9.out.1.trans (b10.mono H9.out.1.size)
  have K10 := (b10.block w5.heap.size (Array.getElem?_eq_some_iff.1 H9.out.2.2.2.2.1).1).trans H9.out.2.2.2.2.1
  have H10 : Hid _ := And.intro c10 (And.intro (H9.out.2.1.below b10) (And.intro (owns_below H9.out.2.2.1 b10) (And.intro (owns_below H9.out.2.2.2.1 b10) (And.intro K10 (And.intro (H9.out.2.2.2.2.2.trans (b10.mono H9.out.2.2.2.2.2.size)) (row_of_owns o10))))))
  clear b10 c10 K10 o10
  go_wp2_with fail
  go_at_call 19
  refine (eqInts_same _ _ xs w10 (row_of_owns H10.out.2.2.1) H10.out.2.2.2.2.2.2 (Nat.le_trans EK.out.2.2.2.2.1 (by decide))).mono ?_
  rintro e w11 ⟨rfl, m11, hw11⟩
  have b11 : Below w10.heap.size w10 w11 := by rw [hw11]; exact below_drewN (Below.refl _ _) m11
  clear hw11
  have c11 := H10.out.1.trans (b11.mono H10.out.1.size)
  have K11 := (b11.block w5.heap.size (Array.getElem?_eq_some_iff.1 H10.out.2.2.2.2.1).1).trans H10.out.2.2.2.2.1
  have H11 : Hid _ := And.intro c11 (And.intro (H10.out.2.1.below b11) (And.intro (owns_below H10.out.2.2.1 b11) (And.intro (owns_below H10.out.2.2.2.1 b11) (And.intro K11 (H10.out.2.2.2.2.2.1.trans (b11.mono H10.out.2.2.2.2.2.1.size))))))
  have p_0 : w11.cell? ⟨w5.heap.size, 0, none⟩ = some (.int .i64 k0.k) := bk_cell K11 0
  have p_1 : w11.cell? ⟨w5.heap.size, 1, none⟩ = some (.int .i64 k0.a) := bk_cell K11 1
  have p_2 : w11.cell? ⟨w5.heap.size, 2, none⟩ = some (.int .i64 k0.b) := bk_cell K11 2
  have p_3 : w11.cell? ⟨w5.heap.size, 3, none⟩ = some (.int .i64 k0.c) := bk_cell K11 3
  have p_4 : w11.cell? ⟨w5.heap.size, 4, none⟩ = some (.bool k0.fin) := bk_cell K11 4
  have p_5 : w11.cell? ⟨w5.heap.size, 5, none⟩ = some (.slice x2 k0.d.length xp2) := bk_cell K11 5
  have p_6 : w11.cell? ⟨w5.heap.size, 6, none⟩ = some (.slice x3 k0.t.length xp3) := bk_cell K11 6
  have p_7 : w11.cell? ⟨w5.heap.size, 7, none⟩ = some (.slice x4 k0.r.length xp4) := bk_cell K11 7
  clear b11 c11 K11
  go_wp2_with fail
  go_at_call 12
  refine (markFrm 1 w4.heap.size w5.heap.size _ k0 w11 HH.out.2.2.1 (by decide) (by decide) H11.out.2.1 H5.out.2.2.2.1 H11.out.1.size).mono ?_
  rintro e w12 ⟨rfl, f12, b12, n12, z12⟩
  have s5 : w5.heap.size ≤ (w5.alloc (.cells #[.int .i64 k0.k, .int .i64 k0.a, .int .i64 k0.b, .int .i64 k0.c, .bool k0.fin, .slice x2 k0.d.length xp2, .slice x3 k0.t.length xp3, .slice x4 k0.r.length xp4] 27)).heap.size := Nat.le_of_lt H5.out.2.2.2.2.2
  have s6 : (w5.alloc (.cells #[.int .i64 k0.k, .int .i64 k0.a, .int .i64 k0.b, .int .i64 k0.c, .bool k0.fin, .slice x2 k0.d.length xp2, .slice x3 k0.t.length xp3, .slice x4 k0.r.length xp4] 27)).heap.size ≤ w6.heap.size := H6.out.2.2.2.2
  have H12 : Hid _ := And.intro (H11.out.1.trans b12) (And.intro (owns_high n12 H11.out.2.2.1 s5) (And.intro (owns_high n12 H11.out.2.2.2.1 (Nat.le_trans s5 s6)) (And.intro s5 s6)))
  clear p_0 p_1 p_2 p_3 p_4 p_5 p_6 p_7
  clear b12 f12 n12 z12 s5 s6
  rw [← EK.out.1]
  go_wp2_with fail
  go_at_call 20
  refine (markInts K xs.length (w5.alloc (.cells #[.int .i64 k0.k, .int .i64 k0.a, .int .i64 k0.b, .int .i64 k0.c, .bool k0.fin, .slice x2 k0.d.length xp2, .slice x3 k0.t.length xp3, .slice x4 k0.r.length xp4] 27)).heap.size _ xs w12 (Nat.le_trans EK.out.2.2.2.2.1 (by decide)) EK.out.2.2.2.1.1 (by have := EK.out.2.2.2.1.2; omega) H12.out.2.1).mono ?_
  rintro e w13 ⟨rfl, o13, b13, z13, n13⟩
  have g13 := n13.owns H12.out.2.2.1 (owns_apart H6.out.2.2.1 H7.out.2.2.2.1 (Nat.le_refl _))
  have H13 : Hid _ := And.intro (H12.out.1.trans (b13.mono (Nat.le_trans H5.out.2.2.2.2.1 H12.out.2.2.2.1))) g13
  clear o13 b13 z13 n13 g13
  rw [← EK.out.2.1]
  go_wp2_with fail
  go_at_call 19
  refine (eqInts_same _ _ ys w13 (row_of_owns H13.out.2) (H4.out.2.1.below H13.out.1) (Nat.le_trans EK.out.2.2.2.2.2.1 (by decide))).mono ?_
  rintro e w14 ⟨rfl, m14, hw14⟩
  have b14 : Below w13.heap.size w13 w14 := by rw [hw14]; exact below_drewN (Below.refl _ _) m14
  clear hw14
  have H14 : Hid _ := And.intro (H13.out.1.trans (b14.mono H13.out.1.size)) (owns_below H13.out.2 b14)
  clear b14
  go_wp2_with fail
  go_at_call 20
  refine (markInts 1 ys.length w6.heap.size _ ys w14 (Nat.le_trans EK.out.2.2.2.2.2.1 (by decide)) (by decide) (by decide) H14.out.2).mono ?_
  rintro e w15 ⟨rfl, o15, b15, z15, n15⟩
  have c15 := H14.out.1.trans (b15.mono (Nat.le_trans H5.out.2.2.2.2.1 (Nat.le_trans H12.out.2.2.2.1 H12.out.2.2.2.2)))
  have J15 := (c15.block w.heap.size (Array.getElem?_eq_some_iff.1 H4.out.2.2).1).trans H4.out.2.2
  have H15 : Hid _ := And.intro c15 (And.intro o15 J15)
  have t_0 : w15.cell? ⟨w.heap.size, 0, none⟩ = some (.int .i64 k0.k) := bk_cell J15 0
  have t_1 : w15.cell? ⟨w.heap.size, 1, none⟩ = some (.int .i64 k0.a) := bk_cell J15 1
  have t_2 : w15.cell? ⟨w.heap.size, 2, none⟩ = some (.int .i64 k0.b) := bk_cell J15 2
  have t_3 : w15.cell? ⟨w.heap.size, 3, none⟩ = some (.int .i64 k0.c) := bk_cell J15 3
  have t_4 : w15.cell? ⟨w.heap.size, 4, none⟩ = some (.bool k0.fin) := bk_cell J15 4
  have t_5 : w15.cell? ⟨w.heap.size, 5, none⟩ = some (.slice a2 k0.d.length ap2) := bk_cell J15 5
  have t_6 : w15.cell? ⟨w.heap.size, 6, none⟩ = some (.slice a3 k0.t.length ap3) := bk_cell J15 6
  have t_7 : w15.cell? ⟨w.heap.size, 7, none⟩ = some (.slice a4 k0.r.length ap4) := bk_cell J15 7
  clear o15 b15 z15 n15 c15 J15
  rw [← EK.out.2.2.1]
  go_wp2_with fail
  go_at_call 21
  refine (heldInts 1 ys.length _ w15 (row_of_owns H15.out.2.1) (Nat.le_trans EK.out.2.2.2.2.2.1 (by decide)) (by decide) (by decide)).mono ?_
  rintro e wh ⟨rfl, hwh⟩
  subst wh
  rw [← EK.out.2.2.1]
  go_wp2_with fail
  go_at_call 16
  refine (toFrm _ k0 w15 (HH.out.1.below (H4.out.1.trans (H15.out.1.mono H4.out.1.size))) HH.out.2.2.1).mono ?_
  rintro e w16 ⟨r16, rfl, f16, b16⟩
  have H16 : Hid _ := And.intro (H15.out.1.trans (b16.mono H15.out.1.size)) (And.intro f16 (owns_below H15.out.2.1 b16))
  clear t_0 t_1 t_2 t_3 t_4 t_5 t_6 t_7
  clear f16 b16
  go_wp2_with fail
  go_at_call 17
  have TI17 := toInts v1 xs w16 (HH.out.2.1.below (H4.out.1.trans (H16.out.1.mono H4.out.1.size))) (Nat.le_trans EK.out.2.2.2.2.1 (by decide))
  rw [EK.out.2.2.2.2.2.2.2, ← EK.out.2.2.2.2.2.2.1] at TI17
  refine TI17.mono ?_
  clear TI17
  rintro e w17 ⟨r17, rfl, o17, b17⟩
  rw [EK.out.2.2.2.2.2.2.1] at o17
  have H17 : Hid _ := And.intro (H16.out.1.trans (b17.mono H16.out.1.size)) (And.intro (H16.out.2.1.below b17) (And.intro (row_of_owns o17) (owns_below H16.out.2.2 b17)))
  clear o17 b17
  go_wp2_with fail
  go_at_call 18
  refine (HH.out.2.2.2.2.1 _ _ w17 H17.out.2.1 H17.out.2.2.1).mono ?_
  rintro e w18 ⟨h0, rfl, o18, b18⟩
  have H18 : Hid _ := And.intro (H17.out.1.trans (b18.mono H17.out.1.size)) (And.intro (row_of_owns o18) (owns_below H17.out.2.2.2 b18))
  clear o18 b18
  go_wp2_with fail
  go_at_call 19
  refine (eqInts_same _ _ ys w18 H18.out.2.1 (H4.out.2.1.below H18.out.1) (Nat.le_trans EK.out.2.2.2.2.2.1 (by decide))).mono ?_
  rintro e w19 ⟨rfl, m19, hw19⟩
  have b19 : Below w18.heap.size w18 w19 := by rw [hw19]; exact below_drewN (Below.refl _ _) m19
  clear hw19
  have H19 : Hid _ := And.intro (H18.out.1.trans (b19.mono H18.out.1.size)) (row_of_owns (owns_below H18.out.2.2 b19))
  clear b19
  go_wp2_with fail
  go_at_call 21
  refine (heldInts 1 ys.length _ w19 H19.out.2 (Nat.le_trans EK.out.2.2.2.2.2.1 (by decide)) (by decide) (by decide)).mono ?_
  rintro e wh ⟨rfl, hwh⟩
  subst wh
  rw [← EK.out.2.2.1]
  go_wp2
  go_ret
  exact ⟨rfl, H4.out.1.trans (H19.out.1.mono H4.out.1.size)⟩
end Go.Proofs.Ytaodcahkkeobdaa
