import Derived.Test.YtiiefhpkkjocbakDoorRetryB
namespace Go.Proofs.YtiiefhpkkjocbakDoor
open Go.RowKit
set_option linter.unusedVariables false

set_option maxRecDepth 20000 in
set_option maxHeartbeats 4000000 in
theorem retS_core (xv : Int) (a2 a3 a4 ao : Option Addr) (nd ns nt no p2 p3 p4 po : Nat) (xd xs xt o : List Int) (w : World) (r2 : Row w .u8 (.slice a2 nd p2) xd) (r3 : Row w .u8 (.slice a3 ns p3) xs) (r4 : Row w .u8 (.slice a4 nt p4) xt) (ro : Row w .u8 (.slice ao no po) o)
    (ed : xd.length = nd) (es : xs.length = ns) (et : xt.length = nt) (eo : o.length = no) (gv : vok xv) (gd : nd ≤ 8) (gs : ns ≤ 8) (g1 : 1 ≤ nt) (g2 : nt ≤ 64) (go : no ≤ 8) (bo : Bytes o) (bO : Bytes (([240] ++ idsV xv xd xs) ++ xt)) :
    Calls Tryd.prog 16 #[.agg #[.int .i64 3, .int .i64 xv, .slice a2 nd p2, .slice a3 ns p3, .slice a4 nt p4, .int .i64 0, .int .i64 0, .int .i64 0], .slice ao no po] w fun e w' => ∃ r, e = .returned (.tuple #[r, .int .i64 0]) ∧ w'.ownsRow w.heap.size 5 1 r (((([240] ++ idsV xv xd xs) ++ xt) ++ retV o (([240] ++ idsV xv xd xs) ++ xt)).length) (((([240] ++ idsV xv xd xs) ++ xt) ++ retV o (([240] ++ idsV xv xd xs) ++ xt)).map (Value.int .u8)) ∧ Below w.heap.size w w' := by
  have B0 := (Below.refl w.heap.size w).alloc (Nat.le_refl _) (.cells #[.int .i64 3, .int .i64 xv, .slice a2 nd p2, .slice a3 ns p3, .slice a4 nt p4, .int .i64 0, .int .i64 0, .int .i64 0] 36)
  have B1 := B0.alloc B0.size (.cells #[.int .u8 240] 5)
  have es1 : (w.alloc (.cells #[.int .i64 3, .int .i64 xv, .slice a2 nd p2, .slice a3 ns p3, .slice a4 nt p4, .int .i64 0, .int .i64 0, .int .i64 0] 36)).heap.size = w.heap.size + 1 := by simp
  have hbx : ((w.alloc (.cells #[.int .i64 3, .int .i64 xv, .slice a2 nd p2, .slice a3 ns p3, .slice a4 nt p4, .int .i64 0, .int .i64 0, .int .i64 0] 36)).alloc (.cells #[.int .u8 240] 5)).heap[w.heap.size]? = some (.cells #[.int .i64 3, .int .i64 xv, .slice a2 nd p2, .slice a3 ns p3, .slice a4 nt p4, .int .i64 0, .int .i64 0, .int .i64 0] 36 (0, 0)) := (Below.heap_alloc _ _ _ (by rw [es1]; omega)).trans (MapKept.heap_alloc w _).1
  have o1 : ((w.alloc (.cells #[.int .i64 3, .int .i64 xv, .slice a2 nd p2, .slice a3 ns p3, .slice a4 nt p4, .int .i64 0, .int .i64 0, .int .i64 0] 36)).alloc (.cells #[.int .u8 240] 5)).ownsRow w.heap.size 5 1 (.slice (some ⟨(w.alloc (.cells #[.int .i64 3, .int .i64 xv, .slice a2 nd p2, .slice a3 ns p3, .slice a4 nt p4, .int .i64 0, .int .i64 0, .int .i64 0] 36)).heap.size, 0, none⟩) 1 1) 1 (([240] : List Int).map (Value.int .u8)) := World.ownsRow_lit _ #[.int .u8 240] 1 B0.size (by decide) rfl
  rw [es1] at o1
  have hv := gv
  obtain ⟨hv1, hv2⟩ := hv
  have CI := idsC xv a2 a3 nd ns p2 p3 xd xs _ (by omega) (by omega) (r2.below B1) (r3.below B1) ed es gd gs
  have hil : (idsV xv xd xs).length = 6 + nd + ns := by rw [idsV_length]; omega
  have hOl : (([240] ++ idsV xv xd xs) ++ xt).length = 1 + (idsV xv xd xs).length + xt.length := by simp; omega
  have HH : Hid _ := And.intro CI (And.intro o1 (And.intro B1 (And.intro hbx (And.intro (And.intro r4 ro) (And.intro (And.intro et eo) (And.intro hil (And.intro bo (And.intro bO hOl))))))))
  clear CI o1 B1 hbx B0 r2 r3 r4 ro ed es et eo hil bo bO es1 hOl
  go_enter Tryd.func16, Tryd.ntmps16
  go_wp2_with (go_at_call 34; refine (sVok xv _ gv).mono ?_; rintro e w' ⟨rfl, hw⟩; subst w')
  go_at_call 35
  refine HH.out.1.mono ?_
  rintro e w1 ⟨r1, rfl, o1, b1⟩
  have zb : w.heap.size < w1.heap.size := by have h := b1.size; simp at h; omega
  have H1 : Hid _ := And.intro (row_of_owns o1) (And.intro (owns_below HH.out.2.1 b1) (And.intro (HH.out.2.2.1.trans (b1.mono HH.out.2.2.1.size)) ((b1.block w.heap.size (by simp; omega)).trans HH.out.2.2.2.1)))
  clear o1 b1
  go_wp2_with (first
    | (at_builtin; refine wpList_append_row rfl (.tmp 61) (.tmp 68) rfl w.heap.size (.slice (some ⟨w.heap.size + 1, 0, none⟩) 1 1) 1 [240] rfl H1.out.2.1 r1 (idsV xv xd xs) rfl H1.out.1 (by rw [HH.out.2.2.2.2.2.2.1]; omega) H1.out.2.2.1.size ?_; intro q2 w2 o2 gg; have H2 : Hid _ := And.intro o2 (And.intro (H1.out.2.2.1.grown gg H1.out.2.2.1.size (fun q hq => (H1.out.2.1.lt q hq).1)) ((gg.block w.heap.size zb (by simp [Value.ownBlock])).trans H1.out.2.2.2)); have c4 : w2.cell? ⟨w.heap.size, 4, none⟩ = some (.slice a4 nt p4) := (by rw [blkS_cell H2.out.2.2]; rfl); clear o2 gg)
    | (at_builtin; refine wpList_append_row rfl (.tmp 70) (.tmp 72) rfl w.heap.size q2 _ _ rfl H2.out.1 _ xt rfl (HH.out.2.2.2.2.1.1.below H2.out.2.1) (by rw [HH.out.2.2.2.2.2.2.1, HH.out.2.2.2.2.2.1.1]; omega) H2.out.2.1.size ?_; intro q3 w3 o3 gg; have H3 : Hid _ := And.intro o3 (H2.out.2.1.grown gg H2.out.2.1.size (fun q hq => (H2.out.1.lt q hq).1)); clear o3 gg))
  go_at_call 36
  obtain ⟨g3, c3, eq3, _, _⟩ := owns_shape H3.out.1 (by have := HH.out.2.2.2.2.2.1.1; omega)
  subst eq3
  refine (rtagC ao (some ⟨g3, 0, none⟩) no _ po c3 o (([240] ++ idsV xv xd xs) ++ xt) w3 (HH.out.2.2.2.2.1.2.below H3.out.2) (row_of_owns H3.out.1) HH.out.2.2.2.2.2.1.2 HH.out.2.2.2.2.2.2.2.2.2 go (by rw [HH.out.2.2.2.2.2.2.1, HH.out.2.2.2.2.2.1.1]; omega) HH.out.2.2.2.2.2.2.2.1 HH.out.2.2.2.2.2.2.2.2.1).mono ?_
  rintro e w4 ⟨r4, rfl, rr4, b4⟩
  have H4 : Hid _ := And.intro rr4 (And.intro (owns_below H3.out.1 b4) (H3.out.2.trans (b4.mono H3.out.2.size)))
  clear rr4 b4 c4
  go_wp2_with (at_builtin; refine wpList_append_row rfl (.tmp 74) (.tmp 77) rfl w.heap.size _ _ _ rfl H4.out.2.1 r4 (retV o (([240] ++ idsV xv xd xs) ++ xt)) rfl H4.out.1 (by rw [retV_length, HH.out.2.2.2.2.2.2.1, HH.out.2.2.2.2.2.1.1]; omega) H4.out.2.2.size ?_; intro q5 w5 o5 gg; have H5 : Hid _ := And.intro o5 (H4.out.2.2.grown gg H4.out.2.2.size (fun q hq => (H4.out.2.1.lt q hq).1)); clear o5 gg)
  go_ret2
  refine ⟨_, rfl, ?_, H5.out.2⟩
  have hl : ((([240] ++ idsV xv xd xs) ++ xt) ++ retV o (([240] ++ idsV xv xd xs) ++ xt)).length = 1 + (idsV xv xd xs).length + xt.length + (retV o (([240] ++ idsV xv xd xs) ++ xt)).length := by have h := HH.out.2.2.2.2.2.2.2.2.2; rw [List.length_append, h]
  have h5 := H5.out.1
  rw [← hl] at h5
  exact h5
theorem retS_ok (v : Value) (h : H8) (ao : Option Addr) (po : Nat) (o : List Int) (w : World) (hr : HRow w v h) (hb : h.bytes) (ro : Row w .u8 (.slice ao o.length po) o) (bo : Bytes o) (ok : rok h o) :
    Calls Tryd.prog 16 #[v, .slice ao o.length po] w fun e w' => ∃ r, e = .returned (.tuple #[r, .int .i64 0]) ∧ w'.ownsRow w.heap.size 5 1 r (retP h o).length ((retP h o).map (Value.int .u8)) ∧ Below w.heap.size w w' := by
  have bO := retO_bytes h hb ok.2.2.1 ok.2.2.2.1
  obtain ⟨xf, xv, xd, xs, xt, xn, xl, xp⟩ := h
  obtain ⟨v2, v3, v4, rfl, r2, r3, r4⟩ := hr
  obtain ⟨a2, p2, rfl⟩ := r2.form
  obtain ⟨a3, p3, rfl⟩ := r3.form
  obtain ⟨a4, p4, rfl⟩ := r4.form
  unfold rok at ok
  dsimp only at *
  obtain ⟨rfl, gv, gd, gs, g1, g2, rfl, rfl, rfl, go⟩ := ok
  exact retS_core xv a2 a3 a4 ao _ _ _ _ p2 p3 p4 po xd xs xt o w r2 r3 r4 ro rfl rfl rfl rfl gv gd gs g1 g2 go bo bO
end Go.Proofs.YtiiefhpkkjocbakDoor
