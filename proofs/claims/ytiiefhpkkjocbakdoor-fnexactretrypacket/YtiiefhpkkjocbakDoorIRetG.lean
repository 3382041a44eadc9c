import Derived.Test.YtiiefhpkkjocbakDoorIRetB
import Derived.Test.YtiiefhpkkjocbakDoorStepAny
import Derived.Test.YtiiefhpkkjocbakDoorFirstLong
namespace Go.Proofs.YtiiefhpkkjocbakDoor
open Go.RowKit
set_option linter.unusedVariables false

set_option maxRecDepth 20000 in
set_option maxHeartbeats 8000000 in
theorem retI_core (xv : Int) (a2 a3 a4 ao : Option Addr) (nd ns nt no p2 p3 p4 po : Nat) (xd xs xt o : List Int) (w : World) (tb : TabL w) (r2 : Row w .u8 (.slice a2 nd p2) xd) (r3 : Row w .u8 (.slice a3 ns p3) xs) (r4 : Row w .u8 (.slice a4 nt p4) xt) (ro : Row w .u8 (.slice ao no po) o)
    (ed : xd.length = nd) (es : xs.length = ns) (et : xt.length = nt) (eo : o.length = no) (gv : vok xv) (gd : nd ≤ 8) (gs : ns ≤ 8) (g1 : 1 ≤ nt) (g2 : nt ≤ 64) (go : no ≤ 8) (bo : Bytes o) (bO : Bytes (([240] ++ idsV xv xd xs) ++ xt)) :
    Calls Tryd.prog 18 #[.agg #[.int .i64 3, .int .i64 xv, .slice a2 nd p2, .slice a3 ns p3, .slice a4 nt p4, .int .i64 0, .int .i64 0, .int .i64 0], .slice ao no po] w fun e w' => ∃ r, e = .returned (.tuple #[r, .int .i64 0]) ∧ w'.ownsRow w.heap.size 5 1 r (((([240] ++ idsV xv xd xs) ++ xt) ++ retV o (([240] ++ idsV xv xd xs) ++ xt)).length) (((([240] ++ idsV xv xd xs) ++ xt) ++ retV o (([240] ++ idsV xv xd xs) ++ xt)).map (Value.int .u8)) ∧ Below w.heap.size w w' := by
  have B0 := (Below.refl w.heap.size w).alloc (Nat.le_refl _) (.cells #[.int .i64 3, .int .i64 xv, .slice a2 nd p2, .slice a3 ns p3, .slice a4 nt p4, .int .i64 0, .int .i64 0, .int .i64 0] 36)
  have B1 := B0.alloc B0.size (.cells #[.slice a2 nd p2, .slice a3 ns p3, .slice ao no po] 22)
  have CC := icids3 (.cells #[.int .i64 3, .int .i64 xv, .slice a2 nd p2, .slice a3 ns p3, .slice a4 nt p4, .int .i64 0, .int .i64 0, .int .i64 0] 36) a2 a3 ao nd ns no p2 p3 po xd xs o w r2 r3 ro ed es eo (by omega) (by omega) (by omega)
  rw [decide_eq_true ⟨gd, gs, go⟩] at CC
  have s1 : (w.alloc (.cells #[.int .i64 3, .int .i64 xv, .slice a2 nd p2, .slice a3 ns p3, .slice a4 nt p4, .int .i64 0, .int .i64 0, .int .i64 0] 36)).heap.size = w.heap.size + 1 := by simp
  have s2 : ((w.alloc (.cells #[.int .i64 3, .int .i64 xv, .slice a2 nd p2, .slice a3 ns p3, .slice a4 nt p4, .int .i64 0, .int .i64 0, .int .i64 0] 36)).alloc (.cells #[.slice a2 nd p2, .slice a3 ns p3, .slice ao no po] 22)).heap.size = w.heap.size + 2 := by simp
  have hbx : ((w.alloc (.cells #[.int .i64 3, .int .i64 xv, .slice a2 nd p2, .slice a3 ns p3, .slice a4 nt p4, .int .i64 0, .int .i64 0, .int .i64 0] 36)).alloc (.cells #[.slice a2 nd p2, .slice a3 ns p3, .slice ao no po] 22)).heap[w.heap.size]? = some (.cells #[.int .i64 3, .int .i64 xv, .slice a2 nd p2, .slice a3 ns p3, .slice a4 nt p4, .int .i64 0, .int .i64 0, .int .i64 0] 36 (0, 0)) := (Below.heap_alloc _ _ _ (by rw [s1]; omega)).trans (MapKept.heap_alloc w _).1
  have BD := below_drewN B1 1
  have FR := firstRetry ((w.alloc (.cells #[.int .i64 3, .int .i64 xv, .slice a2 nd p2, .slice a3 ns p3, .slice a4 nt p4, .int .i64 0, .int .i64 0, .int .i64 0] 36)).alloc (.cells #[.slice a2 nd p2, .slice a3 ns p3, .slice ao no po] 22)).drew (tb.below BD tb.lt)
  have LG := ilong 240 xv a2 a3 nd ns p2 p3 xd xs ((w.alloc (.cells #[.int .i64 3, .int .i64 xv, .slice a2 nd p2, .slice a3 ns p3, .slice a4 nt p4, .int .i64 0, .int .i64 0, .int .i64 0] 36)).alloc (.cells #[.slice a2 nd p2, .slice a3 ns p3, .slice ao no po] 22)).drew (by have := gv.1; omega) (by have := gv.2; omega) (r2.below BD) (r3.below BD) ed es gd gs
  have c1 : ((w.alloc (.cells #[.int .i64 3, .int .i64 xv, .slice a2 nd p2, .slice a3 ns p3, .slice a4 nt p4, .int .i64 0, .int .i64 0, .int .i64 0] 36)).alloc (.cells #[.slice a2 nd p2, .slice a3 ns p3, .slice ao no po] 22)).drew.cell? ⟨w.heap.size, 1, none⟩ = some (.int .i64 xv) := by rw [blkS_cell (w := ((w.alloc (.cells #[.int .i64 3, .int .i64 xv, .slice a2 nd p2, .slice a3 ns p3, .slice a4 nt p4, .int .i64 0, .int .i64 0, .int .i64 0] 36)).alloc (.cells #[.slice a2 nd p2, .slice a3 ns p3, .slice ao no po] 22)).drew) hbx]; rfl
  have c2 : ((w.alloc (.cells #[.int .i64 3, .int .i64 xv, .slice a2 nd p2, .slice a3 ns p3, .slice a4 nt p4, .int .i64 0, .int .i64 0, .int .i64 0] 36)).alloc (.cells #[.slice a2 nd p2, .slice a3 ns p3, .slice ao no po] 22)).drew.cell? ⟨w.heap.size, 2, none⟩ = some (.slice a2 nd p2) := by rw [blkS_cell (w := ((w.alloc (.cells #[.int .i64 3, .int .i64 xv, .slice a2 nd p2, .slice a3 ns p3, .slice a4 nt p4, .int .i64 0, .int .i64 0, .int .i64 0] 36)).alloc (.cells #[.slice a2 nd p2, .slice a3 ns p3, .slice ao no po] 22)).drew) hbx]; rfl
  have c3 : ((w.alloc (.cells #[.int .i64 3, .int .i64 xv, .slice a2 nd p2, .slice a3 ns p3, .slice a4 nt p4, .int .i64 0, .int .i64 0, .int .i64 0] 36)).alloc (.cells #[.slice a2 nd p2, .slice a3 ns p3, .slice ao no po] 22)).drew.cell? ⟨w.heap.size, 3, none⟩ = some (.slice a3 ns p3) := by rw [blkS_cell (w := ((w.alloc (.cells #[.int .i64 3, .int .i64 xv, .slice a2 nd p2, .slice a3 ns p3, .slice a4 nt p4, .int .i64 0, .int .i64 0, .int .i64 0] 36)).alloc (.cells #[.slice a2 nd p2, .slice a3 ns p3, .slice ao no po] 22)).drew) hbx]; rfl
  have c4 : ((w.alloc (.cells #[.int .i64 3, .int .i64 xv, .slice a2 nd p2, .slice a3 ns p3, .slice a4 nt p4, .int .i64 0, .int .i64 0, .int .i64 0] 36)).alloc (.cells #[.slice a2 nd p2, .slice a3 ns p3, .slice ao no po] 22)).drew.cell? ⟨w.heap.size, 4, none⟩ = some (.slice a4 nt p4) := by rw [blkS_cell (w := ((w.alloc (.cells #[.int .i64 3, .int .i64 xv, .slice a2 nd p2, .slice a3 ns p3, .slice a4 nt p4, .int .i64 0, .int .i64 0, .int .i64 0] 36)).alloc (.cells #[.slice a2 nd p2, .slice a3 ns p3, .slice ao no po] 22)).drew) hbx]; rfl
  have hil : (240 :: idsV xv xd xs).length = 7 + nd + ns := by rw [List.length_cons, idsV_length]; omega
  have hOl : (([240] ++ idsV xv xd xs) ++ xt).length = 7 + nd + ns + nt := by simp [idsV_length]; omega
  have HH : Hid _ := And.intro (And.intro CC (And.intro FR LG)) (And.intro (And.intro B1 BD) (And.intro hbx (And.intro (And.intro r4 ro) (And.intro (And.intro et eo) (And.intro (And.intro hil hOl) (And.intro bo (And.intro bO (And.intro (And.intro c1 (And.intro c2 (And.intro c3 c4))) s2))))))))
  have HL : Hid (0 < 7 + nd + ns + nt ∧ 7 + nd + ns + nt ≤ 4096 ∧ 7 + nd + ns + nt + (retV o (([240] ++ idsV xv xd xs) ++ xt)).length ≤ 140737488355328) := And.intro (by omega) (And.intro (by omega) (by rw [retV_length]; omega))
  clear B0 B1 CC s1 s2 hbx BD FR LG c1 c2 c3 c4 hil hOl tb r2 r3 r4 ro ed es et eo bo bO
  go_enter Tryd.func18, Tryd.ntmps18
  go_upto_region 5 with (first
    | (go_at_call 37; refine (iVok xv _ gv).mono ?_; rintro e w' ⟨rfl, hw⟩; subst w')
    | (go_at_call 38; refine HH.out.1.1.mono ?_; rintro e w' ⟨rfl, hw⟩; subst w'))
  go_cut [6] from 8 to 68 (fun q wx => wx.ownsRow w.heap.size 5 1 q (7 + nd + ns + nt) ((([240] ++ idsV xv xd xs) ++ xt).map (Value.int .u8)) ∧ Below w.heap.size w wx)
  case first =>
    rename_i J K' hJ hK'
    refine wp_region_any (by kernel_rfl) ?_
    try (change wpAny _ _ _ _ _ _ _ (World.drew _))
    refine wpAny_take (i := 1) (v := ?v1) rfl (by kernel_rfl) (by kernel_rfl) (by kernel_rfl) (fun _ _ _ h => h) (Or.inl ⟨by rfl, ?y1⟩) ?r1
    case y1 => (intro w; go_simp; try with_reducible rfl)
    case r1 =>
    try (change wpAny _ _ _ _ _ _ (Act.put _ (some 53) _) _; rw [put_lit9]; simp only [List.set_cons_succ, List.set_cons_zero])
    refine wpAny_take (i := 3) (v := ?v3) rfl (by kernel_rfl) (by kernel_rfl) (by kernel_rfl) (fun _ _ _ h => h) (Or.inl ⟨by rfl, ?y3⟩) ?r3
    case y3 => (intro w; go_simp; try with_reducible rfl)
    case r3 =>
    try (change wpAny _ _ _ _ _ _ (Act.put _ (some 55) _) _; rw [put_lit9]; simp only [List.set_cons_succ, List.set_cons_zero])
    refine wpAny_take (i := 5) (v := ?v5) rfl (by kernel_rfl) (by kernel_rfl) (by kernel_rfl) (fun _ _ _ h => h) (Or.inl ⟨by rfl, ?y5⟩) ?r5
    case y5 => (intro w; go_simp; try with_reducible rfl)
    case r5 =>
    try (change wpAny _ _ _ _ _ _ (Act.put _ (some 57) _) _; rw [put_lit9]; simp only [List.set_cons_succ, List.set_cons_zero])
    refine wpAny_take (i := 8) (v := ?v8) rfl (by kernel_rfl) (by kernel_rfl) (by kernel_rfl) (fun _ _ _ h => h) (Or.inl ⟨by rfl, ?y8⟩) ?r8
    case y8 => (intro w; go_simp; try with_reducible rfl)
    case r8 =>
    try (change wpAny _ _ _ _ _ _ (Act.put _ (some 60) _) _; rw [put_lit9]; simp only [List.set_cons_succ, List.set_cons_zero])
    refine name_any fun M O Q0 a0 hM hO hQ ha => ?_
    obtain ⟨o0, ho0, hp0, hd0, hg0⟩ : ∃ x : Oper, O[0]? = some x ∧ x.op = .call { callee := .value (.func 40), args := #[.const (.int .i64 3)], argTypes := #[3] } ∧ x.dst = some 52 ∧ x.guard = none := by rw [hO]; exact ⟨_, rfl, rfl, rfl, rfl⟩
    obtain ⟨o2, ho2, hp2, hd2, hg2⟩ : ∃ x : Oper, O[2]? = some x ∧ x.op = .load 3 (.tmp 53) ∧ x.dst = some 54 ∧ x.guard = none := by rw [hO]; exact ⟨_, rfl, rfl, rfl, rfl⟩
    obtain ⟨o4, ho4, hp4, hd4, hg4⟩ : ∃ x : Oper, O[4]? = some x ∧ x.op = .load 22 (.tmp 55) ∧ x.dst = some 56 ∧ x.guard = none := by rw [hO]; exact ⟨_, rfl, rfl, rfl, rfl⟩
    obtain ⟨o6, ho6, hp6, hd6, hg6⟩ : ∃ x : Oper, O[6]? = some x ∧ x.op = .load 22 (.tmp 57) ∧ x.dst = some 58 ∧ x.guard = none := by rw [hO]; exact ⟨_, rfl, rfl, rfl, rfl⟩
    obtain ⟨o9, ho9, hp9, hd9, hg9⟩ : ∃ x : Oper, O[9]? = some x ∧ x.op = .load 22 (.tmp 60) ∧ x.dst = some 61 ∧ x.guard = none := by rw [hO]; exact ⟨_, rfl, rfl, rfl, rfl⟩
    obtain ⟨o7, ho7, hp7, hd7, hg7⟩ : ∃ x : Oper, O[7]? = some x ∧ x.op = .call { callee := .value (.func 39), args := #[.tmp 52, .tmp 54, .tmp 56, .tmp 58], argTypes := #[56, 3, 22, 22] } ∧ x.dst = some 59 ∧ x.guard = none := by rw [hO]; exact ⟨_, rfl, rfl, rfl, rfl⟩
    obtain ⟨o10, ho10, hp10, hd10, hg10⟩ : ∃ x : Oper, O[10]? = some x ∧ x.op = .call { callee := .builtin .append, args := #[.tmp 59, .tmp 61], argTypes := #[22, 22] } ∧ x.dst = some 62 ∧ x.guard = none := by rw [hO]; exact ⟨_, rfl, rfl, rfl, rfl⟩
    obtain ⟨o11, ho11, hp11, hd11, hg11⟩ : ∃ x : Oper, O[11]? = some x ∧ x.op = .assign (.tmp 62) ∧ x.dst = some 6 ∧ x.guard = none := by rw [hO]; exact ⟨_, rfl, rfl, rfl, rfl⟩
    have hsz : a0.tmps.size = 69 := by rw [ha]; rfl
    have t53 : a0.tmps[53]?.getD undef = .pointer (some ⟨w.heap.size, 1, none⟩) := by rw [ha]; rfl
    have t55 : a0.tmps[55]?.getD undef = .pointer (some ⟨w.heap.size, 2, none⟩) := by rw [ha]; rfl
    have t57 : a0.tmps[57]?.getD undef = .pointer (some ⟨w.heap.size, 3, none⟩) := by rw [ha]; rfl
    have t60 : a0.tmps[60]?.getD undef = .pointer (some ⟨w.heap.size, 4, none⟩) := by rw [ha]; rfl
    have st_02469 : wpAny Tryd.prog M O Q0 3 #[true, true, true, true, true, true, true, false, true, true, false, false] (((((a0.put (some 52) (.int .u8 240)).put (some 54) (.int .i64 xv)).put (some 56) (.slice a2 nd p2)).put (some 58) (.slice a3 ns p3)).put (some 61) (.slice a4 nt p4)) ((w.alloc (.cells #[.int .i64 3, .int .i64 xv, .slice a2 nd p2, .slice a3 ns p3, .slice a4 nt p4, .int .i64 0, .int .i64 0, .int .i64 0] 36)).alloc (.cells #[.slice a2 nd p2, .slice a3 ns p3, .slice ao no po] 22)).drew := by
      refine wpAny_ready (rs := [7]) (by rw [hM, hO]; kernel_rfl) (by simp) ?_
      refine AllReady.cons ho7 (fun K hK => ?_) ?_
      · refine step_any hg7 (wp_long 59 hd7 _ 52 54 56 58 _ _ _ _ ((get_ne (by decide)).trans ((get_ne (by decide)).trans ((get_ne (by decide)).trans ((get_ne (by decide)).trans (get_eq (by first | omega | (simp only [put_size]; omega))))))) ((get_ne (by decide)).trans ((get_ne (by decide)).trans ((get_ne (by decide)).trans (get_eq (by first | omega | (simp only [put_size]; omega)))))) ((get_ne (by decide)).trans ((get_ne (by decide)).trans (get_eq (by first | omega | (simp only [put_size]; omega))))) ((get_ne (by decide)).trans (get_eq (by first | omega | (simp only [put_size]; omega)))) hp7 HH.out.1.2.2 ?_)
        rintro e w1 ⟨r1, rfl, o1, b1⟩
        refine ⟨_, rfl, hK _ _ ?_⟩
        have z1 : w.heap.size ≤ ((w.alloc (.cells #[.int .i64 3, .int .i64 xv, .slice a2 nd p2, .slice a3 ns p3, .slice a4 nt p4, .int .i64 0, .int .i64 0, .int .i64 0] 36)).alloc (.cells #[.slice a2 nd p2, .slice a3 ns p3, .slice ao no po] 22)).drew.heap.size := HH.out.2.1.2.size
        have O1 : w1.ownsRow w.heap.size 5 1 r1 (7 + nd + ns) ((240 :: idsV xv xd xs).map (Value.int .u8)) := by have h := owns_mono o1 z1; rw [HH.out.2.2.2.2.2.1.1] at h; exact h
        have C1 : Below w.heap.size w w1 := HH.out.2.1.2.trans (b1.mono z1)
        have x4 : w1.cell? ⟨w.heap.size, 4, none⟩ = some (.slice a4 nt p4) := (b1.cell (p := ⟨w.heap.size, 4, none⟩) (show w.heap.size < ((w.alloc (.cells #[.int .i64 3, .int .i64 xv, .slice a2 nd p2, .slice a3 ns p3, .slice a4 nt p4, .int .i64 0, .int .i64 0, .int .i64 0] 36)).alloc (.cells #[.slice a2 nd p2, .slice a3 ns p3, .slice ao no po] 22)).drew.heap.size by have := HH.out.2.2.2.2.2.2.2.2.2; show w.heap.size < ((w.alloc (.cells #[.int .i64 3, .int .i64 xv, .slice a2 nd p2, .slice a3 ns p3, .slice a4 nt p4, .int .i64 0, .int .i64 0, .int .i64 0] 36)).alloc (.cells #[.slice a2 nd p2, .slice a3 ns p3, .slice ao no po] 22)).heap.size; omega)).trans HH.out.2.2.2.2.2.2.2.2.1.2.2.2
        refine wpAny_ready (rs := [10]) (by rw [hM, hO]; kernel_rfl) (by simp) ?_
        refine AllReady.cons ho10 (fun K hK => ?_) ?_
        · refine step_any hg10 ?_
          refine wp_app hd10 hp10 w.heap.size r1 (7 + nd + ns) (240 :: idsV xv xd xs) ?_ O1 (.slice a4 nt p4) xt ?_ (HH.out.2.2.2.1.1.below C1) (by rw [HH.out.2.2.2.2.1.1]; omega) C1.size ?_
          · exact (get_eq (by first | omega | (simp only [put_size]; omega)))
          · exact ((get_ne (by decide)).trans (get_eq (by first | omega | (simp only [put_size]; omega))))
          intro q2 w2 o2 g2'
          refine hK _ _ ?_
          refine wpAny_ready (rs := [11]) (by rw [hM, hO]; kernel_rfl) (by simp) ?_
          refine AllReady.cons ho11 (fun K hK => ?_) ?_
          · refine step_any hg11 (wp_assign 62 6 hd11 hp11 q2 (get_eq (by first | omega | (simp only [put_size]; omega))) (hK _ _ ?_))
            refine wpAny_done (by rw [hM, hO]; kernel_rfl) ?_ _
            rw [hQ]
            change K' _ _
            refine hK' _ _ (Met.intro (hJ _ _ ?_))
            rw [ha]
            simp only [put_lit9, List.set_cons_succ, List.set_cons_zero]
            (repeat apply Exists.intro)
            refine ⟨?_, rfl⟩
            refine ⟨?_, C1.grown g2' C1.size (fun q hq => (O1.lt q hq).1)⟩
            rw [HH.out.2.2.2.2.1.1] at o2
            simpa using o2
          exact AllReady.nil
        exact AllReady.nil
      exact AllReady.nil
    have st_0246 : wpAny Tryd.prog M O Q0 4 #[true, true, true, true, true, true, true, false, true, false, false, false] ((((a0.put (some 52) (.int .u8 240)).put (some 54) (.int .i64 xv)).put (some 56) (.slice a2 nd p2)).put (some 58) (.slice a3 ns p3)) ((w.alloc (.cells #[.int .i64 3, .int .i64 xv, .slice a2 nd p2, .slice a3 ns p3, .slice a4 nt p4, .int .i64 0, .int .i64 0, .int .i64 0] 36)).alloc (.cells #[.slice a2 nd p2, .slice a3 ns p3, .slice ao no po] 22)).drew := by
      refine wpAny_ready (rs := [7, 9]) (by rw [hM, hO]; kernel_rfl) (by simp) ?_
      refine AllReady.cons ho7 (fun K hK => ?_) ?_
      · refine step_any hg7 (wp_long 59 hd7 _ 52 54 56 58 _ _ _ _ ((get_ne (by decide)).trans ((get_ne (by decide)).trans ((get_ne (by decide)).trans (get_eq (by first | omega | (simp only [put_size]; omega)))))) ((get_ne (by decide)).trans ((get_ne (by decide)).trans (get_eq (by first | omega | (simp only [put_size]; omega))))) ((get_ne (by decide)).trans (get_eq (by first | omega | (simp only [put_size]; omega)))) (get_eq (by first | omega | (simp only [put_size]; omega))) hp7 HH.out.1.2.2 ?_)
        rintro e w1 ⟨r1, rfl, o1, b1⟩
        refine ⟨_, rfl, hK _ _ ?_⟩
        have z1 : w.heap.size ≤ ((w.alloc (.cells #[.int .i64 3, .int .i64 xv, .slice a2 nd p2, .slice a3 ns p3, .slice a4 nt p4, .int .i64 0, .int .i64 0, .int .i64 0] 36)).alloc (.cells #[.slice a2 nd p2, .slice a3 ns p3, .slice ao no po] 22)).drew.heap.size := HH.out.2.1.2.size
        have O1 : w1.ownsRow w.heap.size 5 1 r1 (7 + nd + ns) ((240 :: idsV xv xd xs).map (Value.int .u8)) := by have h := owns_mono o1 z1; rw [HH.out.2.2.2.2.2.1.1] at h; exact h
        have C1 : Below w.heap.size w w1 := HH.out.2.1.2.trans (b1.mono z1)
        have x4 : w1.cell? ⟨w.heap.size, 4, none⟩ = some (.slice a4 nt p4) := (b1.cell (p := ⟨w.heap.size, 4, none⟩) (show w.heap.size < ((w.alloc (.cells #[.int .i64 3, .int .i64 xv, .slice a2 nd p2, .slice a3 ns p3, .slice a4 nt p4, .int .i64 0, .int .i64 0, .int .i64 0] 36)).alloc (.cells #[.slice a2 nd p2, .slice a3 ns p3, .slice ao no po] 22)).drew.heap.size by have := HH.out.2.2.2.2.2.2.2.2.2; show w.heap.size < ((w.alloc (.cells #[.int .i64 3, .int .i64 xv, .slice a2 nd p2, .slice a3 ns p3, .slice a4 nt p4, .int .i64 0, .int .i64 0, .int .i64 0] 36)).alloc (.cells #[.slice a2 nd p2, .slice a3 ns p3, .slice ao no po] 22)).heap.size; omega)).trans HH.out.2.2.2.2.2.2.2.2.1.2.2.2
        refine wpAny_ready (rs := [9]) (by rw [hM, hO]; kernel_rfl) (by simp) ?_
        refine AllReady.cons ho9 (fun K hK => ?_) ?_
        · refine step_any hg9 (wp_loadb 60 61 hd9 hp9 w.heap.size 4 ((get_ne (by decide)).trans ((get_ne (by decide)).trans ((get_ne (by decide)).trans ((get_ne (by decide)).trans ((get_ne (by decide)).trans t60))))) _ x4 (hK _ _ ?_))
          refine wpAny_ready (rs := [10]) (by rw [hM, hO]; kernel_rfl) (by simp) ?_
          refine AllReady.cons ho10 (fun K hK => ?_) ?_
          · refine step_any hg10 ?_
            refine wp_app hd10 hp10 w.heap.size r1 (7 + nd + ns) (240 :: idsV xv xd xs) ?_ O1 (.slice a4 nt p4) xt ?_ (HH.out.2.2.2.1.1.below C1) (by rw [HH.out.2.2.2.2.1.1]; omega) C1.size ?_
            · exact ((get_ne (by decide)).trans (get_eq (by first | omega | (simp only [put_size]; omega))))
            · exact (get_eq (by first | omega | (simp only [put_size]; omega)))
            intro q2 w2 o2 g2'
            refine hK _ _ ?_
            refine wpAny_ready (rs := [11]) (by rw [hM, hO]; kernel_rfl) (by simp) ?_
            refine AllReady.cons ho11 (fun K hK => ?_) ?_
            · refine step_any hg11 (wp_assign 62 6 hd11 hp11 q2 (get_eq (by first | omega | (simp only [put_size]; omega))) (hK _ _ ?_))
              refine wpAny_done (by rw [hM, hO]; kernel_rfl) ?_ _
              rw [hQ]
              change K' _ _
              refine hK' _ _ (Met.intro (hJ _ _ ?_))
              rw [ha]
              simp only [put_lit9, List.set_cons_succ, List.set_cons_zero]
              (repeat apply Exists.intro)
              refine ⟨?_, rfl⟩
              refine ⟨?_, C1.grown g2' C1.size (fun q hq => (O1.lt q hq).1)⟩
              rw [HH.out.2.2.2.2.1.1] at o2
              simpa using o2
            exact AllReady.nil
          exact AllReady.nil
        exact AllReady.nil
      refine AllReady.cons ho9 (fun K hK => ?_) ?_
      · exact step_any hg9 (wp_loadb 60 61 hd9 hp9 w.heap.size 4 ((get_ne (by decide)).trans ((get_ne (by decide)).trans ((get_ne (by decide)).trans ((get_ne (by decide)).trans t60)))) _ HH.out.2.2.2.2.2.2.2.2.1.2.2.2 (hK _ _ (any_cast (by kernel_rfl) rfl st_02469)))
      exact AllReady.nil
    have st_0249 : wpAny Tryd.prog M O Q0 4 #[true, true, true, true, true, true, false, false, true, true, false, false] ((((a0.put (some 52) (.int .u8 240)).put (some 54) (.int .i64 xv)).put (some 56) (.slice a2 nd p2)).put (some 61) (.slice a4 nt p4)) ((w.alloc (.cells #[.int .i64 3, .int .i64 xv, .slice a2 nd p2, .slice a3 ns p3, .slice a4 nt p4, .int .i64 0, .int .i64 0, .int .i64 0] 36)).alloc (.cells #[.slice a2 nd p2, .slice a3 ns p3, .slice ao no po] 22)).drew := by
      refine wpAny_ready (rs := [6]) (by rw [hM, hO]; kernel_rfl) (by simp) ?_
      refine AllReady.cons ho6 (fun K hK => ?_) ?_
      · exact step_any hg6 (wp_loadb 57 58 hd6 hp6 w.heap.size 3 ((get_ne (by decide)).trans ((get_ne (by decide)).trans ((get_ne (by decide)).trans ((get_ne (by decide)).trans t57)))) _ HH.out.2.2.2.2.2.2.2.2.1.2.2.1 (hK _ _ (any_cast (by kernel_rfl) (by rw [put_comm 61 58 (by decide)]) st_02469)))
      exact AllReady.nil
    have st_0269 : wpAny Tryd.prog M O Q0 4 #[true, true, true, true, false, true, true, false, true, true, false, false] ((((a0.put (some 52) (.int .u8 240)).put (some 54) (.int .i64 xv)).put (some 58) (.slice a3 ns p3)).put (some 61) (.slice a4 nt p4)) ((w.alloc (.cells #[.int .i64 3, .int .i64 xv, .slice a2 nd p2, .slice a3 ns p3, .slice a4 nt p4, .int .i64 0, .int .i64 0, .int .i64 0] 36)).alloc (.cells #[.slice a2 nd p2, .slice a3 ns p3, .slice ao no po] 22)).drew := by
      refine wpAny_ready (rs := [4]) (by rw [hM, hO]; kernel_rfl) (by simp) ?_
      refine AllReady.cons ho4 (fun K hK => ?_) ?_
      · exact step_any hg4 (wp_loadb 55 56 hd4 hp4 w.heap.size 2 ((get_ne (by decide)).trans ((get_ne (by decide)).trans ((get_ne (by decide)).trans ((get_ne (by decide)).trans t55)))) _ HH.out.2.2.2.2.2.2.2.2.1.2.1 (hK _ _ (any_cast (by kernel_rfl) (by rw [put_comm 61 56 (by decide), put_comm 58 56 (by decide)]) st_02469)))
      exact AllReady.nil
    have st_0469 : wpAny Tryd.prog M O Q0 4 #[true, true, false, true, true, true, true, false, true, true, false, false] ((((a0.put (some 52) (.int .u8 240)).put (some 56) (.slice a2 nd p2)).put (some 58) (.slice a3 ns p3)).put (some 61) (.slice a4 nt p4)) ((w.alloc (.cells #[.int .i64 3, .int .i64 xv, .slice a2 nd p2, .slice a3 ns p3, .slice a4 nt p4, .int .i64 0, .int .i64 0, .int .i64 0] 36)).alloc (.cells #[.slice a2 nd p2, .slice a3 ns p3, .slice ao no po] 22)).drew := by
      refine wpAny_ready (rs := [2]) (by rw [hM, hO]; kernel_rfl) (by simp) ?_
      refine AllReady.cons ho2 (fun K hK => ?_) ?_
      · exact step_any hg2 (wp_loadi 53 54 hd2 hp2 w.heap.size 1 ((get_ne (by decide)).trans ((get_ne (by decide)).trans ((get_ne (by decide)).trans ((get_ne (by decide)).trans t53)))) _ HH.out.2.2.2.2.2.2.2.2.1.1 (hK _ _ (any_cast (by kernel_rfl) (by rw [put_comm 61 54 (by decide), put_comm 58 54 (by decide), put_comm 56 54 (by decide)]) st_02469)))
      exact AllReady.nil
    have st_2469 : wpAny Tryd.prog M O Q0 4 #[false, true, true, true, true, true, true, false, true, true, false, false] ((((a0.put (some 54) (.int .i64 xv)).put (some 56) (.slice a2 nd p2)).put (some 58) (.slice a3 ns p3)).put (some 61) (.slice a4 nt p4)) ((w.alloc (.cells #[.int .i64 3, .int .i64 xv, .slice a2 nd p2, .slice a3 ns p3, .slice a4 nt p4, .int .i64 0, .int .i64 0, .int .i64 0] 36)).alloc (.cells #[.slice a2 nd p2, .slice a3 ns p3, .slice ao no po] 22)).drew := by
      refine wpAny_ready (rs := [0]) (by rw [hM, hO]; kernel_rfl) (by simp) ?_
      refine AllReady.cons ho0 (fun K hK => ?_) ?_
      · refine step_any hg0 (wp_first 52 hd0 _ hp0 HH.out.1.2.1 ?_)
        rintro e w' ⟨rfl, hw⟩
        subst w'
        exact ⟨_, rfl, hK _ _ (any_cast (by kernel_rfl) (by rw [put_comm 61 52 (by decide), put_comm 58 52 (by decide), put_comm 56 52 (by decide), put_comm 54 52 (by decide)]) st_02469)⟩
      exact AllReady.nil
    have st_024 : wpAny Tryd.prog M O Q0 5 #[true, true, true, true, true, true, false, false, true, false, false, false] (((a0.put (some 52) (.int .u8 240)).put (some 54) (.int .i64 xv)).put (some 56) (.slice a2 nd p2)) ((w.alloc (.cells #[.int .i64 3, .int .i64 xv, .slice a2 nd p2, .slice a3 ns p3, .slice a4 nt p4, .int .i64 0, .int .i64 0, .int .i64 0] 36)).alloc (.cells #[.slice a2 nd p2, .slice a3 ns p3, .slice ao no po] 22)).drew := by
      refine wpAny_ready (rs := [6, 9]) (by rw [hM, hO]; kernel_rfl) (by simp) ?_
      refine AllReady.cons ho6 (fun K hK => ?_) ?_
      · exact step_any hg6 (wp_loadb 57 58 hd6 hp6 w.heap.size 3 ((get_ne (by decide)).trans ((get_ne (by decide)).trans ((get_ne (by decide)).trans t57))) _ HH.out.2.2.2.2.2.2.2.2.1.2.2.1 (hK _ _ (any_cast (by kernel_rfl) rfl st_0246)))
      refine AllReady.cons ho9 (fun K hK => ?_) ?_
      · exact step_any hg9 (wp_loadb 60 61 hd9 hp9 w.heap.size 4 ((get_ne (by decide)).trans ((get_ne (by decide)).trans ((get_ne (by decide)).trans t60))) _ HH.out.2.2.2.2.2.2.2.2.1.2.2.2 (hK _ _ (any_cast (by kernel_rfl) rfl st_0249)))
      exact AllReady.nil
    have st_026 : wpAny Tryd.prog M O Q0 5 #[true, true, true, true, false, true, true, false, true, false, false, false] (((a0.put (some 52) (.int .u8 240)).put (some 54) (.int .i64 xv)).put (some 58) (.slice a3 ns p3)) ((w.alloc (.cells #[.int .i64 3, .int .i64 xv, .slice a2 nd p2, .slice a3 ns p3, .slice a4 nt p4, .int .i64 0, .int .i64 0, .int .i64 0] 36)).alloc (.cells #[.slice a2 nd p2, .slice a3 ns p3, .slice ao no po] 22)).drew := by
      refine wpAny_ready (rs := [4, 9]) (by rw [hM, hO]; kernel_rfl) (by simp) ?_
      refine AllReady.cons ho4 (fun K hK => ?_) ?_
      · exact step_any hg4 (wp_loadb 55 56 hd4 hp4 w.heap.size 2 ((get_ne (by decide)).trans ((get_ne (by decide)).trans ((get_ne (by decide)).trans t55))) _ HH.out.2.2.2.2.2.2.2.2.1.2.1 (hK _ _ (any_cast (by kernel_rfl) (by rw [put_comm 58 56 (by decide)]) st_0246)))
      refine AllReady.cons ho9 (fun K hK => ?_) ?_
      · exact step_any hg9 (wp_loadb 60 61 hd9 hp9 w.heap.size 4 ((get_ne (by decide)).trans ((get_ne (by decide)).trans ((get_ne (by decide)).trans t60))) _ HH.out.2.2.2.2.2.2.2.2.1.2.2.2 (hK _ _ (any_cast (by kernel_rfl) rfl st_0269)))
      exact AllReady.nil
    have st_029 : wpAny Tryd.prog M O Q0 5 #[true, true, true, true, false, true, false, false, true, true, false, false] (((a0.put (some 52) (.int .u8 240)).put (some 54) (.int .i64 xv)).put (some 61) (.slice a4 nt p4)) ((w.alloc (.cells #[.int .i64 3, .int .i64 xv, .slice a2 nd p2, .slice a3 ns p3, .slice a4 nt p4, .int .i64 0, .int .i64 0, .int .i64 0] 36)).alloc (.cells #[.slice a2 nd p2, .slice a3 ns p3, .slice ao no po] 22)).drew := by
      refine wpAny_ready (rs := [4, 6]) (by rw [hM, hO]; kernel_rfl) (by simp) ?_
      refine AllReady.cons ho4 (fun K hK => ?_) ?_
      · exact step_any hg4 (wp_loadb 55 56 hd4 hp4 w.heap.size 2 ((get_ne (by decide)).trans ((get_ne (by decide)).trans ((get_ne (by decide)).trans t55))) _ HH.out.2.2.2.2.2.2.2.2.1.2.1 (hK _ _ (any_cast (by kernel_rfl) (by rw [put_comm 61 56 (by decide)]) st_0249)))
      refine AllReady.cons ho6 (fun K hK => ?_) ?_
      · exact step_any hg6 (wp_loadb 57 58 hd6 hp6 w.heap.size 3 ((get_ne (by decide)).trans ((get_ne (by decide)).trans ((get_ne (by decide)).trans t57))) _ HH.out.2.2.2.2.2.2.2.2.1.2.2.1 (hK _ _ (any_cast (by kernel_rfl) (by rw [put_comm 61 58 (by decide)]) st_0269)))
      exact AllReady.nil
    have st_046 : wpAny Tryd.prog M O Q0 5 #[true, true, false, true, true, true, true, false, true, false, false, false] (((a0.put (some 52) (.int .u8 240)).put (some 56) (.slice a2 nd p2)).put (some 58) (.slice a3 ns p3)) ((w.alloc (.cells #[.int .i64 3, .int .i64 xv, .slice a2 nd p2, .slice a3 ns p3, .slice a4 nt p4, .int .i64 0, .int .i64 0, .int .i64 0] 36)).alloc (.cells #[.slice a2 nd p2, .slice a3 ns p3, .slice ao no po] 22)).drew := by
      refine wpAny_ready (rs := [2, 9]) (by rw [hM, hO]; kernel_rfl) (by simp) ?_
      refine AllReady.cons ho2 (fun K hK => ?_) ?_
      · exact step_any hg2 (wp_loadi 53 54 hd2 hp2 w.heap.size 1 ((get_ne (by decide)).trans ((get_ne (by decide)).trans ((get_ne (by decide)).trans t53))) _ HH.out.2.2.2.2.2.2.2.2.1.1 (hK _ _ (any_cast (by kernel_rfl) (by rw [put_comm 58 54 (by decide), put_comm 56 54 (by decide)]) st_0246)))
      refine AllReady.cons ho9 (fun K hK => ?_) ?_
      · exact step_any hg9 (wp_loadb 60 61 hd9 hp9 w.heap.size 4 ((get_ne (by decide)).trans ((get_ne (by decide)).trans ((get_ne (by decide)).trans t60))) _ HH.out.2.2.2.2.2.2.2.2.1.2.2.2 (hK _ _ (any_cast (by kernel_rfl) rfl st_0469)))
      exact AllReady.nil
    have st_049 : wpAny Tryd.prog M O Q0 5 #[true, true, false, true, true, true, false, false, true, true, false, false] (((a0.put (some 52) (.int .u8 240)).put (some 56) (.slice a2 nd p2)).put (some 61) (.slice a4 nt p4)) ((w.alloc (.cells #[.int .i64 3, .int .i64 xv, .slice a2 nd p2, .slice a3 ns p3, .slice a4 nt p4, .int .i64 0, .int .i64 0, .int .i64 0] 36)).alloc (.cells #[.slice a2 nd p2, .slice a3 ns p3, .slice ao no po] 22)).drew := by
      refine wpAny_ready (rs := [2, 6]) (by rw [hM, hO]; kernel_rfl) (by simp) ?_
      refine AllReady.cons ho2 (fun K hK => ?_) ?_
      · exact step_any hg2 (wp_loadi 53 54 hd2 hp2 w.heap.size 1 ((get_ne (by decide)).trans ((get_ne (by decide)).trans ((get_ne (by decide)).trans t53))) _ HH.out.2.2.2.2.2.2.2.2.1.1 (hK _ _ (any_cast (by kernel_rfl) (by rw [put_comm 61 54 (by decide), put_comm 56 54 (by decide)]) st_0249)))
      refine AllReady.cons ho6 (fun K hK => ?_) ?_
      · exact step_any hg6 (wp_loadb 57 58 hd6 hp6 w.heap.size 3 ((get_ne (by decide)).trans ((get_ne (by decide)).trans ((get_ne (by decide)).trans t57))) _ HH.out.2.2.2.2.2.2.2.2.1.2.2.1 (hK _ _ (any_cast (by kernel_rfl) (by rw [put_comm 61 58 (by decide)]) st_0469)))
      exact AllReady.nil
    have st_069 : wpAny Tryd.prog M O Q0 5 #[true, true, false, true, false, true, true, false, true, true, false, false] (((a0.put (some 52) (.int .u8 240)).put (some 58) (.slice a3 ns p3)).put (some 61) (.slice a4 nt p4)) ((w.alloc (.cells #[.int .i64 3, .int .i64 xv, .slice a2 nd p2, .slice a3 ns p3, .slice a4 nt p4, .int .i64 0, .int .i64 0, .int .i64 0] 36)).alloc (.cells #[.slice a2 nd p2, .slice a3 ns p3, .slice ao no po] 22)).drew := by
      refine wpAny_ready (rs := [2, 4]) (by rw [hM, hO]; kernel_rfl) (by simp) ?_
      refine AllReady.cons ho2 (fun K hK => ?_) ?_
      · exact step_any hg2 (wp_loadi 53 54 hd2 hp2 w.heap.size 1 ((get_ne (by decide)).trans ((get_ne (by decide)).trans ((get_ne (by decide)).trans t53))) _ HH.out.2.2.2.2.2.2.2.2.1.1 (hK _ _ (any_cast (by kernel_rfl) (by rw [put_comm 61 54 (by decide), put_comm 58 54 (by decide)]) st_0269)))
      refine AllReady.cons ho4 (fun K hK => ?_) ?_
      · exact step_any hg4 (wp_loadb 55 56 hd4 hp4 w.heap.size 2 ((get_ne (by decide)).trans ((get_ne (by decide)).trans ((get_ne (by decide)).trans t55))) _ HH.out.2.2.2.2.2.2.2.2.1.2.1 (hK _ _ (any_cast (by kernel_rfl) (by rw [put_comm 61 56 (by decide), put_comm 58 56 (by decide)]) st_0469)))
      exact AllReady.nil
    have st_246 : wpAny Tryd.prog M O Q0 5 #[false, true, true, true, true, true, true, false, true, false, false, false] (((a0.put (some 54) (.int .i64 xv)).put (some 56) (.slice a2 nd p2)).put (some 58) (.slice a3 ns p3)) ((w.alloc (.cells #[.int .i64 3, .int .i64 xv, .slice a2 nd p2, .slice a3 ns p3, .slice a4 nt p4, .int .i64 0, .int .i64 0, .int .i64 0] 36)).alloc (.cells #[.slice a2 nd p2, .slice a3 ns p3, .slice ao no po] 22)).drew := by
      refine wpAny_ready (rs := [0, 9]) (by rw [hM, hO]; kernel_rfl) (by simp) ?_
      refine AllReady.cons ho0 (fun K hK => ?_) ?_
      · refine step_any hg0 (wp_first 52 hd0 _ hp0 HH.out.1.2.1 ?_)
        rintro e w' ⟨rfl, hw⟩
        subst w'
        exact ⟨_, rfl, hK _ _ (any_cast (by kernel_rfl) (by rw [put_comm 58 52 (by decide), put_comm 56 52 (by decide), put_comm 54 52 (by decide)]) st_0246)⟩
      refine AllReady.cons ho9 (fun K hK => ?_) ?_
      · exact step_any hg9 (wp_loadb 60 61 hd9 hp9 w.heap.size 4 ((get_ne (by decide)).trans ((get_ne (by decide)).trans ((get_ne (by decide)).trans t60))) _ HH.out.2.2.2.2.2.2.2.2.1.2.2.2 (hK _ _ (any_cast (by kernel_rfl) rfl st_2469)))
      exact AllReady.nil
    have st_249 : wpAny Tryd.prog M O Q0 5 #[false, true, true, true, true, true, false, false, true, true, false, false] (((a0.put (some 54) (.int .i64 xv)).put (some 56) (.slice a2 nd p2)).put (some 61) (.slice a4 nt p4)) ((w.alloc (.cells #[.int .i64 3, .int .i64 xv, .slice a2 nd p2, .slice a3 ns p3, .slice a4 nt p4, .int .i64 0, .int .i64 0, .int .i64 0] 36)).alloc (.cells #[.slice a2 nd p2, .slice a3 ns p3, .slice ao no po] 22)).drew := by
      refine wpAny_ready (rs := [0, 6]) (by rw [hM, hO]; kernel_rfl) (by simp) ?_
      refine AllReady.cons ho0 (fun K hK => ?_) ?_
      · refine step_any hg0 (wp_first 52 hd0 _ hp0 HH.out.1.2.1 ?_)
        rintro e w' ⟨rfl, hw⟩
        subst w'
        exact ⟨_, rfl, hK _ _ (any_cast (by kernel_rfl) (by rw [put_comm 61 52 (by decide), put_comm 56 52 (by decide), put_comm 54 52 (by decide)]) st_0249)⟩
      refine AllReady.cons ho6 (fun K hK => ?_) ?_
      · exact step_any hg6 (wp_loadb 57 58 hd6 hp6 w.heap.size 3 ((get_ne (by decide)).trans ((get_ne (by decide)).trans ((get_ne (by decide)).trans t57))) _ HH.out.2.2.2.2.2.2.2.2.1.2.2.1 (hK _ _ (any_cast (by kernel_rfl) (by rw [put_comm 61 58 (by decide)]) st_2469)))
      exact AllReady.nil
    have st_269 : wpAny Tryd.prog M O Q0 5 #[false, true, true, true, false, true, true, false, true, true, false, false] (((a0.put (some 54) (.int .i64 xv)).put (some 58) (.slice a3 ns p3)).put (some 61) (.slice a4 nt p4)) ((w.alloc (.cells #[.int .i64 3, .int .i64 xv, .slice a2 nd p2, .slice a3 ns p3, .slice a4 nt p4, .int .i64 0, .int .i64 0, .int .i64 0] 36)).alloc (.cells #[.slice a2 nd p2, .slice a3 ns p3, .slice ao no po] 22)).drew := by
      refine wpAny_ready (rs := [0, 4]) (by rw [hM, hO]; kernel_rfl) (by simp) ?_
      refine AllReady.cons ho0 (fun K hK => ?_) ?_
      · refine step_any hg0 (wp_first 52 hd0 _ hp0 HH.out.1.2.1 ?_)
        rintro e w' ⟨rfl, hw⟩
        subst w'
        exact ⟨_, rfl, hK _ _ (any_cast (by kernel_rfl) (by rw [put_comm 61 52 (by decide), put_comm 58 52 (by decide), put_comm 54 52 (by decide)]) st_0269)⟩
      refine AllReady.cons ho4 (fun K hK => ?_) ?_
      · exact step_any hg4 (wp_loadb 55 56 hd4 hp4 w.heap.size 2 ((get_ne (by decide)).trans ((get_ne (by decide)).trans ((get_ne (by decide)).trans t55))) _ HH.out.2.2.2.2.2.2.2.2.1.2.1 (hK _ _ (any_cast (by kernel_rfl) (by rw [put_comm 61 56 (by decide), put_comm 58 56 (by decide)]) st_2469)))
      exact AllReady.nil
    have st_469 : wpAny Tryd.prog M O Q0 5 #[false, true, false, true, true, true, true, false, true, true, false, false] (((a0.put (some 56) (.slice a2 nd p2)).put (some 58) (.slice a3 ns p3)).put (some 61) (.slice a4 nt p4)) ((w.alloc (.cells #[.int .i64 3, .int .i64 xv, .slice a2 nd p2, .slice a3 ns p3, .slice a4 nt p4, .int .i64 0, .int .i64 0, .int .i64 0] 36)).alloc (.cells #[.slice a2 nd p2, .slice a3 ns p3, .slice ao no po] 22)).drew := by
      refine wpAny_ready (rs := [0, 2]) (by rw [hM, hO]; kernel_rfl) (by simp) ?_
      refine AllReady.cons ho0 (fun K hK => ?_) ?_
      · refine step_any hg0 (wp_first 52 hd0 _ hp0 HH.out.1.2.1 ?_)
        rintro e w' ⟨rfl, hw⟩
        subst w'
        exact ⟨_, rfl, hK _ _ (any_cast (by kernel_rfl) (by rw [put_comm 61 52 (by decide), put_comm 58 52 (by decide), put_comm 56 52 (by decide)]) st_0469)⟩
      refine AllReady.cons ho2 (fun K hK => ?_) ?_
      · exact step_any hg2 (wp_loadi 53 54 hd2 hp2 w.heap.size 1 ((get_ne (by decide)).trans ((get_ne (by decide)).trans ((get_ne (by decide)).trans t53))) _ HH.out.2.2.2.2.2.2.2.2.1.1 (hK _ _ (any_cast (by kernel_rfl) (by rw [put_comm 61 54 (by decide), put_comm 58 54 (by decide), put_comm 56 54 (by decide)]) st_2469)))
      exact AllReady.nil
    have st_02 : wpAny Tryd.prog M O Q0 6 #[true, true, true, true, false, true, false, false, true, false, false, false] ((a0.put (some 52) (.int .u8 240)).put (some 54) (.int .i64 xv)) ((w.alloc (.cells #[.int .i64 3, .int .i64 xv, .slice a2 nd p2, .slice a3 ns p3, .slice a4 nt p4, .int .i64 0, .int .i64 0, .int .i64 0] 36)).alloc (.cells #[.slice a2 nd p2, .slice a3 ns p3, .slice ao no po] 22)).drew := by
      refine wpAny_ready (rs := [4, 6, 9]) (by rw [hM, hO]; kernel_rfl) (by simp) ?_
      refine AllReady.cons ho4 (fun K hK => ?_) ?_
      · exact step_any hg4 (wp_loadb 55 56 hd4 hp4 w.heap.size 2 ((get_ne (by decide)).trans ((get_ne (by decide)).trans t55)) _ HH.out.2.2.2.2.2.2.2.2.1.2.1 (hK _ _ (any_cast (by kernel_rfl) rfl st_024)))
      refine AllReady.cons ho6 (fun K hK => ?_) ?_
      · exact step_any hg6 (wp_loadb 57 58 hd6 hp6 w.heap.size 3 ((get_ne (by decide)).trans ((get_ne (by decide)).trans t57)) _ HH.out.2.2.2.2.2.2.2.2.1.2.2.1 (hK _ _ (any_cast (by kernel_rfl) rfl st_026)))
      refine AllReady.cons ho9 (fun K hK => ?_) ?_
      · exact step_any hg9 (wp_loadb 60 61 hd9 hp9 w.heap.size 4 ((get_ne (by decide)).trans ((get_ne (by decide)).trans t60)) _ HH.out.2.2.2.2.2.2.2.2.1.2.2.2 (hK _ _ (any_cast (by kernel_rfl) rfl st_029)))
      exact AllReady.nil
    have st_04 : wpAny Tryd.prog M O Q0 6 #[true, true, false, true, true, true, false, false, true, false, false, false] ((a0.put (some 52) (.int .u8 240)).put (some 56) (.slice a2 nd p2)) ((w.alloc (.cells #[.int .i64 3, .int .i64 xv, .slice a2 nd p2, .slice a3 ns p3, .slice a4 nt p4, .int .i64 0, .int .i64 0, .int .i64 0] 36)).alloc (.cells #[.slice a2 nd p2, .slice a3 ns p3, .slice ao no po] 22)).drew := by
      refine wpAny_ready (rs := [2, 6, 9]) (by rw [hM, hO]; kernel_rfl) (by simp) ?_
      refine AllReady.cons ho2 (fun K hK => ?_) ?_
      · exact step_any hg2 (wp_loadi 53 54 hd2 hp2 w.heap.size 1 ((get_ne (by decide)).trans ((get_ne (by decide)).trans t53)) _ HH.out.2.2.2.2.2.2.2.2.1.1 (hK _ _ (any_cast (by kernel_rfl) (by rw [put_comm 56 54 (by decide)]) st_024)))
      refine AllReady.cons ho6 (fun K hK => ?_) ?_
      · exact step_any hg6 (wp_loadb 57 58 hd6 hp6 w.heap.size 3 ((get_ne (by decide)).trans ((get_ne (by decide)).trans t57)) _ HH.out.2.2.2.2.2.2.2.2.1.2.2.1 (hK _ _ (any_cast (by kernel_rfl) rfl st_046)))
      refine AllReady.cons ho9 (fun K hK => ?_) ?_
      · exact step_any hg9 (wp_loadb 60 61 hd9 hp9 w.heap.size 4 ((get_ne (by decide)).trans ((get_ne (by decide)).trans t60)) _ HH.out.2.2.2.2.2.2.2.2.1.2.2.2 (hK _ _ (any_cast (by kernel_rfl) rfl st_049)))
      exact AllReady.nil
    have st_06 : wpAny Tryd.prog M O Q0 6 #[true, true, false, true, false, true, true, false, true, false, false, false] ((a0.put (some 52) (.int .u8 240)).put (some 58) (.slice a3 ns p3)) ((w.alloc (.cells #[.int .i64 3, .int .i64 xv, .slice a2 nd p2, .slice a3 ns p3, .slice a4 nt p4, .int .i64 0, .int .i64 0, .int .i64 0] 36)).alloc (.cells #[.slice a2 nd p2, .slice a3 ns p3, .slice ao no po] 22)).drew := by
      refine wpAny_ready (rs := [2, 4, 9]) (by rw [hM, hO]; kernel_rfl) (by simp) ?_
      refine AllReady.cons ho2 (fun K hK => ?_) ?_
      · exact step_any hg2 (wp_loadi 53 54 hd2 hp2 w.heap.size 1 ((get_ne (by decide)).trans ((get_ne (by decide)).trans t53)) _ HH.out.2.2.2.2.2.2.2.2.1.1 (hK _ _ (any_cast (by kernel_rfl) (by rw [put_comm 58 54 (by decide)]) st_026)))
      refine AllReady.cons ho4 (fun K hK => ?_) ?_
      · exact step_any hg4 (wp_loadb 55 56 hd4 hp4 w.heap.size 2 ((get_ne (by decide)).trans ((get_ne (by decide)).trans t55)) _ HH.out.2.2.2.2.2.2.2.2.1.2.1 (hK _ _ (any_cast (by kernel_rfl) (by rw [put_comm 58 56 (by decide)]) st_046)))
      refine AllReady.cons ho9 (fun K hK => ?_) ?_
      · exact step_any hg9 (wp_loadb 60 61 hd9 hp9 w.heap.size 4 ((get_ne (by decide)).trans ((get_ne (by decide)).trans t60)) _ HH.out.2.2.2.2.2.2.2.2.1.2.2.2 (hK _ _ (any_cast (by kernel_rfl) rfl st_069)))
      exact AllReady.nil
    have st_09 : wpAny Tryd.prog M O Q0 6 #[true, true, false, true, false, true, false, false, true, true, false, false] ((a0.put (some 52) (.int .u8 240)).put (some 61) (.slice a4 nt p4)) ((w.alloc (.cells #[.int .i64 3, .int .i64 xv, .slice a2 nd p2, .slice a3 ns p3, .slice a4 nt p4, .int .i64 0, .int .i64 0, .int .i64 0] 36)).alloc (.cells #[.slice a2 nd p2, .slice a3 ns p3, .slice ao no po] 22)).drew := by
      refine wpAny_ready (rs := [2, 4, 6]) (by rw [hM, hO]; kernel_rfl) (by simp) ?_
      refine AllReady.cons ho2 (fun K hK => ?_) ?_
      · exact step_any hg2 (wp_loadi 53 54 hd2 hp2 w.heap.size 1 ((get_ne (by decide)).trans ((get_ne (by decide)).trans t53)) _ HH.out.2.2.2.2.2.2.2.2.1.1 (hK _ _ (any_cast (by kernel_rfl) (by rw [put_comm 61 54 (by decide)]) st_029)))
      refine AllReady.cons ho4 (fun K hK => ?_) ?_
      · exact step_any hg4 (wp_loadb 55 56 hd4 hp4 w.heap.size 2 ((get_ne (by decide)).trans ((get_ne (by decide)).trans t55)) _ HH.out.2.2.2.2.2.2.2.2.1.2.1 (hK _ _ (any_cast (by kernel_rfl) (by rw [put_comm 61 56 (by decide)]) st_049)))
      refine AllReady.cons ho6 (fun K hK => ?_) ?_
      · exact step_any hg6 (wp_loadb 57 58 hd6 hp6 w.heap.size 3 ((get_ne (by decide)).trans ((get_ne (by decide)).trans t57)) _ HH.out.2.2.2.2.2.2.2.2.1.2.2.1 (hK _ _ (any_cast (by kernel_rfl) (by rw [put_comm 61 58 (by decide)]) st_069)))
      exact AllReady.nil
    have st_24 : wpAny Tryd.prog M O Q0 6 #[false, true, true, true, true, true, false, false, true, false, false, false] ((a0.put (some 54) (.int .i64 xv)).put (some 56) (.slice a2 nd p2)) ((w.alloc (.cells #[.int .i64 3, .int .i64 xv, .slice a2 nd p2, .slice a3 ns p3, .slice a4 nt p4, .int .i64 0, .int .i64 0, .int .i64 0] 36)).alloc (.cells #[.slice a2 nd p2, .slice a3 ns p3, .slice ao no po] 22)).drew := by
      refine wpAny_ready (rs := [0, 6, 9]) (by rw [hM, hO]; kernel_rfl) (by simp) ?_
      refine AllReady.cons ho0 (fun K hK => ?_) ?_
      · refine step_any hg0 (wp_first 52 hd0 _ hp0 HH.out.1.2.1 ?_)
        rintro e w' ⟨rfl, hw⟩
        subst w'
        exact ⟨_, rfl, hK _ _ (any_cast (by kernel_rfl) (by rw [put_comm 56 52 (by decide), put_comm 54 52 (by decide)]) st_024)⟩
      refine AllReady.cons ho6 (fun K hK => ?_) ?_
      · exact step_any hg6 (wp_loadb 57 58 hd6 hp6 w.heap.size 3 ((get_ne (by decide)).trans ((get_ne (by decide)).trans t57)) _ HH.out.2.2.2.2.2.2.2.2.1.2.2.1 (hK _ _ (any_cast (by kernel_rfl) rfl st_246)))
      refine AllReady.cons ho9 (fun K hK => ?_) ?_
      · exact step_any hg9 (wp_loadb 60 61 hd9 hp9 w.heap.size 4 ((get_ne (by decide)).trans ((get_ne (by decide)).trans t60)) _ HH.out.2.2.2.2.2.2.2.2.1.2.2.2 (hK _ _ (any_cast (by kernel_rfl) rfl st_249)))
      exact AllReady.nil
    have st_26 : wpAny Tryd.prog M O Q0 6 #[false, true, true, true, false, true, true, false, true, false, false, false] ((a0.put (some 54) (.int .i64 xv)).put (some 58) (.slice a3 ns p3)) ((w.alloc (.cells #[.int .i64 3, .int .i64 xv, .slice a2 nd p2, .slice a3 ns p3, .slice a4 nt p4, .int .i64 0, .int .i64 0, .int .i64 0] 36)).alloc (.cells #[.slice a2 nd p2, .slice a3 ns p3, .slice ao no po] 22)).drew := by
      refine wpAny_ready (rs := [0, 4, 9]) (by rw [hM, hO]; kernel_rfl) (by simp) ?_
      refine AllReady.cons ho0 (fun K hK => ?_) ?_
      · refine step_any hg0 (wp_first 52 hd0 _ hp0 HH.out.1.2.1 ?_)
        rintro e w' ⟨rfl, hw⟩
        subst w'
        exact ⟨_, rfl, hK _ _ (any_cast (by kernel_rfl) (by rw [put_comm 58 52 (by decide), put_comm 54 52 (by decide)]) st_026)⟩
      refine AllReady.cons ho4 (fun K hK => ?_) ?_
      · exact step_any hg4 (wp_loadb 55 56 hd4 hp4 w.heap.size 2 ((get_ne (by decide)).trans ((get_ne (by decide)).trans t55)) _ HH.out.2.2.2.2.2.2.2.2.1.2.1 (hK _ _ (any_cast (by kernel_rfl) (by rw [put_comm 58 56 (by decide)]) st_246)))
      refine AllReady.cons ho9 (fun K hK => ?_) ?_
      · exact step_any hg9 (wp_loadb 60 61 hd9 hp9 w.heap.size 4 ((get_ne (by decide)).trans ((get_ne (by decide)).trans t60)) _ HH.out.2.2.2.2.2.2.2.2.1.2.2.2 (hK _ _ (any_cast (by kernel_rfl) rfl st_269)))
      exact AllReady.nil
    have st_29 : wpAny Tryd.prog M O Q0 6 #[false, true, true, true, false, true, false, false, true, true, false, false] ((a0.put (some 54) (.int .i64 xv)).put (some 61) (.slice a4 nt p4)) ((w.alloc (.cells #[.int .i64 3, .int .i64 xv, .slice a2 nd p2, .slice a3 ns p3, .slice a4 nt p4, .int .i64 0, .int .i64 0, .int .i64 0] 36)).alloc (.cells #[.slice a2 nd p2, .slice a3 ns p3, .slice ao no po] 22)).drew := by
      refine wpAny_ready (rs := [0, 4, 6]) (by rw [hM, hO]; kernel_rfl) (by simp) ?_
      refine AllReady.cons ho0 (fun K hK => ?_) ?_
      · refine step_any hg0 (wp_first 52 hd0 _ hp0 HH.out.1.2.1 ?_)
        rintro e w' ⟨rfl, hw⟩
        subst w'
        exact ⟨_, rfl, hK _ _ (any_cast (by kernel_rfl) (by rw [put_comm 61 52 (by decide), put_comm 54 52 (by decide)]) st_029)⟩
      refine AllReady.cons ho4 (fun K hK => ?_) ?_
      · exact step_any hg4 (wp_loadb 55 56 hd4 hp4 w.heap.size 2 ((get_ne (by decide)).trans ((get_ne (by decide)).trans t55)) _ HH.out.2.2.2.2.2.2.2.2.1.2.1 (hK _ _ (any_cast (by kernel_rfl) (by rw [put_comm 61 56 (by decide)]) st_249)))
      refine AllReady.cons ho6 (fun K hK => ?_) ?_
      · exact step_any hg6 (wp_loadb 57 58 hd6 hp6 w.heap.size 3 ((get_ne (by decide)).trans ((get_ne (by decide)).trans t57)) _ HH.out.2.2.2.2.2.2.2.2.1.2.2.1 (hK _ _ (any_cast (by kernel_rfl) (by rw [put_comm 61 58 (by decide)]) st_269)))
      exact AllReady.nil
    have st_46 : wpAny Tryd.prog M O Q0 6 #[false, true, false, true, true, true, true, false, true, false, false, false] ((a0.put (some 56) (.slice a2 nd p2)).put (some 58) (.slice a3 ns p3)) ((w.alloc (.cells #[.int .i64 3, .int .i64 xv, .slice a2 nd p2, .slice a3 ns p3, .slice a4 nt p4, .int .i64 0, .int .i64 0, .int .i64 0] 36)).alloc (.cells #[.slice a2 nd p2, .slice a3 ns p3, .slice ao no po] 22)).drew := by
      refine wpAny_ready (rs := [0, 2, 9]) (by rw [hM, hO]; kernel_rfl) (by simp) ?_
      refine AllReady.cons ho0 (fun K hK => ?_) ?_
      · refine step_any hg0 (wp_first 52 hd0 _ hp0 HH.out.1.2.1 ?_)
        rintro e w' ⟨rfl, hw⟩
        subst w'
        exact ⟨_, rfl, hK _ _ (any_cast (by kernel_rfl) (by rw [put_comm 58 52 (by decide), put_comm 56 52 (by decide)]) st_046)⟩
      refine AllReady.cons ho2 (fun K hK => ?_) ?_
      · exact step_any hg2 (wp_loadi 53 54 hd2 hp2 w.heap.size 1 ((get_ne (by decide)).trans ((get_ne (by decide)).trans t53)) _ HH.out.2.2.2.2.2.2.2.2.1.1 (hK _ _ (any_cast (by kernel_rfl) (by rw [put_comm 58 54 (by decide), put_comm 56 54 (by decide)]) st_246)))
      refine AllReady.cons ho9 (fun K hK => ?_) ?_
      · exact step_any hg9 (wp_loadb 60 61 hd9 hp9 w.heap.size 4 ((get_ne (by decide)).trans ((get_ne (by decide)).trans t60)) _ HH.out.2.2.2.2.2.2.2.2.1.2.2.2 (hK _ _ (any_cast (by kernel_rfl) rfl st_469)))
      exact AllReady.nil
    have st_49 : wpAny Tryd.prog M O Q0 6 #[false, true, false, true, true, true, false, false, true, true, false, false] ((a0.put (some 56) (.slice a2 nd p2)).put (some 61) (.slice a4 nt p4)) ((w.alloc (.cells #[.int .i64 3, .int .i64 xv, .slice a2 nd p2, .slice a3 ns p3, .slice a4 nt p4, .int .i64 0, .int .i64 0, .int .i64 0] 36)).alloc (.cells #[.slice a2 nd p2, .slice a3 ns p3, .slice ao no po] 22)).drew := by
      refine wpAny_ready (rs := [0, 2, 6]) (by rw [hM, hO]; kernel_rfl) (by simp) ?_
      refine AllReady.cons ho0 (fun K hK => ?_) ?_
      · refine step_any hg0 (wp_first 52 hd0 _ hp0 HH.out.1.2.1 ?_)
        rintro e w' ⟨rfl, hw⟩
        subst w'
        exact ⟨_, rfl, hK _ _ (any_cast (by kernel_rfl) (by rw [put_comm 61 52 (by decide), put_comm 56 52 (by decide)]) st_049)⟩
      refine AllReady.cons ho2 (fun K hK => ?_) ?_
      · exact step_any hg2 (wp_loadi 53 54 hd2 hp2 w.heap.size 1 ((get_ne (by decide)).trans ((get_ne (by decide)).trans t53)) _ HH.out.2.2.2.2.2.2.2.2.1.1 (hK _ _ (any_cast (by kernel_rfl) (by rw [put_comm 61 54 (by decide), put_comm 56 54 (by decide)]) st_249)))
      refine AllReady.cons ho6 (fun K hK => ?_) ?_
      · exact step_any hg6 (wp_loadb 57 58 hd6 hp6 w.heap.size 3 ((get_ne (by decide)).trans ((get_ne (by decide)).trans t57)) _ HH.out.2.2.2.2.2.2.2.2.1.2.2.1 (hK _ _ (any_cast (by kernel_rfl) (by rw [put_comm 61 58 (by decide)]) st_469)))
      exact AllReady.nil
    have st_69 : wpAny Tryd.prog M O Q0 6 #[false, true, false, true, false, true, true, false, true, true, false, false] ((a0.put (some 58) (.slice a3 ns p3)).put (some 61) (.slice a4 nt p4)) ((w.alloc (.cells #[.int .i64 3, .int .i64 xv, .slice a2 nd p2, .slice a3 ns p3, .slice a4 nt p4, .int .i64 0, .int .i64 0, .int .i64 0] 36)).alloc (.cells #[.slice a2 nd p2, .slice a3 ns p3, .slice ao no po] 22)).drew := by
      refine wpAny_ready (rs := [0, 2, 4]) (by rw [hM, hO]; kernel_rfl) (by simp) ?_
      refine AllReady.cons ho0 (fun K hK => ?_) ?_
      · refine step_any hg0 (wp_first 52 hd0 _ hp0 HH.out.1.2.1 ?_)
        rintro e w' ⟨rfl, hw⟩
        subst w'
        exact ⟨_, rfl, hK _ _ (any_cast (by kernel_rfl) (by rw [put_comm 61 52 (by decide), put_comm 58 52 (by decide)]) st_069)⟩
      refine AllReady.cons ho2 (fun K hK => ?_) ?_
      · exact step_any hg2 (wp_loadi 53 54 hd2 hp2 w.heap.size 1 ((get_ne (by decide)).trans ((get_ne (by decide)).trans t53)) _ HH.out.2.2.2.2.2.2.2.2.1.1 (hK _ _ (any_cast (by kernel_rfl) (by rw [put_comm 61 54 (by decide), put_comm 58 54 (by decide)]) st_269)))
      refine AllReady.cons ho4 (fun K hK => ?_) ?_
      · exact step_any hg4 (wp_loadb 55 56 hd4 hp4 w.heap.size 2 ((get_ne (by decide)).trans ((get_ne (by decide)).trans t55)) _ HH.out.2.2.2.2.2.2.2.2.1.2.1 (hK _ _ (any_cast (by kernel_rfl) (by rw [put_comm 61 56 (by decide), put_comm 58 56 (by decide)]) st_469)))
      exact AllReady.nil
    have st_0 : wpAny Tryd.prog M O Q0 7 #[true, true, false, true, false, true, false, false, true, false, false, false] (a0.put (some 52) (.int .u8 240)) ((w.alloc (.cells #[.int .i64 3, .int .i64 xv, .slice a2 nd p2, .slice a3 ns p3, .slice a4 nt p4, .int .i64 0, .int .i64 0, .int .i64 0] 36)).alloc (.cells #[.slice a2 nd p2, .slice a3 ns p3, .slice ao no po] 22)).drew := by
      refine wpAny_ready (rs := [2, 4, 6, 9]) (by rw [hM, hO]; kernel_rfl) (by simp) ?_
      refine AllReady.cons ho2 (fun K hK => ?_) ?_
      · exact step_any hg2 (wp_loadi 53 54 hd2 hp2 w.heap.size 1 ((get_ne (by decide)).trans t53) _ HH.out.2.2.2.2.2.2.2.2.1.1 (hK _ _ (any_cast (by kernel_rfl) rfl st_02)))
      refine AllReady.cons ho4 (fun K hK => ?_) ?_
      · exact step_any hg4 (wp_loadb 55 56 hd4 hp4 w.heap.size 2 ((get_ne (by decide)).trans t55) _ HH.out.2.2.2.2.2.2.2.2.1.2.1 (hK _ _ (any_cast (by kernel_rfl) rfl st_04)))
      refine AllReady.cons ho6 (fun K hK => ?_) ?_
      · exact step_any hg6 (wp_loadb 57 58 hd6 hp6 w.heap.size 3 ((get_ne (by decide)).trans t57) _ HH.out.2.2.2.2.2.2.2.2.1.2.2.1 (hK _ _ (any_cast (by kernel_rfl) rfl st_06)))
      refine AllReady.cons ho9 (fun K hK => ?_) ?_
      · exact step_any hg9 (wp_loadb 60 61 hd9 hp9 w.heap.size 4 ((get_ne (by decide)).trans t60) _ HH.out.2.2.2.2.2.2.2.2.1.2.2.2 (hK _ _ (any_cast (by kernel_rfl) rfl st_09)))
      exact AllReady.nil
    have st_2 : wpAny Tryd.prog M O Q0 7 #[false, true, true, true, false, true, false, false, true, false, false, false] (a0.put (some 54) (.int .i64 xv)) ((w.alloc (.cells #[.int .i64 3, .int .i64 xv, .slice a2 nd p2, .slice a3 ns p3, .slice a4 nt p4, .int .i64 0, .int .i64 0, .int .i64 0] 36)).alloc (.cells #[.slice a2 nd p2, .slice a3 ns p3, .slice ao no po] 22)).drew := by
      refine wpAny_ready (rs := [0, 4, 6, 9]) (by rw [hM, hO]; kernel_rfl) (by simp) ?_
      refine AllReady.cons ho0 (fun K hK => ?_) ?_
      · refine step_any hg0 (wp_first 52 hd0 _ hp0 HH.out.1.2.1 ?_)
        rintro e w' ⟨rfl, hw⟩
        subst w'
        exact ⟨_, rfl, hK _ _ (any_cast (by kernel_rfl) (by rw [put_comm 54 52 (by decide)]) st_02)⟩
      refine AllReady.cons ho4 (fun K hK => ?_) ?_
      · exact step_any hg4 (wp_loadb 55 56 hd4 hp4 w.heap.size 2 ((get_ne (by decide)).trans t55) _ HH.out.2.2.2.2.2.2.2.2.1.2.1 (hK _ _ (any_cast (by kernel_rfl) rfl st_24)))
      refine AllReady.cons ho6 (fun K hK => ?_) ?_
      · exact step_any hg6 (wp_loadb 57 58 hd6 hp6 w.heap.size 3 ((get_ne (by decide)).trans t57) _ HH.out.2.2.2.2.2.2.2.2.1.2.2.1 (hK _ _ (any_cast (by kernel_rfl) rfl st_26)))
      refine AllReady.cons ho9 (fun K hK => ?_) ?_
      · exact step_any hg9 (wp_loadb 60 61 hd9 hp9 w.heap.size 4 ((get_ne (by decide)).trans t60) _ HH.out.2.2.2.2.2.2.2.2.1.2.2.2 (hK _ _ (any_cast (by kernel_rfl) rfl st_29)))
      exact AllReady.nil
    have st_4 : wpAny Tryd.prog M O Q0 7 #[false, true, false, true, true, true, false, false, true, false, false, false] (a0.put (some 56) (.slice a2 nd p2)) ((w.alloc (.cells #[.int .i64 3, .int .i64 xv, .slice a2 nd p2, .slice a3 ns p3, .slice a4 nt p4, .int .i64 0, .int .i64 0, .int .i64 0] 36)).alloc (.cells #[.slice a2 nd p2, .slice a3 ns p3, .slice ao no po] 22)).drew := by
      refine wpAny_ready (rs := [0, 2, 6, 9]) (by rw [hM, hO]; kernel_rfl) (by simp) ?_
      refine AllReady.cons ho0 (fun K hK => ?_) ?_
      · refine step_any hg0 (wp_first 52 hd0 _ hp0 HH.out.1.2.1 ?_)
        rintro e w' ⟨rfl, hw⟩
        subst w'
        exact ⟨_, rfl, hK _ _ (any_cast (by kernel_rfl) (by rw [put_comm 56 52 (by decide)]) st_04)⟩
      refine AllReady.cons ho2 (fun K hK => ?_) ?_
      · exact step_any hg2 (wp_loadi 53 54 hd2 hp2 w.heap.size 1 ((get_ne (by decide)).trans t53) _ HH.out.2.2.2.2.2.2.2.2.1.1 (hK _ _ (any_cast (by kernel_rfl) (by rw [put_comm 56 54 (by decide)]) st_24)))
      refine AllReady.cons ho6 (fun K hK => ?_) ?_
      · exact step_any hg6 (wp_loadb 57 58 hd6 hp6 w.heap.size 3 ((get_ne (by decide)).trans t57) _ HH.out.2.2.2.2.2.2.2.2.1.2.2.1 (hK _ _ (any_cast (by kernel_rfl) rfl st_46)))
      refine AllReady.cons ho9 (fun K hK => ?_) ?_
      · exact step_any hg9 (wp_loadb 60 61 hd9 hp9 w.heap.size 4 ((get_ne (by decide)).trans t60) _ HH.out.2.2.2.2.2.2.2.2.1.2.2.2 (hK _ _ (any_cast (by kernel_rfl) rfl st_49)))
      exact AllReady.nil
    have st_6 : wpAny Tryd.prog M O Q0 7 #[false, true, false, true, false, true, true, false, true, false, false, false] (a0.put (some 58) (.slice a3 ns p3)) ((w.alloc (.cells #[.int .i64 3, .int .i64 xv, .slice a2 nd p2, .slice a3 ns p3, .slice a4 nt p4, .int .i64 0, .int .i64 0, .int .i64 0] 36)).alloc (.cells #[.slice a2 nd p2, .slice a3 ns p3, .slice ao no po] 22)).drew := by
      refine wpAny_ready (rs := [0, 2, 4, 9]) (by rw [hM, hO]; kernel_rfl) (by simp) ?_
      refine AllReady.cons ho0 (fun K hK => ?_) ?_
      · refine step_any hg0 (wp_first 52 hd0 _ hp0 HH.out.1.2.1 ?_)
        rintro e w' ⟨rfl, hw⟩
        subst w'
        exact ⟨_, rfl, hK _ _ (any_cast (by kernel_rfl) (by rw [put_comm 58 52 (by decide)]) st_06)⟩
      refine AllReady.cons ho2 (fun K hK => ?_) ?_
      · exact step_any hg2 (wp_loadi 53 54 hd2 hp2 w.heap.size 1 ((get_ne (by decide)).trans t53) _ HH.out.2.2.2.2.2.2.2.2.1.1 (hK _ _ (any_cast (by kernel_rfl) (by rw [put_comm 58 54 (by decide)]) st_26)))
      refine AllReady.cons ho4 (fun K hK => ?_) ?_
      · exact step_any hg4 (wp_loadb 55 56 hd4 hp4 w.heap.size 2 ((get_ne (by decide)).trans t55) _ HH.out.2.2.2.2.2.2.2.2.1.2.1 (hK _ _ (any_cast (by kernel_rfl) (by rw [put_comm 58 56 (by decide)]) st_46)))
      refine AllReady.cons ho9 (fun K hK => ?_) ?_
      · exact step_any hg9 (wp_loadb 60 61 hd9 hp9 w.heap.size 4 ((get_ne (by decide)).trans t60) _ HH.out.2.2.2.2.2.2.2.2.1.2.2.2 (hK _ _ (any_cast (by kernel_rfl) rfl st_69)))
      exact AllReady.nil
    have st_9 : wpAny Tryd.prog M O Q0 7 #[false, true, false, true, false, true, false, false, true, true, false, false] (a0.put (some 61) (.slice a4 nt p4)) ((w.alloc (.cells #[.int .i64 3, .int .i64 xv, .slice a2 nd p2, .slice a3 ns p3, .slice a4 nt p4, .int .i64 0, .int .i64 0, .int .i64 0] 36)).alloc (.cells #[.slice a2 nd p2, .slice a3 ns p3, .slice ao no po] 22)).drew := by
      refine wpAny_ready (rs := [0, 2, 4, 6]) (by rw [hM, hO]; kernel_rfl) (by simp) ?_
      refine AllReady.cons ho0 (fun K hK => ?_) ?_
      · refine step_any hg0 (wp_first 52 hd0 _ hp0 HH.out.1.2.1 ?_)
        rintro e w' ⟨rfl, hw⟩
        subst w'
        exact ⟨_, rfl, hK _ _ (any_cast (by kernel_rfl) (by rw [put_comm 61 52 (by decide)]) st_09)⟩
      refine AllReady.cons ho2 (fun K hK => ?_) ?_
      · exact step_any hg2 (wp_loadi 53 54 hd2 hp2 w.heap.size 1 ((get_ne (by decide)).trans t53) _ HH.out.2.2.2.2.2.2.2.2.1.1 (hK _ _ (any_cast (by kernel_rfl) (by rw [put_comm 61 54 (by decide)]) st_29)))
      refine AllReady.cons ho4 (fun K hK => ?_) ?_
      · exact step_any hg4 (wp_loadb 55 56 hd4 hp4 w.heap.size 2 ((get_ne (by decide)).trans t55) _ HH.out.2.2.2.2.2.2.2.2.1.2.1 (hK _ _ (any_cast (by kernel_rfl) (by rw [put_comm 61 56 (by decide)]) st_49)))
      refine AllReady.cons ho6 (fun K hK => ?_) ?_
      · exact step_any hg6 (wp_loadb 57 58 hd6 hp6 w.heap.size 3 ((get_ne (by decide)).trans t57) _ HH.out.2.2.2.2.2.2.2.2.1.2.2.1 (hK _ _ (any_cast (by kernel_rfl) (by rw [put_comm 61 58 (by decide)]) st_69)))
      exact AllReady.nil
    have st_e : wpAny Tryd.prog M O Q0 8 #[false, true, false, true, false, true, false, false, true, false, false, false] a0 ((w.alloc (.cells #[.int .i64 3, .int .i64 xv, .slice a2 nd p2, .slice a3 ns p3, .slice a4 nt p4, .int .i64 0, .int .i64 0, .int .i64 0] 36)).alloc (.cells #[.slice a2 nd p2, .slice a3 ns p3, .slice ao no po] 22)).drew := by
      refine wpAny_ready (rs := [0, 2, 4, 6, 9]) (by rw [hM, hO]; kernel_rfl) (by simp) ?_
      refine AllReady.cons ho0 (fun K hK => ?_) ?_
      · refine step_any hg0 (wp_first 52 hd0 _ hp0 HH.out.1.2.1 ?_)
        rintro e w' ⟨rfl, hw⟩
        subst w'
        exact ⟨_, rfl, hK _ _ (any_cast (by kernel_rfl) rfl st_0)⟩
      refine AllReady.cons ho2 (fun K hK => ?_) ?_
      · exact step_any hg2 (wp_loadi 53 54 hd2 hp2 w.heap.size 1 t53 _ HH.out.2.2.2.2.2.2.2.2.1.1 (hK _ _ (any_cast (by kernel_rfl) rfl st_2)))
      refine AllReady.cons ho4 (fun K hK => ?_) ?_
      · exact step_any hg4 (wp_loadb 55 56 hd4 hp4 w.heap.size 2 t55 _ HH.out.2.2.2.2.2.2.2.2.1.2.1 (hK _ _ (any_cast (by kernel_rfl) rfl st_4)))
      refine AllReady.cons ho6 (fun K hK => ?_) ?_
      · exact step_any hg6 (wp_loadb 57 58 hd6 hp6 w.heap.size 3 t57 _ HH.out.2.2.2.2.2.2.2.2.1.2.2.1 (hK _ _ (any_cast (by kernel_rfl) rfl st_6)))
      refine AllReady.cons ho9 (fun K hK => ?_) ?_
      · exact step_any hg9 (wp_loadb 60 61 hd9 hp9 w.heap.size 4 t60 _ HH.out.2.2.2.2.2.2.2.2.1.2.2.2 (hK _ _ (any_cast (by kernel_rfl) rfl st_9)))
      exact AllReady.nil
    exact any_cast (by kernel_rfl) rfl st_e
  case rest =>
  obtain ⟨oq, bq⟩ := hcut
  have HQ : Hid _ := And.intro oq bq
  clear oq bq
  go_wp2_with fail
  go_at_call 41
  obtain ⟨TG, eTG⟩ : ∃ t, t = retV o (([240] ++ idsV xv xd xs) ++ xt) := ⟨_, rfl⟩
  have HT : Hid (TG = retV o (([240] ++ idsV xv xd xs) ++ xt) ∧ TG.length = 8) := And.intro eTG (by rw [eTG]; exact retV_length _ _)
  obtain ⟨g3, c3', eq3, _, _⟩ := owns_shape HQ.out.1 HL.out.1
  subst eq3
  have IT := iretTag ao (some ⟨g3, 0, none⟩) no _ po c3' o (([240] ++ idsV xv xd xs) ++ xt) wc (HH.out.2.2.2.1.2.below HQ.out.2) (row_of_owns HQ.out.1) HH.out.2.2.2.2.1.2 HH.out.2.2.2.2.2.1.2 go HL.out.2.1 HH.out.2.2.2.2.2.2.1 HH.out.2.2.2.2.2.2.2.1
  rw [← eTG] at IT
  refine IT.mono ?_
  rintro e w4 ⟨rfl, b4⟩
  have H4 : Hid _ := And.intro (owns_below HQ.out.1 b4) (HQ.out.2.trans (b4.mono HQ.out.2.size))
  have z4 : w.heap.size ≤ w4.heap.size := H4.out.2.size
  clear b4 IT eTG
  go_wp2_with (first
    | (refine wpList_store_at rfl 58 (.tmp 7) (.tmp 65) rfl w4.heap.size _ rfl rfl 58 _ (MapKept.heap_alloc w4 _).1 (infoR8s _ HT.out.2) (by simp [u8s_length, HT.out.2]) (u8s_all _) ?_; intro w5 h5 m5; have O4 := owns_below H4.out.1 ((Below.refl w4.heap.size w4).alloc (Nat.le_refl _) Z8r); have O5 := m5.owns O4 (fun k hk e => absurd (H4.out.1.lt k hk).2 (by rw [Option.some.inj e]; exact Nat.lt_irrefl _)); have R5 := row_partr (off := 0) (n := 8) (c := 8) h5 (by rw [HT.out.2]; decide) (by decide) (by decide); rw [List.drop_zero, List.take_of_length_le (by rw [HT.out.2]; decide)] at R5; have H5 : Hid _ := And.intro O5 (And.intro R5 ((H4.out.2.alloc z4 Z8r).trans (m5.below z4))); clear O4 O5 R5 h5 m5)
    | (at_builtin; refine wpList_append_row rfl (.tmp 66) (.tmp 67) rfl w.heap.size (.slice (some ⟨g3, 0, none⟩) (7 + nd + ns + nt) c3') (7 + nd + ns + nt) (([240] ++ idsV xv xd xs) ++ xt) rfl H5.out.1 (.slice (some ⟨w4.heap.size, 0, none⟩) 8 8) TG rfl H5.out.2.1 (by rw [HT.out.1]; exact HL.out.2.2) H5.out.2.2.size ?_; intro q6 w6 o6 g6; have H6 : Hid _ := And.intro o6 (H5.out.2.2.grown g6 H5.out.2.2.size (fun q hq => (H5.out.1.lt q hq).1)); clear o6 g6))
  go_ret2
  refine ⟨_, rfl, ?_, H6.out.2⟩
  have hl : ((([240] ++ idsV xv xd xs) ++ xt) ++ retV o (([240] ++ idsV xv xd xs) ++ xt)).length = 7 + nd + ns + nt + (retV o (([240] ++ idsV xv xd xs) ++ xt)).length := by have h := HH.out.2.2.2.2.2.1.2; rw [List.length_append, h]
  have h6 := H6.out.1
  rw [HT.out.1] at h6
  rw [← hl] at h6
  exact h6
end Go.Proofs.YtiiefhpkkjocbakDoor
