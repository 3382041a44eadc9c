import Derived.Test.YtjdmknlcjejecaaIInner
import Derived.Test.YtjdmknlcjejecaaAppRow
import Derived.Test.YtjdmknlcjejecaaNextKeys
namespace Go.Proofs.Ytjdmknlcjejecaa
open Go.RowKit
set_option linter.unusedVariables false

theorem der_len (ss : List Int) (s : ByteArray) (n : Nat) (h : ss.length = 16) (hs : s.size ≤ 32) (h0 : 1 ≤ n) (h1 : n ≤ 64) : (derV ss s n).length = n := by
  have e : derV ss s n = drvV ss (lab s) (n : Int).toNat := if_pos ⟨h, hs, by omega, by omega⟩
  rw [e, Int.toNat_natCast, drvV_length _ _ _ h1]
theorem keysV_kok (ss : List Int) (h : ss.length = 16) : kok (keysV ss) := by
  have e : keysV ss = ⟨ss, derV ss lKey 16, derV ss lIv 8, derV ss lMask 16⟩ := if_pos h
  rw [e]
  exact ⟨h, der_len ss lKey 16 h (by decide) (by decide) (by decide), der_len ss lIv 8 h (by decide) (by decide) (by decide), der_len ss lMask 16 h (by decide) (by decide) (by decide)⟩
/-- innerOfSecret's blocks behind j parts. -/
abbrev BkS (h : Nat) (k : K4) (j : Nat) : List (Nat × Obj) := [(h + 1, .cells (u8s (inS k j)).toArray 60 (0, 0)), (h, Z56)]

set_option maxRecDepth 20000 in
set_option maxHeartbeats 8000000 in
theorem innerOfSecret_ok (v : Value) (ss : List Int) (w : World) (hrow : Row w .u8 v ss) (hB : Bytes ss) (h16 : ss.length = 16) :
    Calls Try.prog 32 #[v] w fun e w' => e = .returned (.agg (u8s (inL (keysV ss))).toArray) ∧ Below w.heap.size w w' := by
  have ez : keysV ss = ⟨ss, derV ss lKey 16, derV ss lIv 8, derV ss lMask 16⟩ := if_pos h16
  obtain ⟨z, zz⟩ : ∃ z, z = keysV ss := ⟨_, rfl⟩
  have kz : kok z := by rw [zz]; exact keysV_kok ss h16
  rw [← zz] at ez ⊢
  obtain ⟨ao, cap, rfl⟩ := hrow.form
  rw [h16] at hrow ⊢
  have HH : Hid _ := And.intro hrow (And.intro hB (And.intro h16 (And.intro kz ez)))
  clear hrow hB h16 kz ez zz
  have B0 : Book ((w.alloc Z56).alloc Z56) (BkS w.heap.size z 0) := book_new2 w Z56 Z56
  have C0 : Below w.heap.size w ((w.alloc Z56).alloc Z56) := ((Below.refl _ _).alloc (Nat.le_refl _) _).alloc (by simp) _
  have H0 : Hid _ := And.intro B0 C0
  clear B0 C0
  have EA : Hid (z.a = ss) := by show _ = _; rw [HH.out.2.2.2.2]
  go_enter Try.func32, Try.ntmps32
  go_upto_region 2 with fail
  go_cut [] from 4 to 7 (fun wx => Book wx (BkS w.heap.size z (0 + 1)) ∧ Below w.heap.size w wx)
  case first =>
    go_wp2_with (refine wpList_copy_at rfl (.tmp 5) (.tmp 6) 22 22 rfl 5 Try.underlying22 infoU8s (w.heap.size + 1) 0 16 16 _ rfl rfl ss (HH.out.1.below H0.out.2) (by rw [HH.out.2.2.1]; decide) (inS z 0) 60 (H0.out.1.blk _ _ (List.mem_cons_self ..)) 16 (by rw [HH.out.2.2.1]; rfl) (by rw [inS_length z HH.out.2.2.2.1]; decide) ?_; intro w2 h2 m2)
    go_meet
    rw [← EA.out, inS_0 z HH.out.2.2.2.1] at h2
    exact ⟨H0.out.1.turn m2 h2 (by intro b o hm; simp only [List.mem_cons, Prod.mk.injEq, List.not_mem_nil, or_false] at hm; omega), H0.out.2.trans (m2.below (by omega))⟩
  case rest =>
  have H1 : Hid _ := hcut
  clear hcut H0
  obtain ⟨W1, eW1⟩ : ∃ W, W = wc := ⟨_, rfl⟩
  rw [← eW1] at H1
  have z1 : w.heap.size + 1 < wc.heap.size := by rw [← eW1]; exact H1.out.1.lt (List.mem_cons_self ..)
  have HD : Hid (∀ W' : World, W'.heap = wc.heap → W'.os = wc.os → W'.tape = wc.tape → W'.output = wc.output → Calls Try.prog 22 #[.slice ao 16 cap, .string lKey, .int .i64 16] W' fun e w' => ∃ r, e = .returned r ∧ w'.ownsRow W'.heap.size 5 1 r 16 (z.b.map (Value.int .u8)) ∧ Below W'.heap.size W' w') := by
    intro W' e1 e2 e3 e4
    have hb : Below w.heap.size w W' := by
      have := H1.out.2
      rw [eW1] at this
      exact ⟨e2.trans this.os, e3.trans this.tape, e4.trans this.output, by rw [e1]; exact this.size, fun k hk => by rw [e1]; exact this.block k hk⟩
    have := implDerive _ ss lKey 16 W' (HH.out.1.below hb) HH.out.2.1 (by rw [HH.out.2.2.1]; decide) (by decide)
    have e5 : derV ss lKey 16 = z.b := by rw [HH.out.2.2.2.2]
    rw [e5, HH.out.2.2.2.1.2.1] at this
    exact this
  go_upto_region 3 with fail
  go_cut [] from 8 to 12 (fun wx => Book wx (BkS w.heap.size z (1 + 1)) ∧ Below w.heap.size w wx)
  case first =>
    go_region_law (first
      | (go_simp; go_at_call 22; refine (HD.out wc.drew rfl rfl rfl rfl).mono ?_; rintro e w1 ⟨r, rfl, o1, b1⟩)
      | (refine step_copy_at rfl (.tmp 9) (.tmp 11) 22 22 rfl 5 Try.underlying22 infoU8s (w.heap.size + 1) 16 16 16 _ rfl rfl z.b (row_of_owns o1) (by rw [HH.out.2.2.2.1.2.1]; decide) (inS z 1) 60 (((eW1 ▸ H1.out.1.drew).below b1).blk _ _ (List.mem_cons_self ..)) 16 (by rw [HH.out.2.2.2.1.2.1]; rfl) (by rw [inS_length z HH.out.2.2.2.1]; decide) ?_; intro w2 h2 m2))
    all_goals
      go_wp2_with fail
      go_meet
      rw [inS_1 z HH.out.2.2.2.1] at h2
      exact ⟨((eW1 ▸ H1.out.1.drew).below b1).turn m2 h2 (by intro b o hm; simp only [List.mem_cons, Prod.mk.injEq, List.not_mem_nil, or_false] at hm; omega), ((below_drewN (eW1 ▸ H1.out.2) 1).trans (b1.mono (by show _ ≤ wc.heap.size; omega))).trans (m2.below (by omega))⟩
  case rest =>
  have H2 : Hid _ := hcut
  clear hcut H1 HD eW1 z1
  obtain ⟨W2, eW2⟩ : ∃ W, W = wc := ⟨_, rfl⟩
  rw [← eW2] at H2
  have z2 : w.heap.size + 1 < wc.heap.size := by rw [← eW2]; exact H2.out.1.lt (List.mem_cons_self ..)
  have HD : Hid (∀ W' : World, W'.heap = wc.heap → W'.os = wc.os → W'.tape = wc.tape → W'.output = wc.output → Calls Try.prog 22 #[.slice ao 16 cap, .string lMask, .int .i64 16] W' fun e w' => ∃ r, e = .returned r ∧ w'.ownsRow W'.heap.size 5 1 r 16 (z.d.map (Value.int .u8)) ∧ Below W'.heap.size W' w') := by
    intro W' e1 e2 e3 e4
    have hb : Below w.heap.size w W' := by
      have := H2.out.2
      rw [eW2] at this
      exact ⟨e2.trans this.os, e3.trans this.tape, e4.trans this.output, by rw [e1]; exact this.size, fun k hk => by rw [e1]; exact this.block k hk⟩
    have := implDerive _ ss lMask 16 W' (HH.out.1.below hb) HH.out.2.1 (by rw [HH.out.2.2.1]; decide) (by decide)
    have e5 : derV ss lMask 16 = z.d := by rw [HH.out.2.2.2.2]
    rw [e5, HH.out.2.2.2.1.2.2.2] at this
    exact this
  go_upto_region 4 with fail
  go_cut [] from 13 to 17 (fun wx => Book wx (BkS w.heap.size z (2 + 1)) ∧ Below w.heap.size w wx)
  case first =>
    go_region_law (first
      | (go_simp; go_at_call 22; refine (HD.out wc.drew rfl rfl rfl rfl).mono ?_; rintro e w1 ⟨r, rfl, o1, b1⟩)
      | (refine step_copy_at rfl (.tmp 14) (.tmp 16) 22 22 rfl 5 Try.underlying22 infoU8s (w.heap.size + 1) 32 16 16 _ rfl rfl z.d (row_of_owns o1) (by rw [HH.out.2.2.2.1.2.2.2]; decide) (inS z 2) 60 (((eW2 ▸ H2.out.1.drew).below b1).blk _ _ (List.mem_cons_self ..)) 16 (by rw [HH.out.2.2.2.1.2.2.2]; rfl) (by rw [inS_length z HH.out.2.2.2.1]; decide) ?_; intro w2 h2 m2))
    all_goals
      go_wp2_with fail
      go_meet
      rw [inS_2 z HH.out.2.2.2.1] at h2
      exact ⟨((eW2 ▸ H2.out.1.drew).below b1).turn m2 h2 (by intro b o hm; simp only [List.mem_cons, Prod.mk.injEq, List.not_mem_nil, or_false] at hm; omega), ((below_drewN (eW2 ▸ H2.out.2) 1).trans (b1.mono (by show _ ≤ wc.heap.size; omega))).trans (m2.below (by omega))⟩
  case rest =>
  have H3 : Hid _ := hcut
  clear hcut H2 HD eW2 z2
  obtain ⟨W3, eW3⟩ : ∃ W, W = wc := ⟨_, rfl⟩
  rw [← eW3] at H3
  have z3 : w.heap.size + 1 < wc.heap.size := by rw [← eW3]; exact H3.out.1.lt (List.mem_cons_self ..)
  have HD : Hid (∀ W' : World, W'.heap = wc.heap → W'.os = wc.os → W'.tape = wc.tape → W'.output = wc.output → Calls Try.prog 22 #[.slice ao 16 cap, .string lIv, .int .i64 8] W' fun e w' => ∃ r, e = .returned r ∧ w'.ownsRow W'.heap.size 5 1 r 8 (z.c.map (Value.int .u8)) ∧ Below W'.heap.size W' w') := by
    intro W' e1 e2 e3 e4
    have hb : Below w.heap.size w W' := by
      have := H3.out.2
      rw [eW3] at this
      exact ⟨e2.trans this.os, e3.trans this.tape, e4.trans this.output, by rw [e1]; exact this.size, fun k hk => by rw [e1]; exact this.block k hk⟩
    have := implDerive _ ss lIv 8 W' (HH.out.1.below hb) HH.out.2.1 (by rw [HH.out.2.2.1]; decide) (by decide)
    have e5 : derV ss lIv 8 = z.c := by rw [HH.out.2.2.2.2]
    rw [e5, HH.out.2.2.2.1.2.2.1] at this
    exact this
  go_upto_region 5 with fail
  go_cut [] from 18 to 22 (fun wx => Book wx (BkS w.heap.size z (3 + 1)) ∧ Below w.heap.size w wx)
  case first =>
    go_region_law (first
      | (go_simp; go_at_call 22; refine (HD.out wc.drew rfl rfl rfl rfl).mono ?_; rintro e w1 ⟨r, rfl, o1, b1⟩)
      | (refine step_copy_at rfl (.tmp 19) (.tmp 21) 22 22 rfl 5 Try.underlying22 infoU8s (w.heap.size + 1) 48 8 8 _ rfl rfl z.c (row_of_owns o1) (by rw [HH.out.2.2.2.1.2.2.1]; decide) (inS z 3) 60 (((eW3 ▸ H3.out.1.drew).below b1).blk _ _ (List.mem_cons_self ..)) 8 (by rw [HH.out.2.2.2.1.2.2.1]; rfl) (by rw [inS_length z HH.out.2.2.2.1]; decide) ?_; intro w2 h2 m2))
    all_goals
      go_wp2_with fail
      go_meet
      rw [inS_3 z HH.out.2.2.2.1] at h2
      exact ⟨((eW3 ▸ H3.out.1.drew).below b1).turn m2 h2 (by intro b o hm; simp only [List.mem_cons, Prod.mk.injEq, List.not_mem_nil, or_false] at hm; omega), ((below_drewN (eW3 ▸ H3.out.2) 1).trans (b1.mono (by show _ ≤ wc.heap.size; omega))).trans (m2.below (by omega))⟩
  case rest =>
  have H4 : Hid _ := hcut
  clear hcut H3 HD eW3 z3
  go_wp2_with (first
    | (refine wpList_load_row rfl 60 (.tmp 3) rfl (w.heap.size + 1) rfl 60 _ (0, 0) _ (H4.out.1.blk _ _ (List.mem_cons_self ..)) Try.underlying60 rfl (infoIs _ (inS_length z HH.out.2.2.2.1 4)) ?_)
    | (refine wpList_store_at rfl 60 (.tmp 2) (.tmp 23) rfl w.heap.size _ rfl rfl 60 _ (H4.out.1.blk _ _ (List.mem_cons_of_mem _ (List.mem_cons_self ..))) (infoIs _ (inS_length z HH.out.2.2.2.1 4)) (by simp [u8s_length, inS_length z HH.out.2.2.2.1 4]) (u8s_all _) ?_; intro w6 h6 m6))
  refine bodyPost_ret (v := .agg (u8s (inL z)).toArray) ?_ rfl ?_
  · exact results_cell_row (t := 60) rfl _ _ w.heap.size _ (fr := (0, 0)) _ rfl h6 Try.underlying60 rfl (infoIs _ (inS_length z HH.out.2.2.2.1 4))
  · exact ⟨rfl, H4.out.2.trans (m6.below (Nat.le_refl _))⟩
end Go.Proofs.Ytjdmknlcjejecaa
