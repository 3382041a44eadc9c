import Derived.Test.YtmfbfophjnaapaaDoorHzC
namespace Go.Proofs.YtmfbfophjnaapaaDoor
open Go.RowKit
set_option linter.unusedVariables false

set_option maxRecDepth 20000 in
set_option maxHeartbeats 4000000 in
theorem hbyI (f : HF) (d s : Value) (w : World) (ht : Tab w) (hd : Row w .u8 d f.d) (h : GRow 2 w s (SSetting.L f.s)) (hn : f.d.length ≤ 1048576) (hm : f.s.length ≤ 1048576) :
    Calls Tryd.prog 7 #[hV f d s] w fun e w' => ∃ r, e = .returned (.tuple #[r, .int .i64 (hbR f).2]) ∧ w'.ownsRow w.heap.size 5 1 r (hbR f).1.length ((hbR f).1.map (Value.int .u8)) ∧ Below w.heap.size w w' := by
  have bA : ∀ u, Below (w.heap.size + 1) (w.alloc (.cells #[.int .i64 f.k, .int .i64 f.a, d, s] 31)) u → Below w.heap.size w u := fun u hu => ((Below.refl w.heap.size w).alloc (Nat.le_refl _) _).trans (hu.mono (by omega))
  have b0 := bA _ (Below.refl _ _)
  have PL : hyP f.k f.a f.d.length f.s → ∀ u, Below w.heap.size w u → _ := fun hp u hu => plI f d s u (ht.below hu ht.lt) (hd.below hu) (h.below hu) hp
  have TT : ∀ u, Below w.heap.size w u → Tab u := fun u hu => ht.below hu ht.lt
  have hro := srow_form h
  have hrd := hd.form
  have CK : ∀ u, Below w.heap.size w u → Calls Tryd.prog 21 #[hV f d s] u fun e w' => e = .returned (.bool (decide (hyP f.k f.a f.d.length f.s))) ∧ Below u.heap.size u w' := fun u hu => by
    obtain ⟨bo, cd, e⟩ := hrd
    unfold hV
    rw [e]
    exact hokI f.k f.a bo f.d.length cd s f.s u (h.below hu) (by omega) (by omega)
  by_cases hp : hyP f.k f.a f.d.length f.s
  · rw [show hbR f = (hyBy f, 0) by unfold hbR; rw [if_pos hp]]
    have hle := plB_le f hp
    have hk := hp.1.1
    rw [hin_iff] at hk
    have PL' := PL hp
    simp only [hp, decide_true] at CK
    have eB : hyBy f = putv f.k ++ (putv (plB f).length ++ plB f) := rfl
    obtain ⟨ao, cp, rfl⟩ := hro
    obtain ⟨bo, cd, rfl⟩ := hrd
    obtain ⟨Q, eQ⟩ : ∃ Q, Q = plB f := ⟨_, rfl⟩
    obtain ⟨B, eB'⟩ : ∃ B, B = hyBy f := ⟨_, rfl⟩
    rw [← eQ, ← eB'] at eB
    rw [← eQ] at hle PL'
    rw [← eB']
    obtain ⟨n, en⟩ : ∃ n, n = f.d.length := ⟨_, rfl⟩
    obtain ⟨m, em⟩ : ∃ m, m = f.s.length := ⟨_, rfl⟩
    rw [← en, ← em] at bA b0 PL' CK ⊢
    have H : Hid _ := And.intro bA (And.intro b0 (And.intro PL' (And.intro CK (And.intro eB (And.intro hle hk)))))
    have HT : Hid _ := And.intro TT True.intro
    clear bA b0 PL PL' CK eB hle hk hp hd h hn hm en em eQ eB' ht TT
    unfold hV at *
    obtain ⟨k, a, D, S⟩ := f
    simp only at *
    go_enter Tryd.func7, Tryd.ntmps7
    go_wp2_with fail
    go_at_call 21
    refine (H.out.2.2.2.1 _ H.out.2.1).mono ?_
    rintro e w1 ⟨rfl, b1⟩
    have A1 : Below (w.heap.size + 1) (w.alloc (.cells #[.int .i64 k, .int .i64 a, .slice bo n cd, .slice ao m cp] 31)) w1 := by simpa using b1
    have bd : Below w1.heap.size w1 w1.drew := below_drewN (Below.refl _ _) 1
    have hz : w.heap.size + 1 ≤ w1.heap.size := by have := A1.size; simpa using this
    have A1d := A1.trans (bd.mono hz)
    obtain ⟨y0, y1, y2, y3⟩ := hb_cells A1d
    have al : Below w1.heap.size w1 (w1.alloc (.cells #[.int .i64 k] 3)).drew := below_drewN ((Below.refl _ _).alloc (Nat.le_refl _) _) 1
    have AL := A1.trans (al.mono hz)
    have o0 : (w1.alloc (.cells #[.int .i64 k] 3)).drew.ownsRow w1.heap.size 5 1 (.slice none 0 0) ([] : List Int).length (([] : List Int).map (Value.int .u8)) := World.ownsRow_nil _ _ _ _
    have lk : (w1.alloc (.cells #[.int .i64 k] 3)).drew.cell? ⟨w1.heap.size, 0, none⟩ = some (.int .i64 k) := laid1h w1 (.int .i64 k) 3
    have C1 := putN1h w1.heap.size (.slice none 0 0) [] k w1.heap.size (w1.alloc (.cells #[.int .i64 k] 3)).drew (HT.out.1 _ (H.out.1 _ AL)) o0 (by simp) (by simp) H.out.2.2.2.2.2.2.1 H.out.2.2.2.2.2.2.2 lk
    obtain ⟨q0, q1, q2, q3⟩ := hb_cells AL
    have H1 : Hid _ := And.intro C1 (And.intro o0 (And.intro AL hz))
    clear b1 A1 bd A1d al o0 C1 AL lk
    go_wp2_with fail
    go_region_held3 (fun w' => w'.cell? ⟨w.heap.size, 0, none⟩ = some (.int .i64 k) ∧ w'.cell? ⟨w.heap.size, 1, none⟩ = some (.int .i64 a) ∧ w'.cell? ⟨w.heap.size, 2, none⟩ = some (.slice bo n cd) ∧ w'.cell? ⟨w.heap.size, 3, none⟩ = some (.slice ao m cp)) (go_keep)
      (first
      | (go_at_call 23; refine H1.out.1.mono ?_; rintro e w2 ⟨r2, rfl, o2, g2⟩; have b2 := H1.out.2.2.1.trans ((g2.below H1.out.2.1 (by simp)).mono H1.out.2.2.2); obtain ⟨z0, z1, z2, z3⟩ := hb_cells b2; have H2 : Hid _ := And.intro o2 (And.intro b2 (show w1.heap.size ≤ w2.heap.size from Nat.le_trans (by simp) g2.chg.size)); clear o2 g2 b2)
      | (go_at_call 24; refine (H.out.2.2.1 w2 (H.out.1 _ H2.out.2.1)).mono ?_; rintro e w3 ⟨r3, rfl, o3, b3⟩; obtain ⟨ra3, rc3, er3⟩ := (row_of_owns o3).form; subst er3; have b3' := H2.out.2.1.trans (b3.mono (Nat.le_trans H1.out.2.2.2 H2.out.2.2)); obtain ⟨t0, t1, t2, t3⟩ := hb_cells b3'; obtain ⟨t0', t1', t2', t3'⟩ := hb_cells (b3'.trans (((Below.refl w3.heap.size w3).alloc (Nat.le_refl _) (.cells #[.slice ra3 Q.length rc3] 22)).mono (Nat.le_trans (Nat.le_trans H1.out.2.2.2 H2.out.2.2) b3.size))); have H3 : Hid _ := And.intro o3 (And.intro (owns_below H2.out.1 b3) (And.intro b3' (Nat.le_trans H2.out.2.2 b3.size))); clear o3 b3 b3')
      | (go_at_call 22; have al3 : Below w3.heap.size w3 (w3.alloc (.cells #[.slice ra3 Q.length rc3] 22)) := (Below.refl _ _).alloc (Nat.le_refl _) _; have b33 := H3.out.2.2.1.trans (al3.mono (Nat.le_trans H1.out.2.2.2 H3.out.2.2.2)); refine (putC1h w1.heap.size r2 (.slice ra3 Q.length rc3) ([] ++ putv k) Q w3.heap.size (w3.alloc (.cells #[.slice ra3 Q.length rc3] 22)) (HT.out.1 _ (H.out.1 _ b33)) (owns_below H3.out.2.1 al3) ((row_of_owns H3.out.1).below al3) (fun _ i hi hj => by have h1 := (H3.out.1.lt i hi).1; have h2 := (H2.out.1.lt i hj).2; omega) (Nat.le_trans H3.out.2.2.2 al3.size) (by have := putv_le k H.out.2.2.2.2.2.2.1 H.out.2.2.2.2.2.2.2; simp; omega) (by have := H.out.2.2.2.2.2.1; omega) (laid1h w3 (.slice ra3 Q.length rc3) 22)).mono ?_; rintro e w4 ⟨r4, rfl, o4, g4⟩; have b4 := b33.trans ((g4.below (owns_below H3.out.2.1 al3) (Nat.le_trans H3.out.2.2.2 al3.size)).mono H1.out.2.2.2); obtain ⟨v0, v1, v2, v3⟩ := hb_cells b4; have H5 : Hid _ := And.intro o4 b4; clear o4 g4 b4 al3 b33))
    all_goals
      go_wp2
      (try simp only [Exit.inBlock, Exit.then])
      refine bodyPost_ret (results_tmp2 rfl _ _ _) rfl ?_
      refine ⟨_, rfl, ?_, H.out.1 _ H5.out.2⟩
      have o5 := H5.out.1
      rw [List.nil_append, ← H.out.2.2.2.2.1] at o5
      exact owns_mono (base' := w.heap.size) o5 (by have := H1.out.2.2.2; omega)
  · rw [show hbR f = ([], 1) by unfold hbR; rw [if_neg hp]]
    simp only [hp, decide_false] at CK
    obtain ⟨ao, cp, rfl⟩ := hro
    obtain ⟨bo, cd, rfl⟩ := hrd
    obtain ⟨n, en⟩ : ∃ n, n = f.d.length := ⟨_, rfl⟩
    obtain ⟨m, em⟩ : ∃ m, m = f.s.length := ⟨_, rfl⟩
    rw [← en, ← em] at bA b0 CK ⊢
    have H : Hid _ := And.intro bA (And.intro b0 CK)
    clear bA b0 PL CK hp hd h hn hm en em ht TT
    unfold hV at *
    obtain ⟨k, a, D, S⟩ := f
    simp only at *
    go_enter Tryd.func7, Tryd.ntmps7
    go_wp2_with fail
    go_at_call 21
    refine (H.out.2.2 _ H.out.2.1).mono ?_
    rintro e w1 ⟨rfl, b1⟩
    have B1 := H.out.2.1.trans (b1.mono H.out.2.1.size)
    have H1 : Hid _ := And.intro B1 True.intro
    clear b1 B1
    go_wp2
    (try simp only [Exit.inBlock, Exit.then])
    refine bodyPost_ret (results_tmp2 rfl _ _ _) rfl ?_
    exact ⟨_, rfl, World.ownsRow_nil _ _ _ _, H1.out.1⟩
end Go.Proofs.YtmfbfophjnaapaaDoor
