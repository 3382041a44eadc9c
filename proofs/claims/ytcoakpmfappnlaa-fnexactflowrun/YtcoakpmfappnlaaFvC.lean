import Derived.Test.YtcoakpmfappnlaaFvB
namespace Go.Proofs.Ytcoakpmfappnlaa
open Go.RowKit
set_option linter.unusedVariables false
set_option linter.unusedSimpArgs false

theorem nowns_nil (w : World) (base : Nat) : NOwns w base (.slice none 0 0) [] := ⟨fun _ => .slice none 0 0, ⟨[], World.ownsRow_nil _ _ _ _, fun j hj => by simp [zl] at hj⟩, fun j hj => by simp at hj, fun i j _ hj => by simp at hj⟩
set_option maxRecDepth 20000 in
set_option maxHeartbeats 4000000 in
theorem implFL (F : FS) (v : Value) (R : List SFlowOp) (w : World) (row : GRow 4 w v (SFlowOp.L R)) (hof : ∀ j, (Lit.int .i64 (R.getD j default).f1).wf = true) (hl : R.length ≤ 140737488355328) :
    Calls Try.prog 8 #[fsV F, v] w fun e w' => ∃ r, e = .returned (.tuple #[r, .int .i64 (flC F R)]) ∧ NOwns w' w.heap.size r (flY F R) ∧ Below w.heap.size w w' := by
  obtain ⟨ao, cp, ev⟩ := row.form
  rw [List.length_map] at ev
  have hB0 : Below w.heap.size w (w.alloc (.cells #[.bool F.sv, .int .i64 F.cw, .int .i64 F.sw, .int .i64 F.tw, .int .i64 F.ow, .int .i64 F.pc, .int .i64 F.ps, .int .i64 F.pt, .int .i64 F.po] 29)) := (Below.refl _ _).alloc (Nat.le_refl _) _
  by_cases a1 : 400 < R.length
  · have e1 : flC F R = 4 := if_pos a1
    have e2 : flY F R = [] := if_pos (Or.inl a1)
    rw [e1, e2, ev]
    unfold fsV
    have a1' : (400 : Int) < (R.length : Int) := by omega
    have HB : Hid _ := hB0
    generalize R.length = n at *
    clear row hof hB0
    go_enter Try.func8, Try.ntmps8
    go_wp2
    go_ret2
    exact ⟨_, rfl, nowns_nil _ _, HB.out⟩
  have V := fun u => validI F u
  have a1' : ¬ (400 : Int) < (R.length : Int) := by omega
  by_cases a2 : fsOK F = false
  · have e1 : flC F R = 1 := (if_neg a1).trans (if_pos a2)
    have e2 : flY F R = [] := if_pos (Or.inr a2)
    rw [e1, e2, ev]
    rw [a2] at V
    have HV : Hid _ := And.intro V hB0
    generalize R.length = n at *
    clear row hof e1 e2 hB0 V a2 ev
    unfold fsV at HV ⊢
    go_enter Try.func8, Try.ntmps8
    go_wp2_with (first | (go_at_call 18; refine (HV.out.1 _).mono ?_; rintro e w1 ⟨rfl, b1⟩))
    go_ret2
    exact ⟨_, rfl, nowns_nil _ _, HV.out.2.trans (b1.mono HV.out.2.size)⟩
  · have hF : fsOK F = true := by simpa using a2
    have e1 : flC F R = 0 := (if_neg a1).trans (if_neg a2)
    have e2 : flY F R = (List.range R.length).map (fobsAt F R) := if_neg (by intro q; rcases q with q | q; exact a1 q; exact a2 q)
    rw [e1, e2]
    rw [hF] at V
    have N := fun u => newFlowI F u
    have C2 : ∀ (w1 : World) (g b1 : Nat), w.heap.size ≤ b1 → FRep w1 g b1 F (fx0 F) → Below w.heap.size w w1 → Calls Try.prog 19 #[v, .func (.func 21) #[.pointer (some ⟨g, 0, none⟩)] #[]] w1 fun e w' => ∃ r, e = .returned r ∧ NOwns w' w.heap.size r ((List.range R.length).map (fobsAt F R)) ∧ Below w.heap.size w w' := fun w1 g b1 hb1 hr hb => by
      obtain ⟨wb, ms, ml, pb, P⟩ := hr
      refine runAllF g F hF v R w w1 hb row (by omega) hof ⟨wb, ms, ml, pb, ⟨P.bk, P.wk, P.ak, P.inj, P.nw, ?_, fun j hj => Nat.le_trans hb1 (P.lp j hj), P.sm, P.lm, P.ne⟩⟩
      have := P.lo
      omega
    have HH : Hid _ := And.intro V (And.intro N (And.intro C2 hB0))
    rw [ev] at HH ⊢
    generalize (List.range R.length).map (fobsAt F R) = Y at *
    generalize R.length = n at *
    clear row hof V N C2 e1 e2 ev hB0 hF a2
    unfold fsV at HH ⊢
    go_enter Try.func8, Try.ntmps8
    go_wp2_with fail
    go_at_call 18
    refine (HH.out.1 _).mono ?_
    rintro e w1 ⟨rfl, b1⟩
    have B1 := HH.out.2.2.2.trans (b1.mono HH.out.2.2.2.size)
    have k1 : w1.heap[w.heap.size]? = some (.cells #[.bool F.sv, .int .i64 F.cw, .int .i64 F.sw, .int .i64 F.tw, .int .i64 F.ow, .int .i64 F.pc, .int .i64 F.ps, .int .i64 F.pt, .int .i64 F.po] 29 (0, 0)) := (b1.block _ (by simp)).trans (heap_alloc_new _ _)
    have c0 : w1.cell? ⟨w.heap.size, 0, none⟩ = some (.bool F.sv) := (bk_cell k1 0).trans rfl
    have c1 : w1.cell? ⟨w.heap.size, 1, none⟩ = some (.int .i64 F.cw) := (bk_cell k1 1).trans rfl
    have c2 : w1.cell? ⟨w.heap.size, 2, none⟩ = some (.int .i64 F.sw) := (bk_cell k1 2).trans rfl
    have c3 : w1.cell? ⟨w.heap.size, 3, none⟩ = some (.int .i64 F.tw) := (bk_cell k1 3).trans rfl
    have c4 : w1.cell? ⟨w.heap.size, 4, none⟩ = some (.int .i64 F.ow) := (bk_cell k1 4).trans rfl
    have c5 : w1.cell? ⟨w.heap.size, 5, none⟩ = some (.int .i64 F.pc) := (bk_cell k1 5).trans rfl
    have c6 : w1.cell? ⟨w.heap.size, 6, none⟩ = some (.int .i64 F.ps) := (bk_cell k1 6).trans rfl
    have c7 : w1.cell? ⟨w.heap.size, 7, none⟩ = some (.int .i64 F.pt) := (bk_cell k1 7).trans rfl
    have c8 : w1.cell? ⟨w.heap.size, 8, none⟩ = some (.int .i64 F.po) := (bk_cell k1 8).trans rfl
    have H1 : Hid _ := B1
    clear b1 B1 k1
    go_wp2_with (first
      | (go_at_call 20; refine (HH.out.2.1 _).mono ?_; rintro e w2 ⟨g, rfl, P2, b2⟩; have H2 : Hid _ := And.intro P2 (H1.out.trans (b2.mono H1.out.size)); clear P2 b2)
      | (go_at_call 19; refine (HH.out.2.2.1 _ g _ H1.out.size H2.out.1 H2.out.2).mono ?_; rintro e w3 ⟨r, rfl, o3, b3⟩))
    go_ret2
    exact ⟨_, rfl, o3, b3⟩
end Go.Proofs.Ytcoakpmfappnlaa
