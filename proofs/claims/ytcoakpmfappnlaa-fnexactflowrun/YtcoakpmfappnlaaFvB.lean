import Derived.Test.YtcoakpmfappnlaaFvA
namespace Go.Proofs.Ytcoakpmfappnlaa
open Go.RowKit
set_option linter.unusedVariables false
set_option linter.unusedSimpArgs false

theorem bdr {n : Nat} {w w' : World} (h : Below n w w') : Below n w w'.drew := ⟨h.os, h.tape, h.output, h.size, h.block⟩
theorem mkMapI (w : World) : (Instr.makeMap 67 none).run Try.prog w = .ok (.map (some w.heap.size)) (w.alloc (.map #[] 0)) := run_makeMap _ _
/-- The credit ahead of its counts. -/
def fxz (F : FS) : FX := ⟨[], fun _ => 0, fun _ => 0, fun _ => 0, fun _ => 0, F.pc, F.cw, 0⟩
def NF (w W : World) (F : FS) (m : FX) (g wb ms ml : Nat) : Prop := FR W g w.heap.size F m 0 0 wb ms ml (fun _ => 0) ∧ W.heap[w.heap.size]? = some (.cells #[.bool F.sv, .int .i64 F.cw, .int .i64 F.sw, .int .i64 F.tw, .int .i64 F.ow, .int .i64 F.pc, .int .i64 F.ps, .int .i64 F.pt, .int .i64 F.po] 29 (0, 0)) ∧ Below w.heap.size w W
theorem PM.empty {w : World} {b : Nat} (h : w.heap[b]? = some (.map #[] 0)) : PM w b 0 (fun _ => none) := ⟨_, ⟨#[], 0, h, ⟨by simp, MapKept.stamped_empty 0, by simp⟩, Nat.le_refl _, rfl⟩, fun id _ => rfl⟩
theorem nf_of {w W : World} {F : FS} {g wb ms ml : Nat} (hb : Below w.heap.size w W) (h0 : W.heap[w.heap.size]? = some (.cells #[.bool F.sv, .int .i64 F.cw, .int .i64 F.sw, .int .i64 F.tw, .int .i64 F.ow, .int .i64 F.pc, .int .i64 F.ps, .int .i64 F.pt, .int .i64 F.po] 29 (0, 0))) (hg : W.heap[g]? = some (.cells (fcells F (fxz F) wb ms ml) 72 (0, 0))) (hw : W.heap[wb]? = some (.cells #[.int .i64 F.cw, .int .i64 0, .int .i64 F.pc, .int .i64 0, .int .i64 0, .int .i64 F.cw] 99 (0, 0))) (hs : W.heap[ms]? = some (.map #[] 0)) (hl : W.heap[ml]? = some (.map #[] 0)) (hne : ms ≠ ml) (lo : w.heap.size ≤ g ∧ w.heap.size ≤ wb ∧ w.heap.size ≤ ms ∧ w.heap.size ≤ ml) : NF w W F (fxz F) g wb ms ml := by
  refine ⟨⟨hg, hw, fun j hj => absurd hj (Nat.not_lt_zero _), fun i j hi => absurd hi (Nat.not_lt_zero _), fun j hj => absurd hj (Nat.not_lt_zero _), lo, fun j hj => absurd hj (Nat.not_lt_zero _), ?_, ?_, hne⟩, h0, hb⟩
  · exact (PM.empty hs).congr fun id _ => mS_neg (Nat.not_lt_zero _)
  · exact (PM.empty hl).congr fun id _ => mL_neg (fun q => Nat.not_lt_zero _ q.1)
theorem bk_new5 (w : World) (o1 o2 o3 o4 o5 : Obj) : (((((w.alloc o1).alloc o2).alloc o3).alloc o4).alloc o5).drew.heap[w.heap.size]? = some o1 ∧ (((((w.alloc o1).alloc o2).alloc o3).alloc o4).alloc o5).drew.heap[w.heap.size + 1]? = some o2 ∧ (((((w.alloc o1).alloc o2).alloc o3).alloc o4).alloc o5).drew.heap[w.heap.size + 1 + 1]? = some o3 ∧ (((((w.alloc o1).alloc o2).alloc o3).alloc o4).alloc o5).drew.heap[w.heap.size + 1 + 1 + 1]? = some o4 ∧ (((((w.alloc o1).alloc o2).alloc o3).alloc o4).alloc o5).drew.heap[w.heap.size + 1 + 1 + 1 + 1]? = some o5 ∧ Below w.heap.size w (((((w.alloc o1).alloc o2).alloc o3).alloc o4).alloc o5).drew := by
  have e3 : (((w.alloc o1).alloc o2).alloc o3).heap.size = w.heap.size + 3 := by simp
  have e4 : ((((w.alloc o1).alloc o2).alloc o3).alloc o4).heap.size = w.heap.size + 4 := by simp
  obtain ⟨a, b, c⟩ := bk_new3 w o1 o2 o3
  have d : ((((w.alloc o1).alloc o2).alloc o3).alloc o4).heap[w.heap.size + 3]? = some o4 := by rw [← e3]; exact heap_alloc_new _ _
  have e : (((((w.alloc o1).alloc o2).alloc o3).alloc o4).alloc o5).heap[w.heap.size + 4]? = some o5 := by rw [← e4]; exact heap_alloc_new _ _
  have z : ∀ k, k < w.heap.size + 3 → (((((w.alloc o1).alloc o2).alloc o3).alloc o4).alloc o5).heap[k]? = (((w.alloc o1).alloc o2).alloc o3).heap[k]? := fun k hk => (Below.heap_alloc _ _ _ (by omega)).trans (Below.heap_alloc _ _ _ (by omega))
  refine ⟨(z _ (by omega)).trans a, (z _ (by omega)).trans b, (z _ (by omega)).trans c, (Below.heap_alloc _ _ _ (by omega)).trans d, e, bdr (((((((Below.refl _ _).alloc (Nat.le_refl _) _).alloc (by simp) _).alloc (by simp; omega) _).alloc (by simp; omega) _).alloc (by simp; omega) _))⟩
theorem NF.set {w W : World} {F : FS} {m : FX} {g wb ms ml : Nat} (h : NF w W F m g wb ms ml) (n : Nat) (b : Nat) (hb : b < 4) (x : Int) : NF w ((W.drewN n).setCell ⟨g, 10 + b * 2 + 1, none⟩ (.int .i64 x)) F (stT F m b x) g wb ms ml := by
  obtain ⟨P, h0, hB⟩ := h
  have HS := stT_L F m b x
  refine ⟨(P.drewN n).setK _ _ (fcells_st F m wb ms ml b x hb) HS.1 HS.2.1 HS.2.2.1 HS.2.2.2, ?_, (below_drewN hB n).setCell P.lo.1 _⟩
  exact (bk_other (bk_apart h0 P.bk (by decide)) _ _).trans h0
theorem fx0_st (F : FS) : stT F (stT F (stT F (stT F (fxz F) (bN F.sv false) F.pt) (bN F.sv true) F.po) (bN (!F.sv) false) F.tw) (bN (!F.sv) true) F.ow = fx0 F := by
  have e1 : bS (bN (!F.sv) true) ≠ F.sv := by rw [bS_bN]; cases F.sv <;> decide
  have e2 : bS (bN (!F.sv) false) ≠ F.sv := by rw [bS_bN]; cases F.sv <;> decide
  rw [stT_neg e1, stT_neg e2, stT_pos (bS_bN _ _), stT_pos (bS_bN _ _), bO_bN, bO_bN, bO_bN, bO_bN]
  unfold fx0 fxz
  dsimp only
  congr 1
  · funext x; cases x
    · rw [updB_ne _ _ _ _ (by decide), updB_at]; rfl
    · rw [updB_at]; rfl
  · funext x; cases x
    · rw [updB_ne _ _ _ _ (by decide), updB_at]; rfl
    · rw [updB_at]; rfl
theorem fz_cells (F : FS) (wb ms ml : Nat) : fcells F (fxz F) wb ms ml = #[.bool F.sv, .int .i64 F.cw, .int .i64 F.sw, .int .i64 F.tw, .int .i64 F.ow, .int .i64 F.pc, .int .i64 F.ps, .int .i64 F.pt, .int .i64 F.po, .pointer (some ⟨wb, 0, none⟩), .int .i64 0, .int .i64 0, .int .i64 0, .int .i64 0, .int .i64 0, .int .i64 0, .int .i64 0, .int .i64 0, .map (some (ms)), .map (some (ml))] := by
  have a : ∀ b, kO F (fxz F) b = 0 := fun b => by unfold kO fxz; split <;> rfl
  have c : ∀ b, kT F (fxz F) b = 0 := fun b => by unfold kT fxz; split <;> rfl
  unfold fcells
  rw [a, a, a, a, c, c, c, c]
theorem nf_123 (w : World) (F : FS) : NF w (((((w.alloc (.cells #[.bool F.sv, .int .i64 F.cw, .int .i64 F.sw, .int .i64 F.tw, .int .i64 F.ow, .int .i64 F.pc, .int .i64 F.ps, .int .i64 F.pt, .int .i64 F.po] 29)).alloc (.cells #[.int .i64 F.cw, .int .i64 0, .int .i64 F.pc, .int .i64 0, .int .i64 0, .int .i64 F.cw] 99)).alloc (.map #[] 0)).alloc (.map #[] 0)).alloc (.cells #[.bool F.sv, .int .i64 F.cw, .int .i64 F.sw, .int .i64 F.tw, .int .i64 F.ow, .int .i64 F.pc, .int .i64 F.ps, .int .i64 F.pt, .int .i64 F.po, .pointer (some ⟨w.heap.size + 1, 0, none⟩), .int .i64 0, .int .i64 0, .int .i64 0, .int .i64 0, .int .i64 0, .int .i64 0, .int .i64 0, .int .i64 0, .map (some (w.heap.size + 1 + 1)), .map (some (w.heap.size + 1 + 1 + 1))] 72)).drew F (fxz F) (w.heap.size + 1 + 1 + 1 + 1) (w.heap.size + 1) (w.heap.size + 1 + 1) (w.heap.size + 1 + 1 + 1) := by
  rw [← fz_cells]
  obtain ⟨h0, h1, h2, h3, h4, hb⟩ := bk_new5 w (.cells #[.bool F.sv, .int .i64 F.cw, .int .i64 F.sw, .int .i64 F.tw, .int .i64 F.ow, .int .i64 F.pc, .int .i64 F.ps, .int .i64 F.pt, .int .i64 F.po] 29) (.cells #[.int .i64 F.cw, .int .i64 0, .int .i64 F.pc, .int .i64 0, .int .i64 0, .int .i64 F.cw] 99) (.map #[] 0) (.map #[] 0) (.cells (fcells F (fxz F) (w.heap.size + 1) (w.heap.size + 1 + 1) (w.heap.size + 1 + 1 + 1)) 72)
  exact nf_of hb h0 h4 h1 h2 h3 (by omega) ⟨by omega, by omega, by omega, by omega⟩
theorem nf_132 (w : World) (F : FS) : NF w (((((w.alloc (.cells #[.bool F.sv, .int .i64 F.cw, .int .i64 F.sw, .int .i64 F.tw, .int .i64 F.ow, .int .i64 F.pc, .int .i64 F.ps, .int .i64 F.pt, .int .i64 F.po] 29)).alloc (.cells #[.int .i64 F.cw, .int .i64 0, .int .i64 F.pc, .int .i64 0, .int .i64 0, .int .i64 F.cw] 99)).alloc (.map #[] 0)).alloc (.map #[] 0)).alloc (.cells #[.bool F.sv, .int .i64 F.cw, .int .i64 F.sw, .int .i64 F.tw, .int .i64 F.ow, .int .i64 F.pc, .int .i64 F.ps, .int .i64 F.pt, .int .i64 F.po, .pointer (some ⟨w.heap.size + 1, 0, none⟩), .int .i64 0, .int .i64 0, .int .i64 0, .int .i64 0, .int .i64 0, .int .i64 0, .int .i64 0, .int .i64 0, .map (some (w.heap.size + 1 + 1 + 1)), .map (some (w.heap.size + 1 + 1))] 72)).drew F (fxz F) (w.heap.size + 1 + 1 + 1 + 1) (w.heap.size + 1) (w.heap.size + 1 + 1 + 1) (w.heap.size + 1 + 1) := by
  rw [← fz_cells]
  obtain ⟨h0, h1, h2, h3, h4, hb⟩ := bk_new5 w (.cells #[.bool F.sv, .int .i64 F.cw, .int .i64 F.sw, .int .i64 F.tw, .int .i64 F.ow, .int .i64 F.pc, .int .i64 F.ps, .int .i64 F.pt, .int .i64 F.po] 29) (.cells #[.int .i64 F.cw, .int .i64 0, .int .i64 F.pc, .int .i64 0, .int .i64 0, .int .i64 F.cw] 99) (.map #[] 0) (.map #[] 0) (.cells (fcells F (fxz F) (w.heap.size + 1) (w.heap.size + 1 + 1 + 1) (w.heap.size + 1 + 1)) 72)
  exact nf_of hb h0 h4 h1 h3 h2 (by omega) ⟨by omega, by omega, by omega, by omega⟩
theorem nf_213 (w : World) (F : FS) : NF w (((((w.alloc (.cells #[.bool F.sv, .int .i64 F.cw, .int .i64 F.sw, .int .i64 F.tw, .int .i64 F.ow, .int .i64 F.pc, .int .i64 F.ps, .int .i64 F.pt, .int .i64 F.po] 29)).alloc (.map #[] 0)).alloc (.cells #[.int .i64 F.cw, .int .i64 0, .int .i64 F.pc, .int .i64 0, .int .i64 0, .int .i64 F.cw] 99)).alloc (.map #[] 0)).alloc (.cells #[.bool F.sv, .int .i64 F.cw, .int .i64 F.sw, .int .i64 F.tw, .int .i64 F.ow, .int .i64 F.pc, .int .i64 F.ps, .int .i64 F.pt, .int .i64 F.po, .pointer (some ⟨w.heap.size + 1 + 1, 0, none⟩), .int .i64 0, .int .i64 0, .int .i64 0, .int .i64 0, .int .i64 0, .int .i64 0, .int .i64 0, .int .i64 0, .map (some (w.heap.size + 1)), .map (some (w.heap.size + 1 + 1 + 1))] 72)).drew F (fxz F) (w.heap.size + 1 + 1 + 1 + 1) (w.heap.size + 1 + 1) (w.heap.size + 1) (w.heap.size + 1 + 1 + 1) := by
  rw [← fz_cells]
  obtain ⟨h0, h1, h2, h3, h4, hb⟩ := bk_new5 w (.cells #[.bool F.sv, .int .i64 F.cw, .int .i64 F.sw, .int .i64 F.tw, .int .i64 F.ow, .int .i64 F.pc, .int .i64 F.ps, .int .i64 F.pt, .int .i64 F.po] 29) (.map #[] 0) (.cells #[.int .i64 F.cw, .int .i64 0, .int .i64 F.pc, .int .i64 0, .int .i64 0, .int .i64 F.cw] 99) (.map #[] 0) (.cells (fcells F (fxz F) (w.heap.size + 1 + 1) (w.heap.size + 1) (w.heap.size + 1 + 1 + 1)) 72)
  exact nf_of hb h0 h4 h2 h1 h3 (by omega) ⟨by omega, by omega, by omega, by omega⟩
theorem nf_231 (w : World) (F : FS) : NF w (((((w.alloc (.cells #[.bool F.sv, .int .i64 F.cw, .int .i64 F.sw, .int .i64 F.tw, .int .i64 F.ow, .int .i64 F.pc, .int .i64 F.ps, .int .i64 F.pt, .int .i64 F.po] 29)).alloc (.map #[] 0)).alloc (.cells #[.int .i64 F.cw, .int .i64 0, .int .i64 F.pc, .int .i64 0, .int .i64 0, .int .i64 F.cw] 99)).alloc (.map #[] 0)).alloc (.cells #[.bool F.sv, .int .i64 F.cw, .int .i64 F.sw, .int .i64 F.tw, .int .i64 F.ow, .int .i64 F.pc, .int .i64 F.ps, .int .i64 F.pt, .int .i64 F.po, .pointer (some ⟨w.heap.size + 1 + 1, 0, none⟩), .int .i64 0, .int .i64 0, .int .i64 0, .int .i64 0, .int .i64 0, .int .i64 0, .int .i64 0, .int .i64 0, .map (some (w.heap.size + 1 + 1 + 1)), .map (some (w.heap.size + 1))] 72)).drew F (fxz F) (w.heap.size + 1 + 1 + 1 + 1) (w.heap.size + 1 + 1) (w.heap.size + 1 + 1 + 1) (w.heap.size + 1) := by
  rw [← fz_cells]
  obtain ⟨h0, h1, h2, h3, h4, hb⟩ := bk_new5 w (.cells #[.bool F.sv, .int .i64 F.cw, .int .i64 F.sw, .int .i64 F.tw, .int .i64 F.ow, .int .i64 F.pc, .int .i64 F.ps, .int .i64 F.pt, .int .i64 F.po] 29) (.map #[] 0) (.cells #[.int .i64 F.cw, .int .i64 0, .int .i64 F.pc, .int .i64 0, .int .i64 0, .int .i64 F.cw] 99) (.map #[] 0) (.cells (fcells F (fxz F) (w.heap.size + 1 + 1) (w.heap.size + 1 + 1 + 1) (w.heap.size + 1)) 72)
  exact nf_of hb h0 h4 h2 h3 h1 (by omega) ⟨by omega, by omega, by omega, by omega⟩
theorem nf_312 (w : World) (F : FS) : NF w (((((w.alloc (.cells #[.bool F.sv, .int .i64 F.cw, .int .i64 F.sw, .int .i64 F.tw, .int .i64 F.ow, .int .i64 F.pc, .int .i64 F.ps, .int .i64 F.pt, .int .i64 F.po] 29)).alloc (.map #[] 0)).alloc (.map #[] 0)).alloc (.cells #[.int .i64 F.cw, .int .i64 0, .int .i64 F.pc, .int .i64 0, .int .i64 0, .int .i64 F.cw] 99)).alloc (.cells #[.bool F.sv, .int .i64 F.cw, .int .i64 F.sw, .int .i64 F.tw, .int .i64 F.ow, .int .i64 F.pc, .int .i64 F.ps, .int .i64 F.pt, .int .i64 F.po, .pointer (some ⟨w.heap.size + 1 + 1 + 1, 0, none⟩), .int .i64 0, .int .i64 0, .int .i64 0, .int .i64 0, .int .i64 0, .int .i64 0, .int .i64 0, .int .i64 0, .map (some (w.heap.size + 1)), .map (some (w.heap.size + 1 + 1))] 72)).drew F (fxz F) (w.heap.size + 1 + 1 + 1 + 1) (w.heap.size + 1 + 1 + 1) (w.heap.size + 1) (w.heap.size + 1 + 1) := by
  rw [← fz_cells]
  obtain ⟨h0, h1, h2, h3, h4, hb⟩ := bk_new5 w (.cells #[.bool F.sv, .int .i64 F.cw, .int .i64 F.sw, .int .i64 F.tw, .int .i64 F.ow, .int .i64 F.pc, .int .i64 F.ps, .int .i64 F.pt, .int .i64 F.po] 29) (.map #[] 0) (.map #[] 0) (.cells #[.int .i64 F.cw, .int .i64 0, .int .i64 F.pc, .int .i64 0, .int .i64 0, .int .i64 F.cw] 99) (.cells (fcells F (fxz F) (w.heap.size + 1 + 1 + 1) (w.heap.size + 1) (w.heap.size + 1 + 1)) 72)
  exact nf_of hb h0 h4 h3 h1 h2 (by omega) ⟨by omega, by omega, by omega, by omega⟩
theorem nf_321 (w : World) (F : FS) : NF w (((((w.alloc (.cells #[.bool F.sv, .int .i64 F.cw, .int .i64 F.sw, .int .i64 F.tw, .int .i64 F.ow, .int .i64 F.pc, .int .i64 F.ps, .int .i64 F.pt, .int .i64 F.po] 29)).alloc (.map #[] 0)).alloc (.map #[] 0)).alloc (.cells #[.int .i64 F.cw, .int .i64 0, .int .i64 F.pc, .int .i64 0, .int .i64 0, .int .i64 F.cw] 99)).alloc (.cells #[.bool F.sv, .int .i64 F.cw, .int .i64 F.sw, .int .i64 F.tw, .int .i64 F.ow, .int .i64 F.pc, .int .i64 F.ps, .int .i64 F.pt, .int .i64 F.po, .pointer (some ⟨w.heap.size + 1 + 1 + 1, 0, none⟩), .int .i64 0, .int .i64 0, .int .i64 0, .int .i64 0, .int .i64 0, .int .i64 0, .int .i64 0, .int .i64 0, .map (some (w.heap.size + 1 + 1)), .map (some (w.heap.size + 1))] 72)).drew F (fxz F) (w.heap.size + 1 + 1 + 1 + 1) (w.heap.size + 1 + 1 + 1) (w.heap.size + 1 + 1) (w.heap.size + 1) := by
  rw [← fz_cells]
  obtain ⟨h0, h1, h2, h3, h4, hb⟩ := bk_new5 w (.cells #[.bool F.sv, .int .i64 F.cw, .int .i64 F.sw, .int .i64 F.tw, .int .i64 F.ow, .int .i64 F.pc, .int .i64 F.ps, .int .i64 F.pt, .int .i64 F.po] 29) (.map #[] 0) (.map #[] 0) (.cells #[.int .i64 F.cw, .int .i64 0, .int .i64 F.pc, .int .i64 0, .int .i64 0, .int .i64 F.cw] 99) (.cells (fcells F (fxz F) (w.heap.size + 1 + 1 + 1) (w.heap.size + 1 + 1) (w.heap.size + 1)) 72)
  exact nf_of hb h0 h4 h3 h2 h1 (by omega) ⟨by omega, by omega, by omega, by omega⟩
set_option maxRecDepth 20000 in
set_option maxHeartbeats 4000000 in
theorem newFlowI (F : FS) (w : World) : Calls Try.prog 20 #[fsV F] w fun e w' => ∃ g, e = .returned (.pointer (some ⟨g, 0, none⟩)) ∧ FRep w' g w.heap.size F (fx0 F) ∧ Below w.heap.size w w' := by
  unfold fsV
  have MK := mkMapI
  go_enter Try.func20, Try.ntmps20
  go_upto_region 1 with fail
  go_cut [3] from 4 to 14 (fun v3 wx => ∃ g wb ms ml, v3 = .pointer (some ⟨g, 0, none⟩) ∧ NF w wx F (fxz F) g wb ms ml)
  case first =>
    have KK : ∀ W' : World, Below (w.alloc (.cells #[.bool F.sv, .int .i64 F.cw, .int .i64 F.sw, .int .i64 F.tw, .int .i64 F.ow, .int .i64 F.pc, .int .i64 F.ps, .int .i64 F.pt, .int .i64 F.po] 29)).heap.size (w.alloc (.cells #[.bool F.sv, .int .i64 F.cw, .int .i64 F.sw, .int .i64 F.tw, .int .i64 F.ow, .int .i64 F.pc, .int .i64 F.ps, .int .i64 F.pt, .int .i64 F.po] 29)) W' → (W'.cell? ⟨w.heap.size, 0, none⟩ = some (.bool F.sv) ∧ W'.cell? ⟨w.heap.size, 1, none⟩ = some (.int .i64 F.cw) ∧ W'.cell? ⟨w.heap.size, 2, none⟩ = some (.int .i64 F.sw) ∧ W'.cell? ⟨w.heap.size, 3, none⟩ = some (.int .i64 F.tw) ∧ W'.cell? ⟨w.heap.size, 4, none⟩ = some (.int .i64 F.ow) ∧ W'.cell? ⟨w.heap.size, 5, none⟩ = some (.int .i64 F.pc) ∧ W'.cell? ⟨w.heap.size, 6, none⟩ = some (.int .i64 F.ps) ∧ W'.cell? ⟨w.heap.size, 7, none⟩ = some (.int .i64 F.pt) ∧ W'.cell? ⟨w.heap.size, 8, none⟩ = some (.int .i64 F.po)) := fun W' hb => by
      have e : W'.heap[w.heap.size]? = some (.cells #[.bool F.sv, .int .i64 F.cw, .int .i64 F.sw, .int .i64 F.tw, .int .i64 F.ow, .int .i64 F.pc, .int .i64 F.ps, .int .i64 F.pt, .int .i64 F.po] 29 (0, 0)) := (hb.block _ (by simp)).trans (heap_alloc_new _ _)
      exact ⟨(bk_cell e 0).trans rfl, (bk_cell e 1).trans rfl, (bk_cell e 2).trans rfl, (bk_cell e 3).trans rfl, (bk_cell e 4).trans rfl, (bk_cell e 5).trans rfl, (bk_cell e 6).trans rfl, (bk_cell e 7).trans rfl, (bk_cell e 8).trans rfl⟩
    go_wp2_with fail
    go_region_held3 (fun w' => w'.cell? ⟨w.heap.size, 0, none⟩ = some (.bool F.sv) ∧ w'.cell? ⟨w.heap.size, 1, none⟩ = some (.int .i64 F.cw) ∧ w'.cell? ⟨w.heap.size, 2, none⟩ = some (.int .i64 F.sw) ∧ w'.cell? ⟨w.heap.size, 3, none⟩ = some (.int .i64 F.tw) ∧ w'.cell? ⟨w.heap.size, 4, none⟩ = some (.int .i64 F.ow) ∧ w'.cell? ⟨w.heap.size, 5, none⟩ = some (.int .i64 F.pc) ∧ w'.cell? ⟨w.heap.size, 6, none⟩ = some (.int .i64 F.ps) ∧ w'.cell? ⟨w.heap.size, 7, none⟩ = some (.int .i64 F.pt) ∧ w'.cell? ⟨w.heap.size, 8, none⟩ = some (.int .i64 F.po)) (first | exact KK _ (by repeat (first | (with_reducible exact Below.refl _ _) | (with_reducible refine bdr ?_) | (with_reducible refine Below.alloc ?_ (by simp <;> omega) _))))
      (first
      | (go_at_call 33; refine (newAccI _ _ _).mono ?_; rintro e w3 ⟨rfl, hw3⟩; subst hw3))
    all_goals
      go_wp2
      go_meet
      exact ⟨_, _, _, _, rfl, by first | exact nf_123 w F | exact nf_132 w F | exact nf_213 w F | exact nf_231 w F | exact nf_312 w F | exact nf_321 w F⟩
  case rest =>
  obtain ⟨g, wb, ms, ml, rfl, N0⟩ := hcut
  have HN0 : Hid _ := N0
  clear N0
  go_upto_region 2 with fail
  go_cut [] from 14 to 19 (fun wx => NF w wx F (stT F (fxz F) (bN F.sv false) F.pt) g wb ms ml)
  case first =>
    have P := HN0.out.1
    have KI := fun u => kindI g F.sv true false u
    have eb : (F.sv == true) = F.sv := by cases F.sv <;> rfl
    rw [eb] at KI
    have hb := bN_lt F.sv false
    have k1 := (P.kc (bN F.sv false) hb).2
    have f1 := (P.kfree (bN F.sv false)).2
    have c0 := P.cell 0
    have cs : _ = some (Value.int .i64 F.pt) := bk_cell HN0.out.2.1 7
    have NS := fun q => (show NF w wc F _ g wb ms ml from HN0.out).set q (bN F.sv false) hb F.pt
    have HK : Hid _ := And.intro (KI _ (c0.trans rfl)) (And.intro NS KI)
    clear KI eb NS P c0
    generalize bN F.sv false = b at *
    generalize kT F _ b = t0 at *
    go_wp2_with fail
    go_region_with (first | (go_at_call 34; refine (HK.out.2.2 _ ?_).mono ?_; exact (HN0.out.1.cell 0); rintro e w3 ⟨rfl, q, hw3⟩; subst hw3))
    all_goals
      go_wp2
      go_meet
      exact HK.out.2.1 _
  case rest =>
  have HN1 : Hid _ := hcut
  clear hcut
  go_upto_region 3 with fail
  go_cut [] from 20 to 25 (fun wx => NF w wx F (stT F (stT F (fxz F) (bN F.sv false) F.pt) (bN F.sv true) F.po) g wb ms ml)
  case first =>
    have P := HN1.out.1
    have KI := fun u => kindI g F.sv true true u
    have eb : (F.sv == true) = F.sv := by cases F.sv <;> rfl
    rw [eb] at KI
    have hb := bN_lt F.sv true
    have k1 := (P.kc (bN F.sv true) hb).2
    have f1 := (P.kfree (bN F.sv true)).2
    have c0 := P.cell 0
    have cs : _ = some (Value.int .i64 F.po) := bk_cell HN1.out.2.1 8
    have NS := fun q => (show NF w wc F _ g wb ms ml from HN1.out).set q (bN F.sv true) hb F.po
    have HK : Hid _ := And.intro (KI _ (c0.trans rfl)) (And.intro NS KI)
    clear KI eb NS P c0
    generalize bN F.sv true = b at *
    generalize kT F _ b = t0 at *
    go_wp2_with fail
    go_region_with (first | (go_at_call 34; refine (HK.out.2.2 _ ?_).mono ?_; exact (HN1.out.1.cell 0); rintro e w3 ⟨rfl, q, hw3⟩; subst hw3))
    all_goals
      go_wp2
      go_meet
      exact HK.out.2.1 _
  case rest =>
  have HN2 : Hid _ := hcut
  clear hcut
  go_upto_region 4 with fail
  go_cut [] from 26 to 31 (fun wx => NF w wx F (stT F (stT F (stT F (fxz F) (bN F.sv false) F.pt) (bN F.sv true) F.po) (bN (!F.sv) false) F.tw) g wb ms ml)
  case first =>
    have P := HN2.out.1
    have KI := fun u => kindI g F.sv false false u
    have eb : (F.sv == false) = (!F.sv) := by cases F.sv <;> rfl
    rw [eb] at KI
    have hb := bN_lt (!F.sv) false
    have k1 := (P.kc (bN (!F.sv) false) hb).2
    have f1 := (P.kfree (bN (!F.sv) false)).2
    have c0 := P.cell 0
    have cs : _ = some (Value.int .i64 F.tw) := bk_cell HN2.out.2.1 3
    have NS := fun q => (show NF w wc F _ g wb ms ml from HN2.out).set q (bN (!F.sv) false) hb F.tw
    have HK : Hid _ := And.intro (KI _ (c0.trans rfl)) (And.intro NS KI)
    clear KI eb NS P c0
    generalize bN (!F.sv) false = b at *
    generalize kT F _ b = t0 at *
    go_wp2_with fail
    go_region_with (first | (go_at_call 34; refine (HK.out.2.2 _ ?_).mono ?_; exact (HN2.out.1.cell 0); rintro e w3 ⟨rfl, q, hw3⟩; subst hw3))
    all_goals
      go_wp2
      go_meet
      exact HK.out.2.1 _
  case rest =>
  have HN3 : Hid _ := hcut
  clear hcut
  go_upto_region 5 with fail
  go_cut [] from 32 to 37 (fun wx => NF w wx F (stT F (stT F (stT F (stT F (fxz F) (bN F.sv false) F.pt) (bN F.sv true) F.po) (bN (!F.sv) false) F.tw) (bN (!F.sv) true) F.ow) g wb ms ml)
  case first =>
    have P := HN3.out.1
    have KI := fun u => kindI g F.sv false true u
    have eb : (F.sv == false) = (!F.sv) := by cases F.sv <;> rfl
    rw [eb] at KI
    have hb := bN_lt (!F.sv) true
    have k1 := (P.kc (bN (!F.sv) true) hb).2
    have f1 := (P.kfree (bN (!F.sv) true)).2
    have c0 := P.cell 0
    have cs : _ = some (Value.int .i64 F.ow) := bk_cell HN3.out.2.1 4
    have NS := fun q => (show NF w wc F _ g wb ms ml from HN3.out).set q (bN (!F.sv) true) hb F.ow
    have HK : Hid _ := And.intro (KI _ (c0.trans rfl)) (And.intro NS KI)
    clear KI eb NS P c0
    generalize bN (!F.sv) true = b at *
    generalize kT F _ b = t0 at *
    go_wp2_with fail
    go_region_with (first | (go_at_call 34; refine (HK.out.2.2 _ ?_).mono ?_; exact (HN3.out.1.cell 0); rintro e w3 ⟨rfl, q, hw3⟩; subst hw3))
    all_goals
      go_wp2
      go_meet
      exact HK.out.2.1 _
  case rest =>
  have HN4 : Hid _ := hcut
  clear hcut
  go_wp2
  go_ret
  have N4 := HN4.out
  rw [fx0_st] at N4
  exact ⟨g, rfl, ⟨wb, ms, ml, _, N4.1⟩, N4.2.2⟩
end Go.Proofs.Ytcoakpmfappnlaa
