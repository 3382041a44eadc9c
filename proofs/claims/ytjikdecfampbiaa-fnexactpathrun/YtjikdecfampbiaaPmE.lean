import Derived.Test.YtjikdecfampbiaaPmC
import Derived.Deep.RegionLaw
namespace Go.Proofs.Ytjikdecfampbiaa
open Go.RowKit
set_option linter.unusedVariables false
set_option linter.unusedSimpArgs false

theorem infoI : (Try.prog.info? 3).map (fun i => (i.zero, i.size, i.bytes)) = some (some (.int .i64 0), 1, 8) := by kernel_rfl
theorem infoT : (Try.prog.info? 4).map (fun i => (i.zero, i.size, i.bytes)) = some (some (.bool false), 1, 1) := by kernel_rfl
theorem mk256 (ts e : TypeId) (z : Value) (B : Nat) (hu : Try.prog.underlying ts = some (.slice e)) (hinfo : (Try.prog.info? e).map (fun i => (i.zero, i.size, i.bytes)) = some (some z, 1, B)) (hB : B ≤ 8) (hz : z.cells = #[z]) : ∃ M : Array Value, (∀ W : World, (Instr.makeSlice ts (.int .i64 256) (.int .i64 256)).run Try.prog W = .ok (.slice (some ⟨W.heap.size, 0, none⟩) 256 256) (W.alloc (.cells M e))) ∧ M.size = 256 ∧ ∀ k, k < 256 → M[k]? = some z := by
  obtain ⟨i, hi, hz0, hsz, hby⟩ := info_parts hinfo
  refine ⟨madeCells z.cells (256 * 1), fun W => ?_, ?_, fun k hk => ?_⟩
  · have r := run_make (P := Try.prog) W ts e i z hu hi hz0 .i64 .i64 256 256 (by decide) (Int.le_refl _) (by rw [hby]; omega) (by decide)
    rw [hsz] at r
    exact r
  · rw [size_madeCells]
  · rw [← Array.getElem?_toList, hz, toList_madeCells_one, List.getElem?_replicate, if_pos (by omega)]
theorem bk_new4 (w : World) (o1 o2 o3 o4 : Obj) : ((((w.alloc o1).alloc o2).alloc o3).alloc o4).heap[w.heap.size]? = some o1 ∧ ((((w.alloc o1).alloc o2).alloc o3).alloc o4).heap[w.heap.size + 1]? = some o2 ∧ ((((w.alloc o1).alloc o2).alloc o3).alloc o4).heap[w.heap.size + 1 + 1]? = some o3 ∧ ((((w.alloc o1).alloc o2).alloc o3).alloc o4).heap[w.heap.size + 1 + 1 + 1]? = some o4 := by
  obtain ⟨h1, h2, h3⟩ := bk_new3 w o1 o2 o3
  have hs : (((w.alloc o1).alloc o2).alloc o3).heap.size = w.heap.size + 1 + 1 + 1 := by simp
  refine ⟨(heap_alloc_old _ o4 (by omega)).trans h1, (heap_alloc_old _ o4 (by omega)).trans h2, (heap_alloc_old _ o4 (by omega)).trans h3, ?_⟩
  have t := heap_alloc_new (((w.alloc o1).alloc o2).alloc o3) o4
  rw [hs] at t
  exact t
theorem mbNew {W : World} {x c1 c2 c3 base : Nat} {srv : Bool} {MI MT : Array Value} (bk : W.heap[x]? = some (.cells #[.bool srv, .int .i64 0, .slice (some ⟨c1, 0, none⟩) 256 256, .slice (some ⟨c2, 0, none⟩) 256 256, .slice (some ⟨c3, 0, none⟩) 256 256, .slice none 0 0] 48 (0, 0)))
    (h1 : W.heap[c1]? = some (.cells MI 3 (0, 0))) (h2 : W.heap[c2]? = some (.cells MI 3 (0, 0))) (h3 : W.heap[c3]? = some (.cells (MT.setIfInBounds 0 (.bool !srv)) 4 (0, 0))) (sI : MI.size = 256) (aI : ∀ k, k < 256 → MI[k]? = some (.int .i64 0)) (sT : MT.size = 256) (aT : ∀ k, k < 256 → MT[k]? = some (.bool false)) (ne : c1 ≠ c2) (lo : base ≤ x ∧ base ≤ c1 ∧ base ≤ c2 ∧ base ≤ c3) : MB W x c1 c2 c3 base (px0 srv) (.slice none 0 0) [] := by
  refine ⟨bk, ⟨MI, h1, sI, aI⟩, ⟨MI, h2, sI, aI⟩, ⟨_, h3, by simpa using sT, fun k hk => ?_⟩, ne, lo, rfl, OffR.nil _ _ _ _, fun z hz => by cases hz⟩
  show _ = some (Value.bool (updF (fun _ => false) 0 (!srv) k))
  by_cases e : k = 0
  · subst e; rw [arr_set, if_pos ⟨rfl, by omega⟩, updF_at]
  · rw [arr_set, if_neg (by omega), updF_ne _ _ _ _ e]; exact aT k hk
set_option maxRecDepth 20000 in
set_option maxHeartbeats 4000000 in
theorem newPM (srv : Bool) (w : World) :
    Calls Try.prog 14 #[.bool srv] w fun e w' => ∃ x c1 c2 c3, e = .returned (.pointer (some ⟨x, 0, none⟩)) ∧ MRp w' x c1 c2 c3 w.heap.size (px0 srv) ∧ Below w.heap.size w w' := by
  obtain ⟨MI, mI, sI, aI⟩ := mk256 44 3 (.int .i64 0) 8 Try.underlying44 infoI (by decide) rfl
  obtain ⟨MT, mT, sT, aT⟩ := mk256 45 4 (.bool false) 1 Try.underlying45 infoT (by decide) rfl
  have HM : Hid _ := And.intro sI (And.intro aI (And.intro sT aT))
  have t0 : MT[0]? = some (.bool false) := aT 0 (by decide)
  clear sI aI sT aT
  go_enter Try.func14, Try.ntmps14
  go_wp2_with fail
  go_region
  all_goals
    go_wp2_with fail
  all_goals
    go_ret
    refine ⟨_, _, _, _, rfl, ⟨_, [], mbNew (MI := MI) (MT := MT) (bk_new4 w _ _ _ _).2.2.2 ?_ ?_ ?_ HM.out.1 HM.out.2.1 HM.out.2.2.1 HM.out.2.2.2 (by omega) (by omega)⟩, ?_⟩
    · first | exact (bk_new4 w _ _ _ _).1 | exact (bk_new4 w _ _ _ _).2.1 | exact (bk_new4 w _ _ _ _).2.2.1
    · first | exact (bk_new4 w _ _ _ _).1 | exact (bk_new4 w _ _ _ _).2.1 | exact (bk_new4 w _ _ _ _).2.2.1
    · first | exact (bk_new4 w _ _ _ _).1 | exact (bk_new4 w _ _ _ _).2.1 | exact (bk_new4 w _ _ _ _).2.2.1
    · exact below_drewN ((((( Below.refl _ _).alloc (Nat.le_refl _) _).alloc (by simp) _).alloc (by simp; omega) _).alloc (by simp; omega) _) 1
end Go.Proofs.Ytjikdecfampbiaa
