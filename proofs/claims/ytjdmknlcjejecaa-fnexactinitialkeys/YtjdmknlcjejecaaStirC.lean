import Derived.Test.YtjdmknlcjejecaaPartsB
import Derived.Test.YtjdmknlcjejecaaStir
import Derived.Laws.Rows
namespace Go.Proofs.Ytjdmknlcjejecaa
open Go.RowKit
set_option linter.unusedVariables false

theorem blkS_setCell {w : World} {g : Nat} {c : Array Value} {t : TypeId} {fr : Nat × Nat} (h : w.heap[g]? = some (.cells c t fr)) (o : Nat) (u : Value) : (w.setCell ⟨g, o, none⟩ u).heap[g]? = some (.cells (c.setIfInBounds o u) t fr) := by
  simp only [World.setCell, Array.getElem?_modify, if_true]
  rw [h]
  rfl
theorem blkS_other {w : World} {g k : Nat} (hk : k ≠ g) (o : Nat) (u : Value) : (w.setCell ⟨g, o, none⟩ u).heap[k]? = w.heap[k]? := Below.heap_setCell _ _ _ _ hk
/-- The state lies in block g, the answer's room behind it; below w's end nothing has turned. -/
structure StirAt (w wr : World) (g : Nat) (s : S4) : Prop where
  blk : wr.heap[g]? = some (.cells #[.int .u32 s.a, .int .u32 s.b, .int .u32 s.c, .int .u32 s.d] 45 (0, 0))
  out : wr.heap[g + 1]? = some (.cells #[.int .u32 0, .int .u32 0, .int .u32 0, .int .u32 0] 45 (0, 0))
  bel : Below w.heap.size w wr

theorem infoS4 : (Try.prog.info? 45).map (·.size) = some 4 := by kernel_rfl
theorem StirAt.drew {w wr : World} {g : Nat} {s : S4} (h : StirAt w wr g s) : StirAt w wr.drew g s := ⟨h.blk, h.out, ⟨h.bel.os, h.bel.tape, h.bel.output, h.bel.size, h.bel.block⟩⟩

theorem stir_none (s : S4) (hs : s.ok) (ao : Option Addr) (cap : Nat) (w : World) :
    Calls Try.prog 24 #[s.val, .slice ao 0 cap] w fun e w' => e = .returned s.val ∧ Below w.heap.size w w' := by
  obtain ⟨a, b, c, d⟩ := s
  unfold S4.val
  simp only
  clear hs
  go_enter Try.func24, Try.ntmps24
  go_wp2
  refine wp_loop_rounds 1 ?_
  rw [rounds_succ]
  go_wp2
  refine bodyPost_ret (v := .agg #[.int .u32 a, .int .u32 b, .int .u32 c, .int .u32 d]) (by simp [results, Try.results24, go_sem]) rfl ⟨rfl, ?_⟩
  exact ((Below.refl _ _).alloc (Nat.le_refl _) _).alloc (by simp) _

theorem two_newS (w : World) (o1 o2 : Obj) : ((w.alloc o1).alloc o2).heap[w.heap.size]? = some o1 ∧ ((w.alloc o1).alloc o2).heap[w.heap.size + 1]? = some o2 := by
  have h1 := (MapKept.heap_alloc w o1).1
  have h2 := (MapKept.heap_alloc (w.alloc o1) o2).1
  have e : (w.alloc o1).heap.size = w.heap.size + 1 := by simp
  refine ⟨?_, by rw [← e]; exact h2⟩
  rw [Below.heap_alloc (w.alloc o1) o2 _ (by rw [e]; omega)]
  exact h1

/-- What a round of the stirring leaves. -/
theorem stirAt_step {w wr : World} {t : S4} {x : Int} (h : StirAt w wr w.heap.size t) (w' : World) (e : w'.heap = (wr.setCell ⟨w.heap.size, 0, none⟩ (.int .u32 (stA t x))).heap) (eo : w'.os = wr.os) (et : w'.tape = wr.tape) (eu : w'.output = wr.output) :
    StirAt w ((((w'.setCell ⟨w.heap.size, 1, none⟩ (.int .u32 (stB t x))).setCell ⟨w.heap.size, 2, none⟩ (.int .u32 (stC t x))).setCell ⟨w.heap.size, 3, none⟩ (.int .u32 (stD t x))).setCell ⟨w.heap.size, 0, none⟩ (.int .u32 (stir1 t x).a)) w.heap.size (stir1 t x) := by
  have hb := blkS_setCell h.blk 0 (.int .u32 (stA t x))
  have ho : (wr.setCell ⟨w.heap.size, 0, none⟩ (.int .u32 (stA t x))).heap[w.heap.size + 1]? = _ := (blkS_other (by omega) 0 _).trans h.out
  have hbel : Below w.heap.size w (wr.setCell ⟨w.heap.size, 0, none⟩ (.int .u32 (stA t x))) := h.bel.setCell (Nat.le_refl _) _
  rw [← e] at hb ho
  have hbel' : Below w.heap.size w w' := ⟨eo.trans h.bel.os, et.trans h.bel.tape, eu.trans h.bel.output, by rw [e]; exact hbel.size, fun k hk => by rw [e]; exact hbel.block k hk⟩
  refine ⟨?_, ?_, (((hbel'.setCell (Nat.le_refl _) _).setCell (Nat.le_refl _) _).setCell (Nat.le_refl _) _).setCell (Nat.le_refl _) _⟩
  · rw [blkS_setCell (blkS_setCell (blkS_setCell (blkS_setCell hb 1 _) 2 _) 3 _) 0 _]
    rfl
  · rw [blkS_other (by omega), blkS_other (by omega), blkS_other (by omega), blkS_other (by omega)]
    exact ho

set_option maxHeartbeats 2000000 in
theorem stir_some (s : S4) (hs : s.ok) (b off cap n : Nat) (xs : List Int) (w : World) (hn : 0 < n) (hl : xs.length = n) (hn1 : n ≤ 4611686018427387903) (hb : b < w.heap.size) (hB : Bytes xs)
    (hc : ∀ j, j < n → w.cell? ⟨b, off + j, none⟩ = some (.int .u8 (xs.getD j 0))) :
    Calls Try.prog 24 #[s.val, .slice (some ⟨b, off, none⟩) n cap] w fun e w' => e = .returned (stirL s xs).val ∧ Below w.heap.size w w' := by
  have HC : Hid _ := And.intro hc (And.intro hB (And.intro hl hs))
  clear hc hB hl
  have e0 : s.val = .agg #[.int .u32 s.a, .int .u32 s.b, .int .u32 s.c, .int .u32 s.d] := rfl
  rw [e0]
  clear e0 hs
  go_enter Try.func24, Try.ntmps24
  go_wp2
  go_loopw [5] (fun i wr => ∃ k : Nat, k ≤ n ∧ i = .int .i64 (k : Int) ∧ StirAt w wr w.heap.size (stirL s (xs.take k))) (fun i _ => n - (intOf i).toNat)
  case atStart => exact ⟨0, by omega, rfl, ⟨(two_newS _ _ _).1, (two_newS _ _ _).2, ((Below.refl _ _).alloc (Nat.le_refl _) _).alloc (by simp) _⟩⟩
  case round =>
    obtain ⟨k, hk, rfl, st⟩ := hrel
    have ok := stirL_ok s (xs.take k) HC.out.2.2.2
    by_cases hlt : k < n
    · have es := stirL_take s xs k (by have := HC.out.2.2.1; omega)
      have bx := HC.out.2.1.at k
      have cx := (st.bel.cell (p := ⟨b, off + k, none⟩) hb).trans (HC.out.1 k hlt)
      obtain ⟨t, et⟩ : ∃ t, t = stirL s (xs.take k) := ⟨_, rfl⟩
      rw [← et] at st ok es
      obtain ⟨x, ex⟩ : ∃ x, x = xs.getD k 0 := ⟨_, rfl⟩
      rw [← ex] at bx cx es
      have HE : Hid (stirL s (xs.take (k + 1)) = stir1 t x) := es
      have c0 : wr.cell? ⟨w.heap.size, 0, none⟩ = some (.int .u32 t.a) := by rw [blkS_cell st.blk]; rfl
      have c1 : wr.cell? ⟨w.heap.size, 1, none⟩ = some (.int .u32 t.b) := by rw [blkS_cell st.blk]; rfl
      have c2 : wr.cell? ⟨w.heap.size, 2, none⟩ = some (.int .u32 t.c) := by rw [blkS_cell st.blk]; rfl
      have c3 : wr.cell? ⟨w.heap.size, 3, none⟩ = some (.int .u32 t.d) := by rw [blkS_cell st.blk]; rfl
      have f0 := blkS_free st.blk 0
      have f1 := blkS_free st.blk 1
      have f2 := blkS_free st.blk 2
      have f3 := blkS_free st.blk 3
      have hne : b ≠ w.heap.size := by omega
      have HS : Hid _ := st
      obtain ⟨⟨a0, a1⟩, ⟨b0, b1⟩, ⟨g0, g1⟩, ⟨d0, d1⟩⟩ := ok
      clear st es ex et
      have uA : U32 (stA t x) := by unfold U32 stA; omega
      have uB : U32 (stB t x) := bits32_or _ _
      have uC : U32 (stC t x) := bits32_or _ _
      have uD : U32 (stD t x) := bits32_or _ _
      go_wp2
      go_region
      go_wp2_with fail
      go_at_call 34
      refine (rot_7 _ _ ?_ ?_).mono ?_
      · omega
      · omega
      rintro e w' ⟨rfl, rfl⟩
      go_wp2_with fail
      go_at_call 34
      refine (rot_13 _ _ (bits32_xor _ _).1 (bits32_xor _ _).2).mono ?_
      rintro e w' ⟨rfl, rfl⟩
      go_wp2_with fail
      go_at_call 34
      refine (rot_17 _ _ ?_ ?_).mono ?_
      · omega
      · omega
      rintro e w' ⟨rfl, rfl⟩
      go_wp2
      go_roundw
      case rel =>
        refine ⟨k + 1, by omega, by go_num, ?_⟩
        rw [HE.out]
        exact (stirAt_step (x := x) HS.out (wr.setCell ⟨w.heap.size, 0, none⟩ (.int .u32 (stA t x))) rfl rfl rfl rfl).drew
      case measure => simp [intOf]; omega
    · obtain rfl : k = n := by omega
      have el : xs.take k = xs := List.take_of_length_le (by have := HC.out.2.2.1; omega)
      rw [el] at st ok
      obtain ⟨t, et⟩ : ∃ t, t = stirL s xs := ⟨_, rfl⟩
      rw [← et] at st ok
      have c0 : wr.cell? ⟨w.heap.size, 0, none⟩ = some (.int .u32 t.a) := by rw [blkS_cell st.blk]; rfl
      have c1 : wr.cell? ⟨w.heap.size, 1, none⟩ = some (.int .u32 t.b) := by rw [blkS_cell st.blk]; rfl
      have c2 : wr.cell? ⟨w.heap.size, 2, none⟩ = some (.int .u32 t.c) := by rw [blkS_cell st.blk]; rfl
      have c3 : wr.cell? ⟨w.heap.size, 3, none⟩ = some (.int .u32 t.d) := by rw [blkS_cell st.blk]; rfl
      have f0 := blkS_free st.out 0
      have f1 := blkS_free st.out 1
      have f2 := blkS_free st.out 2
      have f3 := blkS_free st.out 3
      have o0 : wr.cell? ⟨w.heap.size + 1, 0, none⟩ = some (.int .u32 0) := by rw [blkS_cell st.out]; rfl
      have o1 : wr.cell? ⟨w.heap.size + 1, 1, none⟩ = some (.int .u32 0) := by rw [blkS_cell st.out]; rfl
      have o2 : wr.cell? ⟨w.heap.size + 1, 2, none⟩ = some (.int .u32 0) := by rw [blkS_cell st.out]; rfl
      have o3 : wr.cell? ⟨w.heap.size + 1, 3, none⟩ = some (.int .u32 0) := by rw [blkS_cell st.out]; rfl
      have HS : Hid _ := And.intro st et
      clear st et
      go_wp2
      try simp only [Exit.inBlock, Exit.then]
      refine bodyPost_ret (v := .agg #[.int .u32 t.a, .int .u32 t.b, .int .u32 t.c, .int .u32 t.d]) ?_ rfl ?_
      · refine results_cell_row (t := 45) rfl _ _ (w.heap.size + 1) _ (fr := (0, 0)) _ rfl ?_ Try.underlying45 rfl infoS4
        rw [blkS_setCell (blkS_setCell (blkS_setCell (blkS_setCell HS.out.1.out 0 _) 1 _) 2 _) 3 _]
        rfl
      · refine ⟨by rw [HS.out.2]; rfl, ?_⟩
        exact (((HS.out.1.bel.setCell (by simp) _).setCell (by simp) _).setCell (by simp) _).setCell (by simp) _

theorem stirC (s : S4) (hs : s.ok) (v : Value) (xs : List Int) (w : World) (hrow : Row w .u8 v xs) (hB : Bytes xs) (hl : xs.length ≤ 4611686018427387903) :
    Calls Try.prog 24 #[s.val, v] w fun e w' => e = .returned (stirL s xs).val ∧ Below w.heap.size w w' := by
  by_cases h0 : xs.length = 0
  · obtain ⟨ao, cap, rfl⟩ := hrow.form
    rw [h0, List.eq_nil_of_length_eq_zero h0]
    exact stir_none s hs ao cap w
  · obtain ⟨b, off, cap, rfl, hb, hc⟩ := hrow.at (by omega)
    exact stir_some s hs b off cap xs.length xs w (by omega) rfl hl hb hB hc
end Go.Proofs.Ytjdmknlcjejecaa
