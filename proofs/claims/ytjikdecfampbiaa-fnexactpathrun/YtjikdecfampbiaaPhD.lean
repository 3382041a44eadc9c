import Derived.Test.YtjikdecfampbiaaPhC
import Derived.Deep.LoopGhost
import Derived.Lib.MinMax
namespace Go.Proofs.Ytjikdecfampbiaa
open Go.RowKit
set_option linter.unusedVariables false
set_option linter.unusedSimpArgs false

/-- A clearing within a block of one's own: the places ahead of it and behind it stay. -/
theorem run_clear_off {P : Program} (w : World) (T ty elem : TypeId) (g o n cap K : Nat) (cur : Array Value) (t : TypeId) (i0 : TypeInfo) (z : Value)
    (hu : P.underlying T = some (.slice elem)) (hi : P.info? elem = some i0) (hz : i0.zero = some z) (hK : z.cells.size = K) (hK0 : 0 < K) (h1 : ∀ u ∈ z.cells.toList, u.oneCell' = true)
    (hg : w.heap[g]? = some (.cells cur t (0, 0))) (hfit : o + n * K ≤ cur.size) :
    ∃ w', (Builtin.clear_ #[T] ty #[.slice (some ⟨g, o, none⟩) n cap]).run P w = .ok (.tuple #[]) w' ∧ (∃ cur' : Array Value, w'.heap[g]? = some (.cells cur' t (0, 0)) ∧ cur'.size = cur.size ∧ ∀ i, i < o → cur'[i]? = cur[i]?) ∧ w.grownBy w' (some g) := by
  by_cases h0 : n = 0
  · subst h0
    exact ⟨w, by simp [Builtin.clear_, run_underlying hu], ⟨cur, hg, rfl, fun _ _ => rfl⟩, ⟨rfl, rfl, rfl, Nat.le_refl _, fun _ _ _ => rfl⟩⟩
  obtain ⟨m, rfl⟩ : ∃ m, n = m + 1 := ⟨n - 1, by omega⟩
  obtain ⟨zs, ezs⟩ : ∃ zs, zs = (Builtin.zeroCells z.cells (m + 1)).toList := ⟨_, rfl⟩
  have hl : zs.length = (m + 1) * K := by rw [ezs, Array.length_toList, size_zeroCells, hK]
  have hone : ∀ v ∈ zs, v.oneCell' = true := fun v hv => by
    rw [ezs] at hv
    simp only [Builtin.zeroCells, Array.toList_map, List.mem_map] at hv
    obtain ⟨i, _, rfl⟩ := hv
    have hlt : i % z.cells.size < z.cells.size := Nat.mod_lt _ (by omega)
    rw [getElem!_pos z.cells _ hlt]
    exact h1 _ (by simp)
  have hst := run_storeCells_cells (P := P) g o zs 0 w (fun j hj => by rw [bk_cell hg, Array.getElem?_eq_getElem (by omega)]; rfl) (fun j hj => bk_free hg _) hone
  rw [Nat.add_zero] at hst
  obtain ⟨cur', q1, q2, q3⟩ := heap_setCells g t (0, 0) zs o w cur hg
  refine ⟨w.setCells g o zs, ?_, ⟨cur', q1, q2, fun i hi => ?_⟩, grown_setCells g _ _ w⟩
  · rw [ezs] at hst
    simp [Builtin.clear_, run_underlying hu, zeroValue, typeInfo, hi, hz, hst, ezs]
  · by_cases c : i < cur.size
    · rw [q3 i c, if_neg (by omega)]
    · rw [Array.getElem?_eq_none (by omega), Array.getElem?_eq_none (by omega)]
theorem wpList_clear_off {w : World} {ops : Array Oper} {rest : List Oper} {oo : Oper} {a : Act} {Q : Exit → Act → World → Prop} (hgd : oo.guard = none) (s : Operand) (T elem : TypeId)
    (ho : oo.op = .call { callee := .builtin .clear, args := #[s], argTypes := #[T] })
    (g o n cap K : Nat) (cur : Array Value) (t : TypeId) (z : Value) (B : Nat) (hu : Try.prog.underlying T = some (.slice elem)) (hinfo : (Try.prog.info? elem).map (fun i => (i.zero, i.size, i.bytes)) = some (some z, K, B)) (hK : z.cells.size = K) (hK0 : 0 < K) (h1 : ∀ u ∈ z.cells.toList, u.oneCell' = true)
    (hs : a.eval s = .slice (some ⟨g, o, none⟩) n cap) (hg : w.heap[g]? = some (.cells cur t (0, 0))) (hfit : o + n * K ≤ cur.size)
    (h : ∀ w' cur', w'.heap[g]? = some (.cells cur' t (0, 0)) → cur'.size = cur.size → (∀ i, i < o → cur'[i]? = cur[i]?) → w.grownBy w' (some g) → wpList Try.prog ops Q rest (a.put oo.dst (.tuple #[])) w') : wpList Try.prog ops Q (oo :: rest) a w := by
  obtain ⟨i0, hi, hz0, hz1, hz2⟩ := info_parts hinfo
  refine wpList_plain hgd fun KK hKK => ?_
  obtain ⟨w', hrun, ⟨cur', a1, a2, a3⟩, a4⟩ := run_clear_off (P := Try.prog) w T oo.type elem g o n cap K cur t i0 z hu hi hz0 hK hK0 h1 hg hfit
  unfold Oper.wp
  simp [execOp, ho, resolve, invoke, builtin, hs, hrun, Result.andThen]
  exact hKK _ _ (h w' cur' a1 a2 a3 a4)
/-- The cells of one that waits. -/
theorem wrow9 {c : List Int × Nat} (h : c.1.length = 8) : ∃ x0 x1 x2 x3 x4 x5 x6 x7 : Int, wrow c = [.int .u8 x0, .int .u8 x1, .int .u8 x2, .int .u8 x3, .int .u8 x4, .int .u8 x5, .int .u8 x6, .int .u8 x7, .int .i64 (c.2 : Int)] := by
  obtain ⟨x0, x1, x2, x3, x4, x5, x6, x7, e⟩ := len8 h
  exact ⟨x0, x1, x2, x3, x4, x5, x6, x7, by unfold wrow; rw [e]; rfl⟩
theorem getD_mem {α : Type} (L : List α) (d : α) (k : Nat) (h : k < L.length) : L.getD k d ∈ L := by
  simp [List.getD, h]
def idxR (L : List (List Int × Nat)) (p : List Int × Nat → Bool) : Int := if L.findIdx p < L.length then (L.findIdx p : Int) else -1
set_option maxRecDepth 20000 in
set_option maxHeartbeats 2000000 in
theorem idxI1 (cap : Value) (v : Value) (L : List (List Int × Nat)) (p : List Int × Nat → Bool) (w : World) (hr : GRow 9 w v (L.map wrow)) (hl : L.length ≤ 4) (h8 : ∀ c ∈ L, c.1.length = 8)
    (hC : ∀ c ∈ L, ∀ u : World, Below w.heap.size w u → Calls Try.prog 38 #[.agg (wrow c).toArray, cap] u fun e u' => e = .returned (.bool (p c)) ∧ Below u.heap.size u u') :
    Calls Try.prog 37 #[v, .func (.func 38) #[] #[cap]] w fun e w' => e = .returned (.int .i64 (idxR L p)) ∧ Below w.heap.size w w' := by
  obtain ⟨n, en⟩ : ∃ n, n = L.length := ⟨_, rfl⟩
  have em : (L.map wrow).length = n := by rw [List.length_map, en]
  obtain ⟨ao, cp, ev⟩ := hr.form
  rw [em] at ev
  have HH : Hid _ := And.intro hC (And.intro hr (And.intro en (And.intro em h8)))
  have hln : n ≤ 4 := by omega
  clear hC hr en em h8 hl
  subst ev
  go_enter Try.func37, Try.ntmps37
  go_wp2_with fail
  go_loopg [8] n (fun q x wr => ∃ k : Nat, k ≤ n ∧ q = n - k ∧ x = .int .i64 (k : Int) ∧ (∀ j, j < k → p (L.getD j default) = false) ∧ Below w.heap.size w wr)
  case atStart => exact ⟨0, Nat.zero_le _, rfl, rfl, fun j hj => by omega, Below.refl _ _⟩
  case round =>
    obtain ⟨k, hk, hq, rfl, hno, bw⟩ := hrel
    by_cases hlt : k < n
    · obtain ⟨b2, o2, c2, ev, hbl, hc⟩ := (HH.out.2.1.below bw).at' (by rw [HH.out.2.2.2.1]; omega)
      rw [HH.out.2.2.2.1] at ev hc
      simp only [Value.slice.injEq] at ev
      obtain ⟨rfl, -, rfl⟩ := ev
      have hmem : L.getD k default ∈ L := getD_mem _ _ _ (by have := HH.out.2.2.1; omega)
      obtain ⟨x0, x1, x2, x3, x4, x5, x6, x7, ec⟩ := wrow9 (HH.out.2.2.2.2 _ hmem)
      have hck := hc k hlt
      rw [map_at wrow L default k (by have := HH.out.2.2.1; omega), ec] at hck
      have r0 : wr.cell? ⟨b2, o2 + k * 9, none⟩ = _ := hck 0 (by omega)
      have r1 : wr.cell? ⟨b2, o2 + k * 9 + 1, none⟩ = _ := hck 1 (by omega)
      have r2 : wr.cell? ⟨b2, o2 + k * 9 + 2, none⟩ = _ := hck 2 (by omega)
      have r3 : wr.cell? ⟨b2, o2 + k * 9 + 3, none⟩ = _ := hck 3 (by omega)
      have r4 : wr.cell? ⟨b2, o2 + k * 9 + 4, none⟩ = _ := hck 4 (by omega)
      have r5 : wr.cell? ⟨b2, o2 + k * 9 + 5, none⟩ = _ := hck 5 (by omega)
      have r6 : wr.cell? ⟨b2, o2 + k * 9 + 6, none⟩ = _ := hck 6 (by omega)
      have r7 : wr.cell? ⟨b2, o2 + k * 9 + 7, none⟩ = _ := hck 7 (by omega)
      have r8 : wr.cell? ⟨b2, o2 + k * 9 + 8, none⟩ = _ := hck 8 (by omega)
      dsimp only [List.getElem?_cons_zero, List.getElem?_cons_succ] at r0 r1 r2 r3 r4 r5 r6 r7 r8
      have CL := HH.out.1 _ hmem wr bw
      rw [ec] at CL
      generalize (L.getD k default).2 = a2 at *
      have HC : Hid _ := And.intro CL (And.intro hno bw)
      clear CL hno bw hc hck ec hmem
      cases hp : p (L.getD k default) with
      | true =>
        rw [hp] at HC
        go_wp2_with fail
        go_at_call 38
        refine HC.out.1.mono ?_
        rintro e w2 ⟨rfl, b2'⟩
        have H3 : Hid _ := And.intro b2' True.intro
        clear b2'
        go_wp2_with fail
        go_ret
        have hlt2 : k < L.length := by have := HH.out.2.2.1; omega
        have hf : L.findIdx p = k := (List.findIdx_eq hlt2).2 ⟨by simpa [List.getD, hlt2] using hp, fun j hj => by have := HC.out.2.1 j hj; simpa [List.getD, show j < L.length by omega] using this⟩
        refine ⟨by unfold idxR; rw [hf, if_pos hlt2]; rfl, HC.out.2.2.trans (H3.out.1.mono HC.out.2.2.size)⟩
      | false =>
        rw [hp] at HC
        go_wp2_with fail
        go_at_call 38
        refine HC.out.1.mono ?_
        rintro e w2 ⟨rfl, b2'⟩
        have H3 : Hid _ := And.intro b2' True.intro
        clear b2'
        go_wp2_with fail
        go_roundg (n - (k + 1))
        case measure => omega
        case rel => exact ⟨k + 1, by omega, rfl, by go_num, fun j hj => by
          by_cases hjk : j = k
          · rw [hjk]; exact hp
          · exact HC.out.2.1 j (by omega), HC.out.2.2.trans (H3.out.1.mono HC.out.2.2.size)⟩
    · obtain rfl : k = n := by omega
      have HC : Hid _ := And.intro hno bw
      clear hno bw
      go_wp2_with fail
      go_ret
      have hf : L.findIdx p = L.length := List.findIdx_eq_length.2 (fun x hx => by
        obtain ⟨j, hj, rfl⟩ := List.getElem_of_mem hx
        have := HC.out.1 j (by have := HH.out.2.2.1; omega)
        simpa [List.getD, hj] using this)
      refine ⟨by unfold idxR; rw [hf, if_neg (by omega)]; rfl, HC.out.2⟩
set_option maxRecDepth 20000 in
set_option maxHeartbeats 2000000 in
theorem idxI2 (cap : Value) (v : Value) (L : List (List Int × Nat)) (p : List Int × Nat → Bool) (w : World) (hr : GRow 9 w v (L.map wrow)) (hl : L.length ≤ 4) (h8 : ∀ c ∈ L, c.1.length = 8)
    (hC : ∀ c ∈ L, ∀ u : World, Below w.heap.size w u → Calls Try.prog 40 #[.agg (wrow c).toArray, cap] u fun e u' => e = .returned (.bool (p c)) ∧ Below u.heap.size u u') :
    Calls Try.prog 37 #[v, .func (.func 40) #[] #[cap]] w fun e w' => e = .returned (.int .i64 (idxR L p)) ∧ Below w.heap.size w w' := by
  obtain ⟨n, en⟩ : ∃ n, n = L.length := ⟨_, rfl⟩
  have em : (L.map wrow).length = n := by rw [List.length_map, en]
  obtain ⟨ao, cp, ev⟩ := hr.form
  rw [em] at ev
  have HH : Hid _ := And.intro hC (And.intro hr (And.intro en (And.intro em h8)))
  have hln : n ≤ 4 := by omega
  clear hC hr en em h8 hl
  subst ev
  go_enter Try.func37, Try.ntmps37
  go_wp2_with fail
  go_loopg [8] n (fun q x wr => ∃ k : Nat, k ≤ n ∧ q = n - k ∧ x = .int .i64 (k : Int) ∧ (∀ j, j < k → p (L.getD j default) = false) ∧ Below w.heap.size w wr)
  case atStart => exact ⟨0, Nat.zero_le _, rfl, rfl, fun j hj => by omega, Below.refl _ _⟩
  case round =>
    obtain ⟨k, hk, hq, rfl, hno, bw⟩ := hrel
    by_cases hlt : k < n
    · obtain ⟨b2, o2, c2, ev, hbl, hc⟩ := (HH.out.2.1.below bw).at' (by rw [HH.out.2.2.2.1]; omega)
      rw [HH.out.2.2.2.1] at ev hc
      simp only [Value.slice.injEq] at ev
      obtain ⟨rfl, -, rfl⟩ := ev
      have hmem : L.getD k default ∈ L := getD_mem _ _ _ (by have := HH.out.2.2.1; omega)
      obtain ⟨x0, x1, x2, x3, x4, x5, x6, x7, ec⟩ := wrow9 (HH.out.2.2.2.2 _ hmem)
      have hck := hc k hlt
      rw [map_at wrow L default k (by have := HH.out.2.2.1; omega), ec] at hck
      have r0 : wr.cell? ⟨b2, o2 + k * 9, none⟩ = _ := hck 0 (by omega)
      have r1 : wr.cell? ⟨b2, o2 + k * 9 + 1, none⟩ = _ := hck 1 (by omega)
      have r2 : wr.cell? ⟨b2, o2 + k * 9 + 2, none⟩ = _ := hck 2 (by omega)
      have r3 : wr.cell? ⟨b2, o2 + k * 9 + 3, none⟩ = _ := hck 3 (by omega)
      have r4 : wr.cell? ⟨b2, o2 + k * 9 + 4, none⟩ = _ := hck 4 (by omega)
      have r5 : wr.cell? ⟨b2, o2 + k * 9 + 5, none⟩ = _ := hck 5 (by omega)
      have r6 : wr.cell? ⟨b2, o2 + k * 9 + 6, none⟩ = _ := hck 6 (by omega)
      have r7 : wr.cell? ⟨b2, o2 + k * 9 + 7, none⟩ = _ := hck 7 (by omega)
      have r8 : wr.cell? ⟨b2, o2 + k * 9 + 8, none⟩ = _ := hck 8 (by omega)
      dsimp only [List.getElem?_cons_zero, List.getElem?_cons_succ] at r0 r1 r2 r3 r4 r5 r6 r7 r8
      have CL := HH.out.1 _ hmem wr bw
      rw [ec] at CL
      generalize (L.getD k default).2 = a2 at *
      have HC : Hid _ := And.intro CL (And.intro hno bw)
      clear CL hno bw hc hck ec hmem
      cases hp : p (L.getD k default) with
      | true =>
        rw [hp] at HC
        go_wp2_with fail
        go_at_call 40
        refine HC.out.1.mono ?_
        rintro e w2 ⟨rfl, b2'⟩
        have H3 : Hid _ := And.intro b2' True.intro
        clear b2'
        go_wp2_with fail
        go_ret
        have hlt2 : k < L.length := by have := HH.out.2.2.1; omega
        have hf : L.findIdx p = k := (List.findIdx_eq hlt2).2 ⟨by simpa [List.getD, hlt2] using hp, fun j hj => by have := HC.out.2.1 j hj; simpa [List.getD, show j < L.length by omega] using this⟩
        refine ⟨by unfold idxR; rw [hf, if_pos hlt2]; rfl, HC.out.2.2.trans (H3.out.1.mono HC.out.2.2.size)⟩
      | false =>
        rw [hp] at HC
        go_wp2_with fail
        go_at_call 40
        refine HC.out.1.mono ?_
        rintro e w2 ⟨rfl, b2'⟩
        have H3 : Hid _ := And.intro b2' True.intro
        clear b2'
        go_wp2_with fail
        go_roundg (n - (k + 1))
        case measure => omega
        case rel => exact ⟨k + 1, by omega, rfl, by go_num, fun j hj => by
          by_cases hjk : j = k
          · rw [hjk]; exact hp
          · exact HC.out.2.1 j (by omega), HC.out.2.2.trans (H3.out.1.mono HC.out.2.2.size)⟩
    · obtain rfl : k = n := by omega
      have HC : Hid _ := And.intro hno bw
      clear hno bw
      go_wp2_with fail
      go_ret
      have hf : L.findIdx p = L.length := List.findIdx_eq_length.2 (fun x hx => by
        obtain ⟨j, hj, rfl⟩ := List.getElem_of_mem hx
        have := HC.out.1 j (by have := HH.out.2.2.1; omega)
        simpa [List.getD, hj] using this)
      refine ⟨by unfold idxR; rw [hf, if_neg (by omega)]; rfl, HC.out.2⟩
end Go.Proofs.Ytjikdecfampbiaa
