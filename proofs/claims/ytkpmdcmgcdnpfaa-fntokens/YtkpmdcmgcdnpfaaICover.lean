import Derived.Test.YtkpmdcmgcdnpfaaIStream
namespace Go.Proofs.Ytkpmdcmgcdnpfaa
open Go.RowKit
set_option linter.unusedVariables false
attribute [local go_sem] Oper.semAt_some

theorem made_u8 (m : Nat) : madeCells (Value.int .u8 0).cells (m * 1) = (u8s (List.replicate m 0)).toArray := by
  apply Array.ext'
  simp only [madeCells, u8s, Value.cells]
  apply List.ext_getElem (by simp)
  intro i h1 h2
  simp [Nat.mod_one]
theorem wpList_make_cap {w : World} {ops : Array Oper} {rest : List Oper} {o : Oper} {a : Act} {Q : Exit → Act → World → Prop} (hgd : o.guard = none) (l c : Operand) (ho : o.op = .makeSlice 22 l c)
    (n m : Nat) (N M : Int) (hl : a.eval l = .int .i64 N) (hc : a.eval c = .int .i64 M) (eN : N = (n : Int)) (eM : M = (m : Int)) (hnm : n ≤ m) (hm : m ≤ 1099511627776)
    (h : wpList Try.prog ops Q rest (a.put o.dst (.slice (some ⟨w.heap.size, 0, none⟩) n m)) (w.alloc (.cells (u8s (List.replicate m 0)).toArray 5))) :
    wpList Try.prog ops Q (o :: rest) a w := by
  obtain ⟨i0, hi, hz0, hz1, hz2⟩ := info_parts infoU8
  subst eN
  subst eM
  have hr := run_make (P := Try.prog) w 22 5 i0 (.int .u8 0) Try.underlying22 hi hz0 .i64 .i64 (n : Int) (m : Int) (by omega) (by omega) (by rw [hz2]; omega) (by omega)
  simp only [Int.toNat_natCast, hz1] at hr
  rw [made_u8] at hr
  refine wpList_plain hgd fun K hK => ?_
  unfold Oper.wp
  simp [execOp, ho, hl, hc, hr, Result.andThen]
  exact hK _ _ h

set_option maxHeartbeats 1000000 in
theorem strmFn (kb nn : List Int) (n : Nat) (w : World) :
    Calls Try.prog 48 #[.agg (u8s (kb ++ nn)).toArray, .int .i64 (n : Int)] w fun e w' => e = .returned (.func (.func 53) #[] #[.pointer (some ⟨w.heap.size + 1, 0, none⟩), .pointer (some ⟨w.heap.size, 0, none⟩)]) ∧ w' = (w.alloc (.cells (u8s (kb ++ nn)).toArray 59)).alloc (.cells #[.int .i64 (n : Int)] 3) := by
  have hmf : ∀ (fn : Fn) (first cap : Array Value) (w : World), (Instr.makeFunc fn first cap).run Try.prog w = .ok (.func fn first cap) w := fun _ _ _ _ => rfl
  go_enter Try.func48, Try.ntmps48
  go_wp2
  go_ret
  exact ⟨rfl, rfl⟩

/-- The row behind the rounds pre. -/
def cvr (xs kb nn : List Int) (n : Nat) (pre : List (Fin n)) : List Int := (List.range (n + 8)).map fun j => if pre.any (fun x => x.1 == j) then bits .xor .u8 (xs.getD j 0) (st kb nn n j) else 0
theorem cvr_length (xs kb nn : List Int) (n : Nat) (pre : List (Fin n)) : (cvr xs kb nn n pre).length = n + 8 := by simp [cvr]
theorem cvr_nil (xs kb nn : List Int) (n : Nat) : cvr xs kb nn n [] = List.replicate (n + 8) 0 := by
  apply List.ext_getElem (by simp [cvr])
  intro i h1 h2
  simp [cvr]
theorem cvr_set (xs kb nn : List Int) (n : Nat) (pre : List (Fin n)) (x : Fin n) : (cvr xs kb nn n pre).set x.1 (bits .xor .u8 (xs.getD x.1 0) (st kb nn n x.1)) = cvr xs kb nn n (pre ++ [x]) := by
  apply List.ext_getElem (by simp [cvr])
  intro i h1 h2
  by_cases hi : x.1 = i
  · subst hi
    simp [cvr]
  · simp [cvr, hi]
theorem cvr_all (xs kb nn : List Int) (n : Nat) (pre : List (Fin n)) (h : ∀ j : Fin n, j ∈ pre) : (cvr xs kb nn n pre).take n = xl xs (sblk kb nn ((n + 15) / 16)) n := by
  apply List.ext_getElem (by simp [cvr, xl])
  intro i h1 h2
  have hi : i < n := by simp [xl] at h2; exact h2
  simp [cvr, xl, st]
  intro hno
  exact absurd rfl (hno ⟨i, hi⟩ (h _))

theorem opIn_inRound {F : Fence} {n : Nat} {P : Program} {o : Oper} {a : Act} {w : World} {K : Act → World → Prop} {Q : Exit → Act → World → Prop} (l : Nat) (hro : F.round = none) (hd : ∀ c, o.op ≠ .defer c) (h : o.wpIn F n P a w K Q) : o.wpIn (F.inRound l) n P a w K Q := by
  unfold Oper.wpIn at h ⊢
  rw [hro, Oper.semAt_none] at h
  rw [Fence.inRound_round, Oper.semAt_some l a.eval o hd]
  refine ⟨h.1, ?_⟩
  have h2 := h.2
  generalize (execOp a.eval o).run P w = r at h2
  cases r with
  | ok x w' => cases x <;> exact h2
  | halt x w' => cases x <;> exact h2
def isDefer : Op → Bool
  | .defer _ => true
  | _ => false
theorem anyIn_inRound {F : Fence} {n : Nat} {P : Program} {md : Region.Mode} {ops : Array Oper} {Q : Exit → Act → World → Prop} (l : Nat) (hro : F.round = none) (hd : ops.all (fun o => !isDefer o.op) = true) :
    ∀ (fuel : Nat) (listed : Array Bool) (a : Act) (w : World), wpAnyIn F n P md ops Q fuel listed a w → wpAnyIn (F.inRound l) n P md ops Q fuel listed a w
  | 0, _, _, _, h => h
  | fuel + 1, listed, a, w, h => by
    refine ⟨h.1, fun i hi => ?_⟩
    have h2 := wpOpIn_mono (fun a w => anyIn_inRound l hro hd fuel (listed.setIfInBounds i true) a w) (h.2 i hi)
    unfold wpOpIn at h2 ⊢
    cases ho : ops[i]? with
    | none => simpa [ho] using h2
    | some o =>
      simp only [ho] at h2 ⊢
      have hnd : ∀ c, o.op ≠ .defer c := by
        intro c hc
        have := Array.all_eq_true_iff_forall_mem.1 hd o (Array.mem_of_getElem? ho)
        rw [hc] at this
        simp [isDefer] at this
      split
      · rename_i hw
        simp only [hw, if_true] at h2
        exact opIn_inRound l hro hnd h2
      · rename_i hw
        simp only [hw, Bool.false_eq_true, if_false] at h2
        exact h2

/-- cover's own blocks. -/
structure CvAt (xs kb nn : List Int) (n B : Nat) (ao : Option Addr) (cap : Nat) (w : World) (pre : List (Fin n)) (W : World) : Prop where
  row : W.heap[B + 2]? = some (.cells (u8s (cvr xs kb nn n pre)).toArray 5 (0, 0))
  text : W.heap[B + 1]? = some (.cells #[.slice ao n cap] 22 (0, 0))
  out : W.heap[B + 3]? = some (.cells #[.slice (some ⟨B + 2, 0, none⟩) n (n + 8)] 22 (0, 0))
  bel : Below w.heap.size w W
theorem CvAt.step {xs kb nn : List Int} {n B : Nat} {ao : Option Addr} {cap : Nat} {w : World} {pre : List (Fin n)} {W : World} (h : CvAt xs kb nn n B ao cap w pre W) (x : Fin n) (hB : w.heap.size ≤ B) (u : Int) (hu : (cvr xs kb nn n pre).set x.1 u = cvr xs kb nn n (pre ++ [x])) :
    KeepsOthers W (W.setCell ⟨B + 2, x.1, none⟩ (.int .u8 u)).drew ∧ KpG (B + 2) W (W.setCell ⟨B + 2, x.1, none⟩ (.int .u8 u)).drew ∧ CvAt xs kb nn n B ao cap w (pre ++ [x]) (W.setCell ⟨B + 2, x.1, none⟩ (.int .u8 u)).drew := by
  have ho : ∀ b : Nat, b ≠ B + 2 → (W.setCell ⟨B + 2, x.1, none⟩ (.int .u8 u)).drew.heap[b]? = W.heap[b]? := fun b hb => Below.heap_setCell _ _ _ _ hb
  refine ⟨(KeepsOthers.setCell _ _ _).trans (KeepsOthers.drew _), ⟨by simp [World.setCell, World.drew], fun b c t fr hb hc => (ho b hb).trans hc⟩, ⟨?_, (ho _ (by omega)).trans h.text, (ho _ (by omega)).trans h.out, below_drewN (h.bel.setCell (by simp; omega) _) 1⟩⟩
  have := blkS_setCell h.row x.1 (.int .u8 u)
  rw [set_u8s, hu] at this
  exact this
theorem cvAt_own (xs kb nn : List Int) (n B : Nat) (ao : Option Addr) (cap : Nat) (w : World) (B' : Nat) (hB : w.heap.size ≤ B') : OwnFrom B' (fun (pre : List (Fin n)) W => CvAt xs kb nn n B ao cap w pre W) := by
  intro pre W W' row h hg hr
  have keep : ∀ (k : Nat) (c : Array Value) (t : TypeId) (fr : Nat × Nat), W.heap[k]? = some (Obj.cells c t fr) → W'.heap[k]? = some (Obj.cells c t fr) := by
    intro k c t fr hk
    have hlt : k < W.heap.size := (Array.getElem?_eq_some_iff.1 hk).1
    rw [hg.block k hlt (fun e => ?_)]
    · exact hk
    · obtain ⟨_, o, ho, hc⟩ := hr k e.symm
      rw [hk] at ho
      cases ho
      simp [Obj.isCells] at hc
  exact ⟨keep _ _ _ _ h.row, keep _ _ _ _ h.text, keep _ _ _ _ h.out, ownFrom_below (β := List (Fin n)) (w₀ := w) (Nat.le_refl _) hB pre W W' row h.bel hg hr⟩

set_option maxRecDepth 100000 in
set_option maxHeartbeats 16000000 in
theorem cover_ok (kb nn xs : List Int) (v : Value) (w : World) (hv : Row w .u8 v xs) (bx : Bytes xs) (lk : kb.length = 16) (ln : nn.length = 8) (bk : Bytes kb) (bn : Bytes nn) (lx : xs.length ≤ 1048576) :
    Calls Try.prog 36 #[.agg (u8s (kb ++ nn)).toArray, v] w fun e w' => ∃ r, e = .returned r ∧ w'.ownsRow w.heap.size 5 1 r xs.length ((xl xs (sblk kb nn ((xs.length + 15) / 16)) xs.length).map (Value.int .u8)) ∧ Below w.heap.size w w' := by
  obtain ⟨ao, cap, rfl⟩ := hv.form
  obtain ⟨n, en⟩ : ∃ n, n = xs.length := ⟨_, rfl⟩
  rw [← en] at hv lx ⊢
  have lp : (kb ++ nn).length = 24 := by rw [List.length_append, lk, ln]
  have HH : Hid _ := And.intro (And.intro hv (And.intro bx en)) (And.intro (And.intro lk (And.intro ln (And.intro bk bn))) lp)
  clear hv bx en lk ln bk bn lp
  have K4 : Hid (Book ((((w.alloc (.cells (u8s (kb ++ nn)).toArray 59 (0, 0))).alloc (.cells #[.slice ao n cap] 22 (0, 0))).alloc (.cells (u8s (List.replicate (n + 8) 0)).toArray 5 (0, 0))).alloc (.cells #[.slice (some ⟨w.heap.size + 1 + 1, 0, none⟩) n (n + 8)] 22 (0, 0))) _ ∧ Below w.heap.size w ((((w.alloc (.cells (u8s (kb ++ nn)).toArray 59 (0, 0))).alloc (.cells #[.slice ao n cap] 22 (0, 0))).alloc (.cells (u8s (List.replicate (n + 8) 0)).toArray 5 (0, 0))).alloc (.cells #[.slice (some ⟨w.heap.size + 1 + 1, 0, none⟩) n (n + 8)] 22 (0, 0)))) :=
    And.intro ((book_new3 w _ _ _).add _) ((below3 w _ _ _).alloc (by simp; omega) _)
  refine (callsIn_wide (n := 4)).1 ?_
  refine callsIn_of_wp_marks Try.func36 rfl trivial ?_ rfl
  simp only [Try.ntmps36, List.size_toArray, List.length_cons, List.length_nil, Nat.reduceAdd, Nat.reduceSub, Array.replicate_succ, Array.replicate_zero, List.push_toArray, List.append_toArray, List.nil_append, List.cons_append]
  refine wpIn_wide.2 ?_
  go_wp2_with (first
    | (refine wpList_make_cap rfl (.tmp 9) (.tmp 12) rfl n (n + 8) _ _ rfl rfl rfl (by simp) (by omega) (by omega) ?_)
    | (refine wpList_load_row rfl 59 (.tmp 2) rfl w.heap.size rfl 59 (u8s (kb ++ nn)).toArray (0, 0) _ (K4.out.1.blk w.heap.size _ (by simp)) Try.underlying59 rfl (infoPs _ HH.out.2.2) ?_))
  go_at_call 48
  refine (strmFn kb nn n _).mono ?_
  rintro e w' ⟨rfl, hw⟩
  subst hw
  have K6 : Hid _ := And.intro ((K4.out.1.add (.cells (u8s (kb ++ nn)).toArray 59)).add (.cells #[.int .i64 (n : Int)] 3)) ((K4.out.2.alloc K4.out.2.size (.cells (u8s (kb ++ nn)).toArray 59)).alloc (Nat.le_trans K4.out.2.size (by simp)) (.cells #[.int .i64 (n : Int)] 3))
  obtain ⟨W0, eW0⟩ : ∃ W0, W0 = (((((w.alloc (.cells (u8s (kb ++ nn)).toArray 59 (0, 0))).alloc (.cells #[.slice ao n cap] 22 (0, 0))).alloc (.cells (u8s (List.replicate (n + 8) 0)).toArray 5 (0, 0))).alloc (.cells #[.slice (some ⟨w.heap.size + 1 + 1, 0, none⟩) n (n + 8)] 22 (0, 0))).alloc (.cells (u8s (kb ++ nn)).toArray 59)).alloc (.cells #[.int .i64 (n : Int)] 3) := ⟨_, rfl⟩
  have z0 : W0.heap.size = w.heap.size + 6 := by rw [eW0]; simp
  have k0 : W0.heap[w.heap.size + 4]? = some (.cells (u8s (kb ++ nn)).toArray 59 (0, 0)) := by rw [eW0]; exact K6.out.1.blk _ _ (by simp)
  have k1 : W0.heap[w.heap.size + 5]? = some (.cells #[.int .i64 (n : Int)] 3 (0, 0)) := by rw [eW0]; exact K6.out.1.blk _ _ (by simp)
  have c0 : CvAt xs kb nn n w.heap.size ao cap w [] W0 := by
    rw [eW0]
    exact ⟨by rw [cvr_nil]; exact K6.out.1.blk _ _ (by simp), K6.out.1.blk _ _ (by simp), K6.out.1.blk _ _ (by simp), K6.out.2⟩
  have e4 : ((((w.alloc (.cells (u8s (kb ++ nn)).toArray 59 (0, 0))).alloc (.cells #[.slice ao n cap] 22 (0, 0))).alloc (.cells (u8s (List.replicate (n + 8) 0)).toArray 5 (0, 0))).alloc (.cells #[.slice (some ⟨w.heap.size + 1 + 1, 0, none⟩) n (n + 8)] 22 (0, 0))).heap.size = w.heap.size + 4 := by simp
  rw [e4, ← eW0]
  have H0 : Hid _ := And.intro k0 (And.intro k1 c0)
  clear k0 k1 c0 K6 K4 eW0 e4
  go_wp2_with fail
  have hseq : SeqStopsK Fence.wide (4 - 1) Try.prog 53 #[.pointer (some ⟨w.heap.size + 4 + 1, 0, none⟩), .pointer (some ⟨w.heap.size + 4, 0, none⟩)] (fun x : Fin n => #[Value.int .i64 (x.1 : Int), Value.int .u8 (st kb nn n x.1)]) (KpG (w.heap.size + 2)) (fun xs => ∀ j : Fin n, j ∈ xs) (fun _ => True) n W0 := by
    intro l J Jx W hW hJ hJx hY h0
    refine callsIn_wide.2 ?_
    exact stream1 l (w.heap.size + 5) (w.heap.size + 4) (w.heap.size + 2) n _ kb nn HH.out.2.1.1 HH.out.2.1.2.1 HH.out.2.1.2.2.1 HH.out.2.1.2.2.2 lx (by omega) (by omega) J Jx W (by have := hW.size; omega) hJ hY ((hW.block _ (by omega)).trans H0.out.2.1) ((hW.block _ (by omega)).trans H0.out.1) h0
  refine (wpIn_wide (n := 4)).1 ?_
  refine wpIn_rangeFunc_ownF rfl (by omega) (gf := 53) (lb := #[.pointer (some ⟨w.heap.size + 4 + 1, 0, none⟩), .pointer (some ⟨w.heap.size + 4, 0, none⟩)]) rfl trivial (enters_of Try.func53 (by kernel_rfl) rfl)
    hseq kpG_t (kpG_b (w := W0)) (Below.refl _ _) (fun _ => rfl)
    (fun pre W => CvAt xs kb nn n w.heap.size ao cap w pre W) (fun _ _ _ => False)
    (cvAt_own xs kb nn n w.heap.size ao cap w W0.heap.size (by omega)) (fun _ _ _ _ _ hs _ _ => hs) H0.out.2.2
    (fun x => { tmps := #[Value.agg (u8s (kb ++ nn)).toArray, Value.slice ao n cap, .pointer (some ⟨w.heap.size, 0, none⟩), .pointer (some ⟨w.heap.size + 1, 0, none⟩), .slice none 0 0, .pointer (some ⟨w.heap.size + 1 + 1 + 1, 0, none⟩), .int .i64 (x.1 : Int), .int .u8 (st kb nn n x.1), .slice ao n cap, .int .i64 (n : Int), .slice ao n cap, .int .i64 (n : Int), .int .i64 ((n : Int) + 8), .slice (some ⟨w.heap.size + 1 + 1, 0, none⟩) n (n + 8), .agg (u8s (kb ++ nn)).toArray, .slice ao n cap, .int .i64 (n : Int), .func (Fn.func 53) #[] #[.pointer (some ⟨w.heap.size + 4 + 1, 0, none⟩), .pointer (some ⟨w.heap.size + 4, 0, none⟩)], .int .i64 (x.1 : Int), .int .u8 (st kb nn n x.1), undef, undef, undef, undef, undef, undef, undef, undef, undef, undef], defers := [] }) ?assign ?body ?done ?stop
  case assign =>
    intro l x W K hK
    gi_wp2
    exact hK
  case body =>
    rintro l pre x W hc hlen
    have hx := x.2
    obtain ⟨b, off, cap', e1, hbl, hcx⟩ := HH.out.1.1.at (by have := HH.out.1.2.2; omega)
    simp only [Value.slice.injEq] at e1
    obtain ⟨rfl, e2, e3⟩ := e1
    have en := HH.out.1.2.2
    have c1 : W.cell? ⟨w.heap.size + 1, 0, none⟩ = some (.slice (some ⟨b, off, none⟩) n cap) := by rw [blkS_cell hc.text]; rfl
    have c2 : W.cell? ⟨w.heap.size + 1 + 1 + 1, 0, none⟩ = some (.slice (some ⟨w.heap.size + 1 + 1, 0, none⟩) n (n + 8)) := by rw [blkS_cell hc.out]; rfl
    have c3 : W.cell? ⟨b, off + x.1, none⟩ = some (.int .u8 (xs.getD x.1 0)) := (hc.bel.cell (p := ⟨b, off + x.1, none⟩) hbl).trans (hcx x.1 (by omega))
    have hl : x.1 < (cvr xs kb nn n pre).length := by rw [cvr_length]; omega
    have c4 : W.cell? ⟨w.heap.size + 1 + 1, x.1, none⟩ = some (.int .u8 ((cvr xs kb nn n pre).getD x.1 0)) := by rw [blkS_cell hc.row]; exact u8s_get _ _ hl
    have f4 : W.frozen? ⟨w.heap.size + 1 + 1, x.1, none⟩ = false := blkS_free hc.row x.1
    have HC : Hid _ := And.intro hc True.intro
    have HS : Hid _ := cvr_set xs kb nn n pre x
    have bx := HH.out.1.2.1.at x.1
    have bs := st_byte kb nn n x.1
    clear hc hcx e2 e3 hl en
    generalize (cvr xs kb nn n pre).getD x.1 0 = u at c4
    generalize xs.getD x.1 0 = y at c3 HS bx
    generalize st kb nn n x.1 = z at HS bs ⊢
    have hmx : Try.prog.follows .mixedOrders = true := by kernel_rfl
    gi_wp2
    refine wpIn_region_any hmx ?_
    refine anyIn_inRound l rfl (by kernel_rfl) _ _ _ _ ?_
    try (change wpAnyIn _ _ _ _ _ _ _ _ _ (World.drew _))
    refine wpAnyIn_take (i := 1) (v := ?v1) rfl rfl (by kernel_rfl) (by kernel_rfl) (by kernel_rfl) (fun _ _ _ h => h) ⟨Or.inl ⟨by rfl, ?y1⟩, fun _ => rfl⟩ ?r1
    case y1 => (intro w; go_simp; try with_reducible rfl)
    case r1 =>
      refine wpAnyIn_take (i := 3) (v := ?v3) rfl rfl (by kernel_rfl) (by kernel_rfl) (by kernel_rfl) (fun _ _ _ h => h) ⟨Or.inl ⟨by rfl, ?y3⟩, fun _ => rfl⟩ ?r3
      case y3 => (intro w; go_simp; try with_reducible rfl)
      case r3 =>
        refine wpAnyIn_take (i := 6) (v := ?v6) rfl rfl (by kernel_rfl) (by kernel_rfl) (by kernel_rfl) (fun _ _ _ h => h) ⟨Or.inl ⟨by rfl, ?y6⟩, fun _ => rfl⟩ ?r6
        case y6 => (intro w; go_simp; try with_reducible rfl)
        case r6 =>
          refine wpAnyIn_ready (rs := [0, 2]) (by kernel_rfl) (by simp) ?_
          refine AllReadyIn.cons rfl (fun K hK => ?_) ?_
          · go_simp
            refine hK _ _ ?_
            clear hK K
            refine wpAnyIn_ready (rs := [2]) (by kernel_rfl) (by simp) ?_
            refine AllReadyIn.cons rfl (fun K hK => ?_) ?_
            · go_simp
              refine hK _ _ ?_
              clear hK K
              refine wpAnyIn_ready (rs := [4]) (by kernel_rfl) (by simp) ?_
              refine AllReadyIn.cons rfl (fun K hK => ?_) ?_
              · go_simp
                refine hK _ _ ?_
                clear hK K
                refine wpAnyIn_ready (rs := [5]) (by kernel_rfl) (by simp) ?_
                refine AllReadyIn.cons rfl (fun K hK => ?_) ?_
                · go_simp
                  refine hK _ _ ?_
                  clear hK K
                  refine wpAnyIn_ready (rs := [7]) (by kernel_rfl) (by simp) ?_
                  refine AllReadyIn.cons rfl (fun K hK => ?_) ?_
                  · go_simp
                    refine hK _ _ ?_
                    clear hK K
                    refine wpAnyIn_ready (rs := [8]) (by kernel_rfl) (by simp) ?_
                    refine AllReadyIn.cons rfl (fun K hK => ?_) ?_
                    · go_simp
                      refine hK _ _ ?_
                      clear hK K
                      refine wpAnyIn_ready (rs := [9]) (by kernel_rfl) (by simp) ?_
                      refine AllReadyIn.cons rfl (fun K hK => ?_) ?_
                      · go_simp
                        refine hK _ _ ?_
                        clear hK K
                        refine wpAnyIn_done (by kernel_rfl) ?_ _
                        gi_wp2
                        exact HC.out.1.step x (Nat.le_refl _) _ HS.out
                      exact AllReadyIn.nil
                    exact AllReadyIn.nil
                  exact AllReadyIn.nil
                exact AllReadyIn.nil
              exact AllReadyIn.nil
            exact AllReadyIn.nil
          refine AllReadyIn.cons rfl (fun K hK => ?_) ?_
          · go_simp
            refine hK _ _ ?_
            clear hK K
            refine wpAnyIn_ready (rs := [0, 4]) (by kernel_rfl) (by simp) ?_
            refine AllReadyIn.cons rfl (fun K hK => ?_) ?_
            · go_simp
              refine hK _ _ ?_
              clear hK K
              refine wpAnyIn_ready (rs := [4]) (by kernel_rfl) (by simp) ?_
              refine AllReadyIn.cons rfl (fun K hK => ?_) ?_
              · go_simp
                refine hK _ _ ?_
                clear hK K
                refine wpAnyIn_ready (rs := [5]) (by kernel_rfl) (by simp) ?_
                refine AllReadyIn.cons rfl (fun K hK => ?_) ?_
                · go_simp
                  refine hK _ _ ?_
                  clear hK K
                  refine wpAnyIn_ready (rs := [7]) (by kernel_rfl) (by simp) ?_
                  refine AllReadyIn.cons rfl (fun K hK => ?_) ?_
                  · go_simp
                    refine hK _ _ ?_
                    clear hK K
                    refine wpAnyIn_ready (rs := [8]) (by kernel_rfl) (by simp) ?_
                    refine AllReadyIn.cons rfl (fun K hK => ?_) ?_
                    · go_simp
                      refine hK _ _ ?_
                      clear hK K
                      refine wpAnyIn_ready (rs := [9]) (by kernel_rfl) (by simp) ?_
                      refine AllReadyIn.cons rfl (fun K hK => ?_) ?_
                      · go_simp
                        refine hK _ _ ?_
                        clear hK K
                        refine wpAnyIn_done (by kernel_rfl) ?_ _
                        gi_wp2
                        exact HC.out.1.step x (Nat.le_refl _) _ HS.out
                      exact AllReadyIn.nil
                    exact AllReadyIn.nil
                  exact AllReadyIn.nil
                exact AllReadyIn.nil
              exact AllReadyIn.nil
            refine AllReadyIn.cons rfl (fun K hK => ?_) ?_
            · go_simp
              refine hK _ _ ?_
              clear hK K
              refine wpAnyIn_ready (rs := [0, 5]) (by kernel_rfl) (by simp) ?_
              refine AllReadyIn.cons rfl (fun K hK => ?_) ?_
              · go_simp
                refine hK _ _ ?_
                clear hK K
                refine wpAnyIn_ready (rs := [5]) (by kernel_rfl) (by simp) ?_
                refine AllReadyIn.cons rfl (fun K hK => ?_) ?_
                · go_simp
                  refine hK _ _ ?_
                  clear hK K
                  refine wpAnyIn_ready (rs := [7]) (by kernel_rfl) (by simp) ?_
                  refine AllReadyIn.cons rfl (fun K hK => ?_) ?_
                  · go_simp
                    refine hK _ _ ?_
                    clear hK K
                    refine wpAnyIn_ready (rs := [8]) (by kernel_rfl) (by simp) ?_
                    refine AllReadyIn.cons rfl (fun K hK => ?_) ?_
                    · go_simp
                      refine hK _ _ ?_
                      clear hK K
                      refine wpAnyIn_ready (rs := [9]) (by kernel_rfl) (by simp) ?_
                      refine AllReadyIn.cons rfl (fun K hK => ?_) ?_
                      · go_simp
                        refine hK _ _ ?_
                        clear hK K
                        refine wpAnyIn_done (by kernel_rfl) ?_ _
                        gi_wp2
                        exact HC.out.1.step x (Nat.le_refl _) _ HS.out
                      exact AllReadyIn.nil
                    exact AllReadyIn.nil
                  exact AllReadyIn.nil
                exact AllReadyIn.nil
              refine AllReadyIn.cons rfl (fun K hK => ?_) ?_
              · go_simp
                refine hK _ _ ?_
                clear hK K
                refine wpAnyIn_ready (rs := [0, 7]) (by kernel_rfl) (by simp) ?_
                refine AllReadyIn.cons rfl (fun K hK => ?_) ?_
                · go_simp
                  refine hK _ _ ?_
                  clear hK K
                  refine wpAnyIn_ready (rs := [7]) (by kernel_rfl) (by simp) ?_
                  refine AllReadyIn.cons rfl (fun K hK => ?_) ?_
                  · go_simp
                    refine hK _ _ ?_
                    clear hK K
                    refine wpAnyIn_ready (rs := [8]) (by kernel_rfl) (by simp) ?_
                    refine AllReadyIn.cons rfl (fun K hK => ?_) ?_
                    · go_simp
                      refine hK _ _ ?_
                      clear hK K
                      refine wpAnyIn_ready (rs := [9]) (by kernel_rfl) (by simp) ?_
                      refine AllReadyIn.cons rfl (fun K hK => ?_) ?_
                      · go_simp
                        refine hK _ _ ?_
                        clear hK K
                        refine wpAnyIn_done (by kernel_rfl) ?_ _
                        gi_wp2
                        exact HC.out.1.step x (Nat.le_refl _) _ HS.out
                      exact AllReadyIn.nil
                    exact AllReadyIn.nil
                  exact AllReadyIn.nil
                refine AllReadyIn.cons rfl (fun K hK => ?_) ?_
                · go_simp
                  refine hK _ _ ?_
                  clear hK K
                  refine wpAnyIn_ready (rs := [0]) (by kernel_rfl) (by simp) ?_
                  refine AllReadyIn.cons rfl (fun K hK => ?_) ?_
                  · go_simp
                    refine hK _ _ ?_
                    clear hK K
                    refine wpAnyIn_ready (rs := [8]) (by kernel_rfl) (by simp) ?_
                    refine AllReadyIn.cons rfl (fun K hK => ?_) ?_
                    · go_simp
                      refine hK _ _ ?_
                      clear hK K
                      refine wpAnyIn_ready (rs := [9]) (by kernel_rfl) (by simp) ?_
                      refine AllReadyIn.cons rfl (fun K hK => ?_) ?_
                      · go_simp
                        refine hK _ _ ?_
                        clear hK K
                        refine wpAnyIn_done (by kernel_rfl) ?_ _
                        gi_wp2
                        exact HC.out.1.step x (Nat.le_refl _) _ HS.out
                      exact AllReadyIn.nil
                    exact AllReadyIn.nil
                  exact AllReadyIn.nil
                exact AllReadyIn.nil
              exact AllReadyIn.nil
            exact AllReadyIn.nil
          exact AllReadyIn.nil
  case done =>
    rintro D ys W hD hS hc hK
    have c2 : W.cell? ⟨w.heap.size + 1 + 1 + 1, 0, none⟩ = some (.slice (some ⟨w.heap.size + 2, 0, none⟩) n (n + 8)) := by rw [blkS_cell hc.out]; rfl
    have HC : Hid _ := And.intro hc (And.intro hS hK)
    clear hc hS hK
    go_wp2
    refine ⟨by simp, .inl ⟨_, _, rfl, run_takeDeferred HC.out.2.2, ?_⟩⟩
    refine ⟨_, results_tmp rfl _ _ _, _, rfl, ?_, HC.out.1.bel.trans (belowK_b (w := w) (Nat.le_refl _) W D _ _ (by omega) HC.out.2.2 rfl rfl)⟩
    have hr : (W.putObj D (.deferred none)).heap[w.heap.size + 2]? = some (.cells (u8s (cvr xs kb nn n ys)).toArray 5 (0, 0)) := (World.putObj_heap_other (by omega)).trans HC.out.1.row
    have ea := cvr_all xs kb nn n ys HC.out.2.1
    refine ⟨by simp [xl_length], Or.inr ⟨w.heap.size + 2, n + 8, _, rfl, by omega, hr, by omega, by unfold maxLen; omega, by simp [u8s_length, cvr_length], ?_⟩⟩
    rw [← ea]
    simp [u8s, List.map_take]
  case stop =>
    rintro D c pre W _ _ h _
    exact h.elim
end Go.Proofs.Ytkpmdcmgcdnpfaa
