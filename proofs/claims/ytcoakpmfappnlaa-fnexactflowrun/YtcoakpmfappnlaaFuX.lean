import Derived.Test.YtcoakpmfappnlaaFuW
namespace Go.Proofs.Ytcoakpmfappnlaa
open Go.RowKit
set_option linter.unusedVariables false
set_option linter.unusedSimpArgs false

theorem sxAt_oth {L : List SX} {id id' : Int} {x : SX} (hx : x.id = id) (hne : ixf L id' ≠ ixf L id) : sxAt (sxSet L id x) id' = sxAt L id' := by
  unfold sxAt
  rw [set_ixf L id id' x hx]
  simp [sxSet, List.getD, List.getElem?_set_ne (Ne.symm hne)]
/-- A stream is over. -/
theorem FR.over {w w' : World} {g base : Nat} {F : FS} {m : FX} {ss sc : Int} {wb ms ml : Nat} {pb : Nat → Nat} (h : FR w g base F m ss sc wb ms ml pb) (id : Int) (hl : lasts F m.L id) (p : PM w' ml m.L.length (updI (mL F m.L pb) id none)) (t : w.mapTurned w' ml) :
    FR w' g base F { m with L := sxSet m.L id { sxAt m.L id with ov := true } } ss sc wb ms ml pb := by
  obtain ⟨n1, n2, n3, n4, n5, n6⟩ := h.ng
  have hx : (sxAt m.L id).id = id := (ixf_some hl.1).1
  have el := set_len m.L id { sxAt m.L id with ov := true }
  have ids := set_ids m.L id { sxAt m.L id with ov := true } hx
  have z : ∀ {k : Nat} {o : Obj}, w.heap[k]? = some o → k ≠ ml → w'.heap[k]? = some o := fun {k o} e e2 => (turned_other t e2).trans e
  refine ⟨z h.bk n3, z h.wk n5, fun j hj => ?_, ?_, ?_, h.lo, ?_, ?_, ?_, h.ne⟩
  · replace hj : j < (sxSet m.L id { sxAt m.L id with ov := true }).length := hj
    rw [el] at hj
    show _ = some (Obj.cells (acells F ((sxSet m.L id { sxAt m.L id with ov := true }).getD j default)) _ _)
    refine (z (h.ak j hj) (n6 j hj).2.2).trans ?_
    by_cases e : j = ixf m.L id
    · subst e
      have e1 : m.L.getD (ixf m.L id) default = sxAt m.L id := rfl
      rw [e1]
      have e2 : (sxSet m.L id { sxAt m.L id with ov := true }).getD (ixf m.L id) default = { sxAt m.L id with ov := true } := by simp [sxSet, List.getD, hl.1]
      rw [e2]; rfl
    · have e2 : (sxSet m.L id { sxAt m.L id with ov := true }).getD j default = m.L.getD j default := by simp [sxSet, List.getD, List.getElem?_set_ne (Ne.symm e)]
      rw [e2]
  · show ∀ a b, a < (sxSet m.L id _).length → b < (sxSet m.L id _).length → _
    rw [el]; exact h.inj
  · show ∀ a, a < (sxSet m.L id _).length → _
    rw [el]; exact h.nw
  · show ∀ a, a < (sxSet m.L id _).length → _
    rw [el]; exact h.lp
  · show PM _ ms (sxSet m.L id _).length (mS (sxSet m.L id _) pb)
    rw [el]
    refine (h.sm.same (turned_other t h.ne)).congr fun id' _ => ?_
    unfold mS
    rw [el, ixf_ids ids]
  · show PM _ ml (sxSet m.L id _).length (mL F (sxSet m.L id _) pb)
    rw [el]
    refine p.congr fun id' _ => ?_
    unfold updI
    by_cases e : id' = id
    · subst e
      rw [if_pos rfl]
      refine mL_neg (fun q => ?_)
      have q3 := q.2.2
      rw [sxAt_set (by exact hx) hl.1] at q3
      cases q3
    · rw [if_neg e]
      have q : lasts F (sxSet m.L id { sxAt m.L id with ov := true }) id' ↔ lasts F m.L id' := lasts_congr el (ixf_ids ids id') fun hl' => by
        have ne : ixf m.L id' ≠ ixf m.L id := fun q => e (by
          have a := (ixf_some hl').1
          have b : sxAt m.L id' = sxAt m.L id := by unfold sxAt; rw [q]
          rw [← a, b]; exact hx)
        rw [sxAt_oth (by exact hx) ne]
      by_cases c : lasts F m.L id'
      · rw [mL_pos c, mL_pos (q.2 c), ixf_ids ids]
      · rw [mL_neg c, mL_neg (fun z => c (q.1 z))]
theorem way_bits {id : Int} (h0 : 0 ≤ id) (h1 : id < 4611686018427387904) : (bits .and .i64 id 2).tdiv 2 = if ptO id then 1 else 0 := by
  rw [andI2 id h0 (by omega)]
  have hn : ¬ (id < 0 ∨ 4611686018427387904 ≤ id) := by omega
  simp only [ptO, if_neg hn]
  rcases (show id / 2 % 2 = 0 ∨ id / 2 % 2 = 1 by omega) with a | a <;> rw [a] <;> rfl
set_option maxRecDepth 20000 in
set_option maxHeartbeats 4000000 in
theorem endI (g base : Nat) (F : FS) (m : FX) (i : Nat) (id : Int) (w : World) (h : FRep w g base F m) (hI : FXI F i m) (hi : i ≤ 400) (hbase : base ≤ w.heap.size) (hw : (Lit.int .i64 id).wf = true) :
    Calls Try.prog 39 #[.pointer (some ⟨g, 0, none⟩), .int .i64 id] w fun e w' => ∃ fv, e = .returned (.tuple #[fv, .int .i64 (fend F m id).2.code]) ∧ GOwns 87 8 w' w.heap.size fv ((fend F m id).2.fr.map frC) ∧ FDo w w' g base F (fend F m id).1 := by
  have HR : Hid _ := h
  obtain ⟨wb, ms, ml, pb, P⟩ := h
  have c19 : w.cell? ⟨g, 19, none⟩ = some (.map (some ml)) := P.cell 19
  have LK := P.lm.look hw
  by_cases c : lasts F m.L id
  · rw [mL_pos c] at LK
    simp only [pval] at LK
    have hv := hI.valid hi c.1
    have hb := bN_lt (ptS id) (ptO id)
    have em := pt_bits hv.1 hv.2
    have es := bS_bN (ptS id) (ptO id)
    have eo := bO_bN (ptS id) (ptO id)
    have ew := way_bits hv.1 hv.2
    have hband : 0 ≤ bits .and .i64 id 2 ∧ bits .and .i64 id 2 ≤ 2 := by
      rw [andI2 id hv.1 (by omega)]
      omega
    obtain ⟨b, eb⟩ : ∃ b, b = bN (ptS id) (ptO id) := ⟨_, rfl⟩
    rw [← eb] at hb em es eo
    have hsb : ¬ bS b = F.sv := by rw [es]; exact c.2.1
    obtain ⟨w4, hr4, p4, t4⟩ := P.lm.del hw 0
    have P4 := P.over id c p4 t4
    have C4 : FCh base w w4 := turned_ch t4 P.lo.2.2.2
    obtain ⟨k0, k1⟩ := P4.kc b hb
    obtain ⟨f0, f1⟩ := P4.kfree b
    have et : kT F { m with L := sxSet m.L id { sxAt m.L id with ov := true } } b = m.tin (ptO id) := by rw [kT_neg hsb, eo]
    rw [et] at k1
    have hti := hI.tin (ptO id)
    have hth := hI.th (ptO id)
    have hbi : (b : Int) < 4 := by omega
    have s1 : sumS (sxSet m.L id { sxAt m.L id with ov := true }) = sumS m.L := by rw [sumS_set _ _ _ c.1]; show sumS m.L - (sxAt m.L id).sn + (sxAt m.L id).sn = _; omega
    have s2 : sumC (sxSet m.L id { sxAt m.L id with ov := true }) = sumC m.L := by rw [sumC_set _ _ _ c.1]; show sumC m.L - (sxAt m.L id).cm + (sxAt m.L id).cm = _; omega
    have hs4 : w4.heap.size = w.heap.size := turned_size t4
    have HS := stT_L F { m with L := sxSet m.L id { sxAt m.L id with ov := true } } b (m.tin (ptO id) + 1)
    have P5 := P4.setK (10 + b * 2 + 1) (.int .i64 (m.tin (ptO id) + 1)) (fcells_st F _ wb ms ml b _ hb) HS.1 HS.2.1 HS.2.2.1 HS.2.2.2
    rw [stT_neg hsb, eo] at P5
    have C5 := P4.chK C4 (10 + b * 2 + 1) (.int .i64 (m.tin (ptO id) + 1))
    by_cases a : m.tin (ptO id) = 1152921504606846976
    · have e : fend F m id = ({ m with L := sxSet m.L id { sxAt m.L id with ov := true } }, ⟨0, 0, 0, []⟩) := (if_pos c).trans (if_pos a)
      rw [e]
      have HH : Hid _ := And.intro (show FRep w4 g base F { m with L := sxSet m.L id { sxAt m.L id with ov := true } } from ⟨wb, ms, ml, pb, by show FR _ g base F _ (sumS (sxSet m.L id _)) (sumC (sxSet m.L id _)) wb ms ml pb; rw [s1, s2]; exact P4⟩) C4
      rw [a] at k1
      clear e P P4 C4 P5 C5 HS hI c p4 t4 es eo ew hsb et s1 s2 a eb
      go_enter Try.func39, Try.ntmps39
      go_wp2
      go_ret2
      exact ⟨_, rfl, frames_nil _ _, HH.out.1, HH.out.2⟩
    · have e : fend F m id = ({ m with L := sxSet m.L id { sxAt m.L id with ov := true }, tin := updB m.tin (ptO id) (m.tin (ptO id) + 1) }, ⟨0, 0, 0, [(18, m.tin (ptO id) + 1, if ptO id then 1 else 0)]⟩) := (if_pos c).trans (if_neg a)
      rw [e]
      have HH : Hid _ := And.intro (show FRep (w4.setCell ⟨g, 10 + b * 2 + 1, none⟩ (.int .i64 (m.tin (ptO id) + 1))) g base F { m with L := sxSet m.L id { sxAt m.L id with ov := true }, tin := updB m.tin (ptO id) (m.tin (ptO id) + 1) } from ⟨wb, ms, ml, pb, by show FR _ g base F _ (sumS (sxSet m.L id _)) (sumC (sxSet m.L id _)) wb ms ml pb; rw [s1, s2]; exact P5⟩) C5
      have hs5 : (w4.setCell ⟨g, 10 + b * 2 + 1, none⟩ (.int .i64 (m.tin (ptO id) + 1))).heap.size = w.heap.size := by rw [setCell_sizeT]; exact hs4
      obtain ⟨wv, hwv⟩ : ∃ x : Int, x = id / 2 % 2 := ⟨_, rfl⟩
      have hb2 : bits .and .i64 id 2 = wv * 2 := by rw [andI2 id hv.1 (by omega), hwv]
      have ht2 : (wv * 2).tdiv 2 = wv := Int.mul_tdiv_cancel _ (by decide)
      have hw2 : 0 ≤ wv ∧ wv ≤ 1 := by omega
      rw [hb2, ht2] at ew
      rw [← ew]
      have HZ : Hid _ := And.intro hs5 True.intro
      clear hband hwv
      clear e P P4 C4 P5 C5 HS hI c p4 t4 es eo ew hsb et s1 s2 hs4 hs5 eb
      generalize m.tin (ptO id) = ti at *
      have hti2 : ti ≤ 500 ∧ 0 ≤ ti := by omega
      go_enter Try.func39, Try.ntmps39
      go_wp2
      go_ret2
      have G := GOwns.lit1 87 8 (w4.setCell ⟨g, 10 + b * 2 + 1, none⟩ (.int .i64 (ti + 1))) w.heap.size (frC (18, ti + 1, wv)) rfl (frC_flat [(18, ti + 1, wv)] _ (List.mem_singleton.2 rfl)).2 (by rw [HZ.out.1]; exact Nat.le_refl _)
      rw [setCell_sizeT] at G
      exact ⟨_, rfl, G, HH.out.1.below ((Below.refl _ _).alloc (Nat.le_refl _) _), HH.out.2.alloc _⟩
  · rw [mL_neg c] at LK
    simp only [pval] at LK
    have e : fend F m id = (m, ⟨7, 0, 0, []⟩) := if_neg c
    rw [e]
    clear e P hI
    go_enter Try.func39, Try.ntmps39
    go_wp2
    go_ret2
    exact ⟨_, rfl, frames_nil _ _, FDo.refl HR.out⟩
end Go.Proofs.Ytcoakpmfappnlaa
