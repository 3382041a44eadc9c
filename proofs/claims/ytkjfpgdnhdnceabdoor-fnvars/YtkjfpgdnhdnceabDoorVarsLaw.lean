import Derived.Test.YtkjfpgdnhdnceabDoorDraw
import Derived.Test.YtkjfpgdnhdnceabDoorCatMath
import Derived.Test.YtkjfpgdnhdnceabDoorGetVarsA
import Derived.Test.YtkjfpgdnhdnceabDoorSameInts
import Derived.Test.YtkjfpgdnhdnceabDoorSame
namespace Go.Proofs.YtkjfpgdnhdnceabDoor
open Go.RowKit
set_option linter.unusedVariables false

theorem vars_huge (ao : Option Addr) (n cap : Nat) (w : World) (h : 1048576 < n) (hm : n ≤ 9223372036854775807) :
    Calls Tryd.prog 3 #[.slice ao n cap] w fun e w' => e = .returned (.bool true) ∧ Below w.heap.size w w' := by
  go_enter Tryd.func3, Tryd.ntmps3
  go_wp2
  go_ret
  exact ⟨rfl, Below.refl _ _⟩

theorem cat_le (L : List Int) (hL : L.length ≤ 4096) (ha : allok L) : (cat L L.length).length ≤ 32776 := by
  have := cat_length L L.length ⟨by omega, by omega⟩ (Nat.le_refl _) ha
  omega
theorem cat_pos (L : List Int) (hL : L.length ≤ 4096) : 0 < (cat L L.length).length := by
  unfold cat
  rw [List.length_append, putv_length]
  have := vsize_bd (L.length : Int) ⟨by omega, by omega⟩
  omega
theorem ok_mem {L : List Int} (ha : allok L) : ∀ x ∈ L, okv x := by
  intro x hx
  obtain ⟨i, hi, rfl⟩ := List.getElem_of_mem hx
  have := ha i hi
  simpa [List.getD, hi] using this

set_option maxHeartbeats 1000000 in
/-- The list has no bytes: both answer the same code, and that is all. -/
theorem vars_bad (ao : Option Addr) (n cap : Nat) (cs L : List Int) (cd : Int) (w : World) (ht : Tab w) (hn : n ≤ 1048576) (hrow : Row w .u8 (.slice ao n cap) cs)
    (hD : ∀ w : World, Row w .u8 (.slice ao n cap) cs → Calls Tryd.prog 4 #[.slice ao n cap] w fun e w' => ∃ r, e = .returned r ∧ w'.ownsRow w.heap.size 3 1 r L.length (L.map (Value.int .i64)) ∧ Below w.heap.size w w')
    (hS : ∀ (w : World) (v : Value), Row w .i64 v L → Calls Tryd.prog 5 #[v] w fun e w' => ∃ r, e = .returned (.tuple #[r, .int .i64 cd]) ∧ w'.ownsRow w.heap.size 5 1 r 0 (([] : List Int).map (Value.int .u8)) ∧ Below w.heap.size w w')
    (hI : ∀ (w : World) (v : Value), Tab w → Row w .i64 v L → Calls Tryd.prog 6 #[v] w fun e w' => ∃ r, e = .returned (.tuple #[r, .int .i64 cd]) ∧ w'.ownsRow w.heap.size 5 1 r 0 (([] : List Int).map (Value.int .u8)) ∧ Below w.heap.size w w')
    (hcd : ¬ cd = 0) :
    Calls Tryd.prog 3 #[.slice ao n cap] w fun e w' => e = .returned (.bool true) ∧ Below w.heap.size w w' := by
  have hc0 : (cd != 0) = true := by simp [hcd]
  clear hcd
  go_enter Tryd.func3, Tryd.ntmps3
  go_wp2_with fail
  go_at_call 4
  refine (hD _ hrow).mono ?_
  rintro e w1 ⟨r1, rfl, o1, b1⟩
  go_wp2_with fail
  go_at_call 5
  refine (hS _ _ (row_of_owns o1)).mono ?_
  rintro e w2 ⟨rS, rfl, oS, b2⟩
  have c2 : Below w.heap.size w w2 := b1.trans (b2.mono b1.size)
  go_wp2_with fail
  go_at_call 4
  refine (hD _ (hrow.below c2)).mono ?_
  rintro e w3 ⟨r3, rfl, o3, b3⟩
  have c3 : Below w.heap.size w w3 := c2.trans (b3.mono c2.size)
  go_wp2_with fail
  go_at_call 6
  refine (hI _ _ (ht.below c3 ht.lt) (row_of_owns o3)).mono ?_
  rintro e w4 ⟨rB, rfl, oB, b4⟩
  have c4 : Below w.heap.size w w4 := c3.trans (b4.mono c3.size)
  go_wp2_with fail
  go_at_call 7
  refine (sameC _ _ [] [] _ _ _ _ _ oB (owns_below oS (b3.trans (b4.mono b3.size))) (by intro x hx; cases hx) (by intro x hx; cases hx) rfl).mono ?_
  rintro e w5 ⟨rfl, hw⟩
  rw [hw]
  clear hw w5
  have HC : Hid _ := c4
  clear c4 c3 c2 b1 b2 b3 b4 o1 o3 oS oB hD hS hI hrow ht
  go_wp2
  go_ret
  exact ⟨rfl, HC.out⟩

set_option maxRecDepth 20000 in
set_option maxHeartbeats 4000000 in
theorem vars_good (ao : Option Addr) (n cap : Nat) (cs L : List Int) (w : World) (ht : Tab w) (hn : n ≤ 1048576) (hrow : Row w .u8 (.slice ao n cap) cs) (hL : L.length ≤ 4096) (ha : allok L)
    (hD : ∀ w : World, Row w .u8 (.slice ao n cap) cs → Calls Tryd.prog 4 #[.slice ao n cap] w fun e w' => ∃ r, e = .returned r ∧ w'.ownsRow w.heap.size 3 1 r L.length (L.map (Value.int .i64)) ∧ Below w.heap.size w w') :
    Calls Tryd.prog 3 #[.slice ao n cap] w fun e w' => e = .returned (.bool true) ∧ Below w.heap.size w w' := by
  obtain ⟨zs, ez⟩ : ∃ zs, zs = cat L L.length := ⟨_, rfl⟩
  have hpo := p_ok L hL ha
  have hS : ∀ (w : World) (v : Value), Row w .i64 v L → Calls Tryd.prog 5 #[v] w fun e w' => ∃ r, e = .returned (.tuple #[r, .int .i64 0]) ∧ w'.ownsRow w.heap.size 5 1 r zs.length (zs.map (Value.int .u8)) ∧ Below w.heap.size w w' := by
    intro w v h
    have := specPutVars v L w h (by omega)
    rw [hpo.1, hpo.2, ← ez] at this
    exact this
  have hI : ∀ (w : World) (v : Value), Tab w → Row w .i64 v L → Calls Tryd.prog 6 #[v] w fun e w' => ∃ r, e = .returned (.tuple #[r, .int .i64 0]) ∧ w'.ownsRow w.heap.size 5 1 r zs.length (zs.map (Value.int .u8)) ∧ Below w.heap.size w w' := by
    intro w v ht h
    have := implPutVars v L w ht h (by omega)
    rw [hpo.1, hpo.2, ← ez] at this
    exact this
  have hzB : Bytes zs := by rw [ez]; exact cat_bytes L L.length ⟨by omega, by omega⟩ (ok_mem ha)
  have hz1 : zs.length ≤ 32776 := by rw [ez]; exact cat_le L hL ha
  have hz0 : 0 < zs.length := by rw [ez]; exact cat_pos L hL
  have dg : gcode zs = 0 ∧ glist zs = L := by rw [ez]; exact dec_good L ha hL (by rw [← ez]; omega)
  have dl : gcode (zs.take (zs.length - 1)) = 3 := by rw [ez]; exact dec_less L ha hL (by rw [← ez]; omega) (by rw [← ez]; exact hzB) (by rw [← ez]; exact hz0)
  have dm : gcode (zs ++ [0]) = 3 := by rw [ez]; exact dec_much L 0 ha hL (by rw [← ez]; omega)
  have hmB : Bytes (zs ++ [0]) := by
    intro x hx
    rcases List.mem_append.1 hx with h | h
    · exact hzB x h
    · simp at h; omega
  have G1 : ∀ (w : World) (v : Value), Tab w → Row w .u8 v zs → Calls Tryd.prog 8 #[v] w fun e w' => ∃ r, e = .returned (.tuple #[r, .int .i64 0]) ∧ w'.ownsRow w.heap.size 3 1 r L.length (L.map (Value.int .i64)) ∧ Below w.heap.size w w' := by
    intro w v ht h
    have := implGetVars v zs w ht h hzB (by omega)
    rw [dg.1, dg.2] at this
    exact this
  have G2 : ∀ (w : World) (v : Value), Tab w → Row w .u8 v (zs.take (zs.length - 1)) → Calls Tryd.prog 8 #[v] w fun e w' => ∃ r, e = .returned (.tuple #[r, .int .i64 3]) ∧ Below w.heap.size w w' := by
    intro w v ht h
    have := implGetVars v (zs.take (zs.length - 1)) w ht h (hzB.take _) (by rw [List.length_take]; omega)
    rw [dl] at this
    refine this.mono ?_
    rintro e w' ⟨r, h1, _, h2⟩
    exact ⟨r, h1, h2⟩
  have G3 : ∀ (w : World) (v : Value), Tab w → Row w .u8 v (zs ++ [0]) → Calls Tryd.prog 8 #[v] w fun e w' => ∃ r, e = .returned (.tuple #[r, .int .i64 3]) ∧ Below w.heap.size w w' := by
    intro w v ht h
    have := implGetVars v (zs ++ [0]) w ht h hmB (by rw [List.length_append]; simp; omega)
    rw [dm] at this
    refine this.mono ?_
    rintro e w' ⟨r, h1, _, h2⟩
    exact ⟨r, h1, h2⟩
  obtain ⟨m, em⟩ : ∃ m, m = zs.length := ⟨_, rfl⟩
  obtain ⟨q, eq⟩ : ∃ q, q = L.length := ⟨_, rfl⟩
  have EM : Hid (m = zs.length) := em
  have EQ : Hid (q = L.length) := eq
  rw [← em] at hS hI hz1 hz0 G2
  rw [← eq] at hD G1 hL
  have HA : Hid (allok L) := ha
  have HB : Hid (Bytes zs) := hzB
  obtain ⟨i0, hi, hi0, hi1, hi2⟩ := info_parts infoB
  clear em eq ez hpo dg dl dm hmB ha hzB
  go_enter Tryd.func3, Tryd.ntmps3
  go_wp2_with fail
  go_at_call 4
  refine (hD _ hrow).mono ?_
  rintro e w1 ⟨r1, rfl, o1, b1⟩
  go_wp2_with fail
  go_at_call 5
  refine (hS _ _ (row_of_owns o1)).mono ?_
  rintro e w2 ⟨rS, rfl, oS, b2⟩
  have c2 : Below w.heap.size w w2 := b1.trans (b2.mono b1.size)
  go_wp2_with fail
  go_at_call 4
  refine (hD _ (hrow.below c2)).mono ?_
  rintro e w3 ⟨r3, rfl, o3, b3⟩
  have c3 : Below w.heap.size w w3 := c2.trans (b3.mono c2.size)
  go_wp2_with fail
  go_at_call 6
  refine (hI _ _ (ht.below c3 ht.lt) (row_of_owns o3)).mono ?_
  rintro e w4 ⟨rB, rfl, oB, b4⟩
  have c4 : Below w.heap.size w w4 := c3.trans (b4.mono c3.size)
  have t4 := ht.below c4 ht.lt
  have d14 : Below w1.heap.size w1 w4 := (b2.trans (b3.mono b2.size)).trans (b4.mono (Nat.le_trans b2.size b3.size))
  have o14 := owns_below o1 d14
  go_wp2_with fail
  go_at_call 7
  refine (sameC _ _ zs zs _ _ _ _ _ oB (owns_below oS (b3.trans (b4.mono b3.size))) HB.out HB.out rfl).mono ?_
  rintro e w5 ⟨rfl, hw⟩
  rw [hw]
  clear hw w5
  obtain ⟨gb, cb, rfl, hgb, hgbl⟩ := owns_shape oB hz0
  obtain ⟨al, cl, hr1⟩ := (row_of_owns o1).form
  rw [← EQ.out] at hr1
  subst hr1
  have HC : Hid _ := c4
  clear c4 c3 c2 b1 b2 b3 b4 o3 oS hD hS hI hrow ht o1 d14
  have cells : ∀ j, j < m → w4.cell? ⟨gb, 0 + j, none⟩ = some (.int .u8 (zs.getD j 0)) := fun j hj => by rw [Nat.zero_add]; exact owns_cell oB EM.out.symm hj
  have K1 := copiedC gb 0 m cb zs w4 EM.out.symm (by omega) (Or.inr hgbl) cells
  have HK : Hid (∀ j, j < m → w4.cell? ⟨gb, 0 + j, none⟩ = some (.int .u8 (zs.getD j 0))) := cells
  clear cells
  go_wp2_with fail
  go_at_call 9
  refine K1.mono ?_
  rintro e w5 ⟨r5, rfl, o5, b5⟩
  have t5 := t4.below b5 t4.lt
  go_wp2_with fail
  go_at_call 8
  refine (G1 _ _ t5 (row_of_owns o5)).mono ?_
  rintro e w6 ⟨r6, rfl, o6, b6⟩
  have c6 : Below w4.heap.size w4 w6 := b5.trans (b6.mono b5.size)
  go_wp2_with fail
  go_at_call 10
  refine (sameI_same _ _ L _ (row_of_owns o6) ((row_of_owns o14).below c6) (by rw [← EQ.out]; omega)).mono ?_
  rintro e w7 ⟨rfl, m7, rfl⟩
  have c7 : Below w4.heap.size w4 (w6.drewN m7) := below_drewN c6 m7
  obtain ⟨w7, ew7⟩ : ∃ w7, w7 = w6.drewN m7 := ⟨_, rfl⟩
  rw [← ew7] at c7 ⊢
  clear ew7 c6 o5 o6 b5 b6 t5 K1 G1
  have o17 := owns_below o14 c7
  have t7 := t4.below c7 t4.lt
  have shape : ∀ k, k < q → ∃ gl, al = some ⟨gl, 0, none⟩ ∧ gl < w7.heap.size ∧ w7.cell? ⟨gl, k, none⟩ = some (.int .i64 (L.getD k 0)) := by
    intro k hk
    obtain ⟨gl, cl', e, _, hlt⟩ := owns_shape o17 (by omega)
    have e' : al = some ⟨gl, 0, none⟩ := by cases e; rfl
    subst e'
    exact ⟨gl, rfl, hlt, owns_cell o17 EQ.out.symm hk⟩
  have HS : Hid (∀ k, k < q → ∃ gl, al = some ⟨gl, 0, none⟩ ∧ gl < w7.heap.size ∧ w7.cell? ⟨gl, k, none⟩ = some (.int .i64 (L.getD k 0))) := shape
  have HW : Hid _ := And.intro c7 (And.intro t7 oB)
  clear shape o17 o14 c7 t7 t4 oB
  go_wp2
  go_loopw [10] (fun i wr => ∃ k : Nat, k ≤ q ∧ i = .int .i64 k ∧ Below w7.heap.size w7 wr) (fun i _ => q - (intOf i).toNat)
  case atStart => exact ⟨0, Nat.zero_le _, rfl, Below.refl _ _⟩
  case round =>
    obtain ⟨k, hk, rfl, hb⟩ := hrel
    by_cases hlt : k < q ∧ k < 60
    · obtain ⟨hlt, h60⟩ := hlt
      obtain ⟨gl, rfl, hgl, hcl⟩ := HS.out k hlt
      have cl0 : wr.cell? ⟨gl, k, none⟩ = some (.int .i64 (L.getD k 0)) := (hb.cell (p := ⟨gl, k, none⟩) hgl).trans hcl
      have hok := HA.out k (by rw [← EQ.out]; exact hlt)
      have tr : Tab wr := HW.out.2.1.below hb HW.out.2.1.lt
      have hvb := vsize_bd _ hok
      have hg1 := gv_one _ hok
      have hpl := putv_length (L.getD k 0)
      have hpB := putv_bytes _ hok
      obtain ⟨x, ex⟩ : ∃ x, x = L.getD k 0 := ⟨_, rfl⟩
      rw [← ex] at cl0 hok hvb hg1 hpl hpB
      clear ex hcl
      obtain ⟨p, ep⟩ : ∃ p, p = (vsize x).toNat := ⟨_, rfl⟩
      have ep' : (p : Int) = vsize x := by omega
      have PV := implPutVar x wr tr hok.1 hok.2
      have VL : ∀ w' : World, Below w7.heap.size w7 w' → Calls Tryd.prog 13 #[.int .i64 x] w' fun e w'' => e = .returned (.int .i64 (p : Int)) ∧ w'' = w' := by
        intro w' hb'
        rw [ep']
        exact implVarLen x w' (HW.out.2.1.below hb' HW.out.2.1.lt)
      have GV : ∀ (w' : World) (v : Value), Below w7.heap.size w7 w' → Row w' .u8 v (putv x) → Calls Tryd.prog 12 #[v, .int .i64 0] w' fun e w'' => e = .returned (.tuple #[.int .i64 x, .int .i64 (p : Int), .int .i64 0]) ∧ w'' = w' := by
        intro w' v hb' hr
        have := implGetVar v (putv x) 0 w' (HW.out.2.1.below hb' HW.out.2.1.lt) hr hpB (by rw [hpl]; omega)
        rw [hg1] at this
        rw [ep']
        exact this
      rw [← ep] at PV hvb hpl
      have HPL : Hid ((putv x).length = p) := hpl
      clear ep ep' hg1 hpl hpB hok tr
      go_wp2_with fail
      go_at_call 11
      refine PV.mono ?_
      rintro e wa ⟨rx, rfl, ox, bx⟩
      obtain ⟨gx, cx, rfl, hgx, hgxl⟩ := owns_shape ox hvb.1
      have hba : Below w7.heap.size w7 wa := hb.trans (bx.mono hb.size)
      have KX := copiedC gx 0 p cx (putv x) wa HPL.out (by omega) (Or.inr hgxl) (fun j hj => by rw [Nat.zero_add]; exact owns_cell ox HPL.out hj)
      have cla : wa.cell? ⟨gl, k, none⟩ = some (.int .i64 x) := (bx.cell (p := ⟨gl, k, none⟩) (Nat.lt_of_lt_of_le hgl hb.size)).trans cl0
      clear ox bx PV
      go_wp2_with fail
      go_at_call 9
      refine KX.mono ?_
      rintro e wb ⟨rc, rfl, oc, bc⟩
      have hbb : Below w7.heap.size w7 wb := hba.trans (bc.mono hba.size)
      have clb : wb.cell? ⟨gl, k, none⟩ = some (.int .i64 x) := (bc.cell (p := ⟨gl, k, none⟩) (Nat.lt_of_lt_of_le hgl hba.size)).trans cla
      have GV1 := GV wb rc hbb (row_of_owns oc)
      have VL1 := VL wb hbb
      have HBB : Hid _ := hbb
      clear oc bc KX cla cl0 hb hba GV VL hbb
      go_wp2_with (first
        | (go_at_call 12; refine GV1.mono ?_; rintro e w' ⟨rfl, hw⟩; rw [hw]; clear hw w')
        | (go_at_call 13; refine VL1.mono ?_; rintro e w' ⟨rfl, hw⟩; rw [hw]; clear hw w'))
      go_roundw
      case rel => exact ⟨k + 1, by omega, by go_num, HBB.out⟩
      case measure => simp [intOf]; omega
    · have HB2 : Hid _ := hb
      have c8 : Below w4.heap.size w4 wr := HW.out.1.trans (hb.mono HW.out.1.size)
      have t8 : Tab wr := HW.out.2.1.below hb HW.out.2.1.lt
      have hgw : gb < wr.heap.size := Nat.lt_of_lt_of_le hgbl c8.size
      have cl1 : ∀ j, j < m → wr.cell? ⟨gb, 0 + j, none⟩ = some (.int .u8 (zs.getD j 0)) := fun j hj => (c8.cell (p := ⟨gb, 0 + j, none⟩) hgbl).trans (HK.out j hj)
      have KL := copiedC gb 0 (m - 1) cb (zs.take (m - 1)) wr (by rw [List.length_take, ← EM.out]; omega) (by omega) (Or.inr hgw) (fun j hj => by rw [cl1 j (by omega)]; simp [List.getD, hj])
      have HC8 : Hid _ := And.intro c8 (And.intro t8 hgw)
      have hcb : m ≤ cb ∧ cb ≤ maxLen := by
        obtain ⟨_, _, cap', e', _, hcap, _⟩ := (row_of_owns HW.out.2.2).full (by rw [← EM.out]; exact hz0)
        rw [← EM.out] at hcap
        cases e'
        exact hcap
      have hcb1 := hcb.1
      have hcb2 : cb ≤ 9223372036854775807 := by have := hcb.2; unfold maxLen at this; omega
      clear hb c8 t8 cl1 hcb
      have hkk : k < q ∧ ¬ k < 60 ∨ ¬ k < q := by
        by_cases h1 : k < q
        · exact Or.inl ⟨h1, fun h2 => hlt ⟨h1, h2⟩⟩
        · exact Or.inr h1
      clear hlt
      rcases hkk with ⟨hkq, h60⟩ | hkq
      all_goals
        go_wp2_with fail
        go_at_call 9
        refine KL.mono ?_
        rintro e wa ⟨ra, rfl, oa, ba⟩
        have ca : Below w4.heap.size w4 wa := HC8.out.1.trans (ba.mono HC8.out.1.size)
        have ta : Tab wa := HC8.out.2.1.below ba HC8.out.2.1.lt
        go_wp2_with fail
        go_at_call 8
        refine (G2 _ _ ta (row_of_owns oa)).mono ?_
        rintro e wb ⟨rb, rfl, bb⟩
        have cb' : Below w4.heap.size w4 wb := ca.trans (bb.mono ca.size)
        have tb : Tab wb := ta.below bb ta.lt
        have KM := copiedC gb 0 m cb zs wb EM.out.symm (by omega) (Or.inr (Nat.lt_of_lt_of_le hgbl cb'.size)) (fun j hj => (cb'.cell (p := ⟨gb, 0 + j, none⟩) hgbl).trans (HK.out j hj))
        have HX : Hid _ := And.intro cb' tb
        clear oa ba ca ta bb cb' tb KL
        go_wp2_with fail
        go_at_call 9
        refine KM.mono ?_
        rintro e wc ⟨rc, rfl, oc, bc⟩
        go_wp2_with (at_builtin; refine wpList_append_own _ rfl _ _ 22 rfl wb.heap.size 5 i0 (.int .u8 0) 1 1 Tryd.underlying22 hi hi0 hi1 hi2 rfl (by decide) _ _ _ rfl (oc.alloc _) ⟨wc.heap.size, 0, none⟩ 1 1 [.int .u8 0] rfl rfl ?_ ?_ ?_ ?_ ?_ ?_)
        · intro j u hj
          match j, hj with
          | 0, hj => simp at hj; subst hj; simp [Addr.add]
        · intro u hu; simp at hu; subst hu; rfl
        · unfold maxLen; omega
        · omega
        · have := bc.size; simp; omega
        intro v' wd od gd _
        have hod : wd.ownsRow wb.heap.size 5 1 v' (m + 1) ((zs ++ [0]).map (Value.int .u8)) := by rw [List.map_append]; exact od
        have bd : Below wb.heap.size wb wd := (bc.alloc bc.size _).grown gd (by have := bc.size; simp; omega) (by intro j hj; exact (oc.lt j hj).1)
        have cd : Below w4.heap.size w4 wd := HX.out.1.trans (bd.mono HX.out.1.size)
        have td : Tab wd := HX.out.2.below bd HX.out.2.lt
        have G4 := G3 wd v' td (row_of_owns hod)
        have HD : Hid _ := cd
        clear od gd oc bc hod bd cd td KM
        go_wp2_with fail
        go_at_call 8
        refine G4.mono ?_
        rintro e we ⟨re, rfl, be'⟩
        have HE : Hid (Below w.heap.size w we) := HC.out.trans ((HD.out.mono HC.out.size).trans (be'.mono (Nat.le_trans HC.out.size HD.out.size)))
        clear be' G4
        go_wp2
        go_ret
        exact ⟨rfl, HE.out⟩

theorem fnVars_walk (v : Value) (cs : List Int) (hl : cs.length ≤ maxLen) (hwf : ∀ x ∈ cs, (Lit.int .u8 x).wf = true)
    (w : World) (hrow : Row w .u8 v cs) (ht : Tab w) :
    Calls Tryd.prog 3 #[v] w fun e w' => e = .returned (.bool true) ∧ Below w.heap.size w w' := by
  have hm : cs.length ≤ 9223372036854775807 := by unfold maxLen at hl; omega
  have hB := bytes_of_wf hwf
  obtain ⟨ao, cap, rfl⟩ := hrow.form
  by_cases h20 : 1048576 < cs.length
  · exact vars_huge ao _ cap w h20 hm
  · have hc : cs.length ≤ 1048576 := by omega
    have hdl := drawV_length cs
    have hD : ∀ w : World, Row w .u8 (.slice ao cs.length cap) cs → Calls Tryd.prog 4 #[.slice ao cs.length cap] w fun e w' => ∃ r, e = .returned r ∧ w'.ownsRow w.heap.size 3 1 r (drawV cs).length ((drawV cs).map (Value.int .i64)) ∧ Below w.heap.size w w' :=
      fun w h => drawC _ cs w h hB hc
    by_cases hL : (drawV cs).length ≤ 4096
    · by_cases ha : allok (drawV cs)
      · exact vars_good ao _ cap cs (drawV cs) w ht hc hrow hL ha hD
      · have hp := p_no _ hL ha
        refine vars_bad ao _ cap cs (drawV cs) 1 w ht hc hrow hD (fun w v h => ?_) (fun w v ht h => ?_) (by decide)
        · have := specPutVars v _ w h (by omega)
          rw [hp.1, hp.2] at this
          exact this
        · have := implPutVars v _ w ht h (by omega)
          rw [hp.1, hp.2] at this
          exact this
    · have hp := p_long (drawV cs) (by omega)
      refine vars_bad ao _ cap cs (drawV cs) 4 w ht hc hrow hD (fun w v h => ?_) (fun w v ht h => ?_) (by decide)
      · have := specPutVars v _ w h (by omega)
        rw [hp.1, hp.2] at this
        exact this
      · have := implPutVars v _ w ht h (by omega)
        rw [hp.1, hp.2] at this
        exact this
end Go.Proofs.YtkjfpgdnhdnceabDoor
