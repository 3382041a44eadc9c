import Derived.Test.YtajachmhppoodaaDoorRsH
namespace Go.Proofs.YtajachmhppoodaaDoor
open Go.RowKit
set_option linter.unusedVariables false
set_option linter.unusedSimpArgs false

theorem getM (g base win i : Nat) (m : MS) (n : Int) (D : Nat → Prop) (w : World) (I : MI win i m) (hi : i ≤ 400) (hw1 : 1 ≤ win) (hw2 : win ≤ 16384) (hR : MRep w D g base win m) :
    Calls Tryd.prog 27 #[.pointer (some ⟨g, 0, none⟩), .int .i64 n] w fun e w' => ∃ r, e = .returned (.tuple #[r, .bool (decide ((mread win m n).2.2 = 0 ∧ (mread win m n).1.st = 3)), .int .i64 (mread win m n).2.2]) ∧ w'.ownsRow w.heap.size 5 1 r (mread win m n).2.1.length ((mread win m n).2.1.map (Value.int .u8)) ∧ MRep w' D g base win (mread win m n).1 ∧ Chg D w w' := by
  have hrd := I.read
  have hct : cnt m.T ≤ m.T.length := List.countP_le_length
  have hcn := I.cnt
  have htd := I.told
  have htt := I.toldT
  have hf : 0 ≤ m.final := by
    by_cases h : m.sized = true
    · have := I.fin h; omega
    · have := I.fz (by simpa using h); omega
  by_cases h : n < 1 ∨ 4 ≤ m.st
  · exact get_no g base win m n D w hR I.st h
  · exact get_yes g base win m n D w hR (by omega) (by omega) hrd.2 (by omega) (by omega) hf hw1 hw2
theorem infoRO5 : (Tryd.prog.info? 55).map (fun i => (i.zero, i.size, i.bytes)) = some (some (.agg #[.int .i64 0, .int .i64 0, .int .i64 0, .slice none 0 0, .bool false]), 5, 56) := by kernel_rfl
/-- 'append(own, x)' of an observation. -/
theorem wpList_append5 {w : World} {ops : Array Oper} {rest : List Oper} {o : Oper} {a : Act} {Q : Exit → Act → World → Prop} (hgd : o.guard = none) (p q : Operand)
    (ho : o.op = .call { callee := .builtin .append, args := #[p, q], argTypes := #[24, 24] })
    (base : Nat) (v : Value) (n : Nat) (ys : List Value) (hp : a.eval p = v) (hown : w.ownsRow base 55 5 v n ys) (g : Nat) (x0 x1 x2 x3 x4 : Value) (hx : x0.oneCell' = true ∧ x1.oneCell' = true ∧ x2.oneCell' = true ∧ x3.oneCell' = true ∧ x4.oneCell' = true)
    (hq : a.eval q = .slice (some ⟨g, 0, none⟩) 1 1) (hc : w.heap[g]? = some (.cells #[x0, x1, x2, x3, x4] 55 (0, 0))) (h63 : n + 1 ≤ 1099511627776) (hbase : base ≤ w.heap.size)
    (h : ∀ v' w', w'.ownsRow base 55 5 v' (n + 1) (ys ++ [x0, x1, x2, x3, x4]) → w.grownBy w' v.ownBlock → (v'.ownBlock = v.ownBlock ∨ v'.ownBlock = some w.heap.size) → wpList Tryd.prog ops Q rest (a.put o.dst v') w') :
    wpList Tryd.prog ops Q (o :: rest) a w := by
  obtain ⟨i0, hi, hz0, hz1, hz2⟩ := info_parts infoRO5
  refine wpList_append_own_at w hgd p q 24 ho base 55 i0 _ 5 56 Tryd.underlying24 hi hz0 hz1 hz2 rfl (by decide) v n ys hp hown ⟨g, 0, none⟩ 1 1 [x0, x1, x2, x3, x4] hq rfl ?_ ?_ (by unfold maxLen; omega) (by omega) hbase ?_
  · intro j u hj
    rw [Go.WideShapes.add_plain]
    have e := bk_cell hc (0 + j)
    rw [e, Nat.zero_add]
    have hl : j < 5 := by have := (List.getElem?_eq_some_iff.1 hj).1; simpa using this
    rw [← hj]
    obtain rfl | rfl | rfl | rfl | rfl : j = 0 ∨ j = 1 ∨ j = 2 ∨ j = 3 ∨ j = 4 := by omega
    all_goals rfl
  · intro u hu
    simp only [List.mem_cons, List.not_mem_nil, or_false] at hu
    obtain ⟨a0, a1, a2, a3, a4⟩ := hx
    rcases hu with rfl | rfl | rfl | rfl | rfl <;> assumption
  · intro v' w' ho' hg _ hat
    exact h v' w' ho' hg hat
theorem newM (win : Int) (w : World) : Calls Tryd.prog 24 #[.int .i64 win] w fun e w' => e = .returned (.agg #[.int .i64 0, .int .i64 win, .int .i64 win, .int .i64 0, .int .i64 0, .int .i64 0, .bool false, .slice none 0 0, .slice none 0 0]) ∧ Below w.heap.size w w' := by
  go_enter Tryd.func24, Tryd.ntmps24
  go_wp2
  exact bodyPost_ret (v := .agg #[.int .i64 0, .int .i64 win, .int .i64 win, .int .i64 0, .int .i64 0, .int .i64 0, .bool false, .slice none 0 0, .slice none 0 0]) (by simp [results, Tryd.results24, go_sem]) rfl ⟨rfl, (Below.refl _ _).alloc (Nat.le_refl _) _⟩
/-- Behind k operations. -/
structure SpJ (g win : Nat) (R : List SRecvOp) (w wr : World) (k : Nat) (zs : List Value) (U : Nat → Value) (ro : Value) (D : Nat → Prop) : Prop where
  zl : zs.length = k * 5
  ow : wr.ownsRow w.heap.size 55 5 ro k zs
  cs : ∀ j, j < k → ∀ f, f < 5 → zs[j * 5 + f]? = ((mstep win (mrun win R j).1 (R.getD j default)).2.c (U j))[f]?
  inn : ∀ j, j < k → wr.ownsRow w.heap.size 5 1 (U j) (mstep win (mrun win R j).1 (R.getD j default)).2.d.length ((mstep win (mrun win R j).1 (R.getD j default)).2.d.map (Value.int .u8))
  ap : ∀ (i j : Nat), i < j → j < k → ∀ t, (U j).ownBlock = some t → some t ≠ (U i).ownBlock
  rep : MRep wr D g w.heap.size win (mrun win R k).1
  dr : ∀ t, ro.ownBlock = some t → ¬ D t
  du : ∀ j, j < k → ∀ t, (U j).ownBlock = some t → ¬ D t
  db : ∀ t, D t → w.heap.size ≤ t
  bw : Below w.heap.size w wr
def SpI (g win : Nat) (R : List SRecvOp) (w wr : World) (k : Nat) (ro : Value) : Prop := ∃ zs U D, SpJ g win R w wr k zs U ro D
theorem MRep.below {w w' : World} {D : Nat → Prop} {g base win : Nat} {m : MS} (h : MRep w D g base win m) (B : Below w.heap.size w w') : MRep w' D g base win m := by
  obtain ⟨vd, vt, hb, hA⟩ := h
  exact ⟨vd, vt, (B.block g hb.lt).trans hb, ⟨owns_below hA.od B, owns_below hA.ot B, hA.dg, hA.dd, hA.dt, fun k hk => Nat.lt_of_lt_of_le (hA.lt k hk) B.size, hA.gb⟩⟩
theorem MRep.chg {w w' : World} {D S : Nat → Prop} {g base win : Nat} {m : MS} (h : MRep w D g base win m) (C : Chg S w w') (hs : ∀ t, D t → ¬ S t) : MRep w' D g base win m := by
  obtain ⟨vd, vt, hb, hA⟩ := h
  exact ⟨vd, vt, (C.block g hb.lt (hs g hA.dg)).trans hb, ⟨ownsChg C hA.od (fun t ht => hs t (hA.dd t ht)), ownsChg C hA.ot (fun t ht => hs t (hA.dt t ht)), hA.dg, hA.dd, hA.dt, fun k hk => Nat.lt_of_lt_of_le (hA.lt k hk) C.size, hA.gb⟩⟩
theorem MRep.facts {w : World} {D : Nat → Prop} {g base win : Nat} {m : MS} (h : MRep w D g base win m) : w.cell? ⟨g, 0, none⟩ = some (.int .i64 (m.st : Int)) ∧ w.cell? ⟨g, 2, none⟩ = some (.int .i64 m.told) ∧ g < w.heap.size ∧ D g ∧ ∀ t, D t → t < w.heap.size := by
  obtain ⟨vd, vt, hb, hA⟩ := h
  exact ⟨(bk_cell hb 0).trans rfl, (bk_cell hb 2).trans rfl, hb.lt, hA.dg, hA.lt⟩
theorem ownsBlk {w w' : World} {base e s n : Nat} {v : Value} {xs : List Value} (ho : w.ownsRow base e s v n xs) (hne : ∀ k, k < w.heap.size → v.ownBlock = some k → w'.heap[k]? = w.heap[k]?) : w'.ownsRow base e s v n xs := by
  obtain ⟨hl, h2⟩ := ho
  refine ⟨hl, ?_⟩
  rcases h2 with h2 | ⟨g', cap, cur, rfl, hg, hh, r⟩
  · exact Or.inl h2
  · exact Or.inr ⟨g', cap, cur, rfl, hg, (hne g' (Array.getElem?_eq_some_iff.1 hh).1 rfl).trans hh, r⟩
/-- One round: from the part behind its step, and the observation appended. -/
theorem SpJ.next {g win k : Nat} {R : List SRecvOp} {w wr w3 w6 : World} {zs : List Value} {U : Nat → Value} {ro ro' r : Value} {D D' : Nat → Prop} (h : SpJ g win R w wr k zs U ro D)
    (st : MS × SRecvObs) (est : st = mstep win (mrun win R k).1 (R.getD k default))
    (c3 : Chg D wr w3) (hD' : ∀ t, D' t → D t ∨ (wr.heap.size ≤ t ∧ t < w3.heap.size)) (rep3 : MRep w3 D' g w.heap.size win st.1) (or3 : w3.ownsRow wr.heap.size 5 1 r st.2.d.length (st.2.d.map (Value.int .u8))) (hrD : ∀ t, r.ownBlock = some t → ¬ D' t)
    (c6 : Chg (fun t => some t = ro.ownBlock) w3 w6) (o6 : w6.ownsRow w.heap.size 55 5 ro' (k + 1) (zs ++ st.2.c r)) (a6 : ro'.ownBlock = ro.ownBlock ∨ ∃ t, ro'.ownBlock = some t ∧ w3.heap.size ≤ t) :
    SpJ g win R w w6 (k + 1) (zs ++ st.2.c r) (fun j => if j = k then r else U j) ro' D' := by
  have hb := h.bw.size
  have hz3 := c3.size
  have frow : ∀ t, D' t → w.heap.size ≤ t := fun t ht => (hD' t ht).elim (h.db t) (fun x => by omega)
  have roD' : ∀ t, ro.ownBlock = some t → ¬ D' t := fun t ht e => (hD' t e).elim (h.dr t ht) (fun x => by have := (h.ow.lt t ht).2; omega)
  have c6D : ∀ t, D' t → ¬ (some t = ro.ownBlock) := fun t ht e => roD' t e.symm ht
  have innw : ∀ j, j < k → w6.ownsRow w.heap.size 5 1 (U j) (mstep win (mrun win R j).1 (R.getD j default)).2.d.length ((mstep win (mrun win R j).1 (R.getD j default)).2.d.map (Value.int .u8)) := fun j hj => ownsChg c6 (ownsChg c3 (h.inn j hj) (fun t ht => h.du j hj t ht)) (fun t ht e => own_two (by decide) (h.inn j hj) h.ow t ht e)
  have r6 : w6.ownsRow wr.heap.size 5 1 r st.2.d.length (st.2.d.map (Value.int .u8)) := ownsChg c6 or3 (fun t ht e => by have h1 := (or3.lt t ht).1; have h2 := (h.ow.lt t e.symm).2; omega)
  have e1 : (mrun win R (k + 1)).1 = st.1 := by rw [est]; rfl
  refine ⟨by rw [List.length_append, h.zl]; simp [SRecvObs.c]; omega, o6, fun j hj f hf => ?_, fun j hj => ?_, fun i j hij hj t ht => ?_, ?_, fun t ht => ?_, fun j hj t ht => ?_, frow, ?_⟩
  · by_cases e : j = k
    · subst e
      rw [if_pos rfl, ← est, List.getElem?_append_right (by rw [h.zl]; omega), h.zl, Nat.add_sub_cancel_left]
    · rw [if_neg e, List.getElem?_append_left (by rw [h.zl]; exact jK_lt (by omega) hf)]
      exact h.cs j (by omega) f hf
  · by_cases e : j = k
    · rw [if_pos e, e, ← est]; exact owns_mono r6 hb
    · rw [if_neg e]; exact innw j (by omega)
  · by_cases e : j = k
    · subst e
      rw [if_pos rfl] at ht
      rw [if_neg (by omega)]
      intro e2
      have a1 := ((h.inn i hij).lt t e2.symm).2
      have a2 := (or3.lt t ht).1
      omega
    · rw [if_neg e] at ht
      rw [if_neg (by omega)]
      exact h.ap i j hij (by omega) t ht
  · rw [e1]; exact rep3.chg c6 c6D
  · rcases a6 with e | ⟨t', e, ht'⟩
    · exact roD' t (by rw [← e]; exact ht)
    · have e4 : t = t' := Option.some.inj (ht.symm.trans e)
      intro hd
      have := rep3.facts.2.2.2.2 t hd
      omega
  · by_cases e : j = k
    · rw [if_pos e] at ht; exact hrD t ht
    · rw [if_neg e] at ht
      intro hd
      rcases hD' t hd with x | x
      · exact h.du j (by omega) t ht x
      · have := ((h.inn j (by omega)).lt t ht).2; omega
  · have B1 : Below w.heap.size wr w3 := ⟨c3.os, c3.tape, c3.output, c3.size, fun t ht => c3.block t (by omega) (fun e => by have := h.db t e; omega)⟩
    have B2 : Below w.heap.size w3 w6 := ⟨c6.os, c6.tape, c6.output, c6.size, fun t ht => c6.block t (by omega) (fun e => by have := (h.ow.lt t e.symm).1; omega)⟩
    exact (h.bw.trans B1).trans B2
end Go.Proofs.YtajachmhppoodaaDoor
