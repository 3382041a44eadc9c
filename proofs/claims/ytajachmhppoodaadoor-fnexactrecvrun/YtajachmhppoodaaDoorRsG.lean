import Derived.Test.YtajachmhppoodaaDoorRsF
namespace Go.Proofs.YtajachmhppoodaaDoor
open Go.RowKit
set_option linter.unusedVariables false
set_option linter.unusedSimpArgs false

/-- 'append(own, x)' of elements of one cell, a step of a region that draws. -/
theorem step_append_one {w : World} {ops : Array Oper} {o : Oper} {a : Act} {K : Act → World → Prop} {Q : Exit → Act → World → Prop} {E : Prop} (hgd : o.guard = none) (p q : Operand) (tS T : TypeId) (z : Value) (bs : Nat) (hzc : z.cells.size = 1) (hbs : bs ≤ 8)
    (ho : o.op = .call { callee := .builtin .append, args := #[p, q], argTypes := #[tS, tS] }) (ht : Tryd.prog.underlying tS = some (.slice T)) (hinfo : (Tryd.prog.info? T).map (fun i => (i.zero, i.size, i.bytes)) = some (some z, 1, bs))
    (base : Nat) (v : Value) (n : Nat) (ys : List Value) (hp : a.eval p = v) (hown : w.ownsRow base T 1 v n ys) (g : Nat) (x : Value) (hx1 : x.oneCell' = true) (hq : a.eval q = .slice (some ⟨g, 0, none⟩) 1 1) (hx : w.cell? ⟨g, 0, none⟩ = some x) (h63 : n + 1 ≤ 1099511627776) (hbase : base ≤ w.heap.size)
    (h : ∀ v' w', w'.ownsRow base T 1 v' (n + 1) (ys ++ [x]) → w.grownBy w' v.ownBlock → K (a.put o.dst v') w') :
    if Region.wanted o (yielded ops a.tmps) = true then Oper.wp Tryd.prog o a w K Q else E := by
  have hw : Region.wanted o (yielded ops a.tmps) = true := by simp [Region.wanted, hgd]
  rw [if_pos hw]
  obtain ⟨i0, hi, hz0, hz1, hz2⟩ := info_parts hinfo
  obtain ⟨v', w', hr, h2, h3, _⟩ := run_append_own (P := Tryd.prog) w base tS o.type T i0 z 1 bs ht hi hz0 hz1 hz2 hzc (by decide) v n ys hown ⟨g, 0, none⟩ 1 1 [x] rfl (by
    intro j u hj
    match j, hj with
    | 0, hj => simp at hj; subst hj; rw [Go.WideShapes.add_plain]; exact hx) (by intro u hu; simp at hu; subst hu; exact hx1) (by unfold maxLen; omega) (by have := Nat.mul_le_mul (show n + 1 ≤ 1099511627776 from h63) hbs; omega) hbase
  unfold Oper.wp
  simp [execOp, ho, resolve, invoke, builtin, hp, hq, hr, Result.andThen]
  exact h v' w' h2 h3
theorem lit0_u8 (w : World) (base : Nat) (hb : base ≤ w.heap.size) : (w.alloc (.cells #[] 5)).ownsRow base 5 1 (.slice (some ⟨w.heap.size, 0, none⟩) 0 0) 0 [] := World.ownsRow_lit _ #[] 0 hb (by decide) rfl
set_option maxRecDepth 20000 in
set_option maxHeartbeats 2000000 in
/-- get where it is refused or cut. -/
theorem get_no (g base win : Nat) (m : MS) (n : Int) (D : Nat → Prop) (w : World) (hR : MRep w D g base win m) (hst : m.st < 6) (h : n < 1 ∨ 4 ≤ m.st) :
    Calls Tryd.prog 27 #[.pointer (some ⟨g, 0, none⟩), .int .i64 n] w fun e w' => ∃ r, e = .returned (.tuple #[r, .bool (decide ((mread win m n).2.2 = 0 ∧ (mread win m n).1.st = 3)), .int .i64 (mread win m n).2.2]) ∧ w'.ownsRow w.heap.size 5 1 r (mread win m n).2.1.length ((mread win m n).2.1.map (Value.int .u8)) ∧ MRep w' D g base win (mread win m n).1 ∧ Chg D w w' := by
  obtain ⟨vd, vt, hb, hA⟩ := id hR
  have c0 : w.cell? ⟨g, 0, none⟩ = some (.int .i64 (m.st : Int)) := (bk_cell hb 0).trans rfl
  have f0 := bk_free hb 0
  have hgl := hb.lt
  by_cases a1 : n < 1
  · have e : mread win m n = (m, [], 1) := by unfold mread; rw [if_pos a1]
    rw [e]
    have hx : MRep (w.alloc (.cells #[] 5)) D g base win m := by
      have B : Below w.heap.size w (w.alloc (.cells #[] 5)) := (Below.refl _ _).alloc (Nat.le_refl _) _
      exact ⟨vd, vt, (B.block g hgl).trans hb, ⟨owns_below hA.od B, owns_below hA.ot B, hA.dg, hA.dd, hA.dt, fun k hk => Nat.lt_of_lt_of_le (hA.lt k hk) B.size, hA.gb⟩⟩
    have H0 : Hid _ := hx
    clear hR hb hA h hx e
    have ed : decide (((1 : Int) = 0) ∧ m.st = 3) = false := by simp
    rw [ed]
    go_enter Tryd.func27, Tryd.ntmps27
    go_wp2_with fail
    go_ret3
    exact ⟨_, rfl, lit0_u8 w _ (Nat.le_refl _), H0.out, alloc_chg w _⟩
  have a2 : 4 ≤ m.st := h.resolve_left a1
  have e : mread win m n = ({ m with st := 5 }, [], 23) := by unfold mread; rw [if_neg a1, if_pos a2]
  rw [e]
  have ed : decide (((23 : Int) = 0) ∧ ({ m with st := 5 } : MS).st = 3) = false := by simp
  rw [ed]
  have n1 : ∀ k, vt.ownBlock = some k → k ≠ g := own_gt hA.ot hb (by decide)
  have n2 : ∀ k, vd.ownBlock = some k → k ≠ g := own_gt hA.od hb (by decide)
  have hx : MRep ((w.setCell ⟨g, 0, none⟩ (.int .i64 5)).alloc (.cells #[] 5)) D g base win { m with st := 5 } := by
    have B : Below (w.setCell ⟨g, 0, none⟩ (.int .i64 5)).heap.size (w.setCell ⟨g, 0, none⟩ (.int .i64 5)) ((w.setCell ⟨g, 0, none⟩ (.int .i64 5)).alloc (.cells #[] 5)) := (Below.refl _ _).alloc (Nat.le_refl _) _
    have A2 := hA.setG n1 n2 0 (.int .i64 5)
    exact ⟨vd, vt, (B.block g (by rw [size_setC]; exact hgl)).trans (bk_set hb 0 _), ⟨owns_below A2.od B, owns_below A2.ot B, hA.dg, hA.dd, hA.dt, fun k hk => Nat.lt_of_lt_of_le (A2.lt k hk) B.size, hA.gb⟩⟩
  have hch : Chg D w ((w.setCell ⟨g, 0, none⟩ (.int .i64 5)).alloc (.cells #[] 5)) := ((chg_of_eq w).setD g 0 _ (Or.inl hA.dg)).trans (alloc_chg _ _)
  have hL : ((w.setCell ⟨g, 0, none⟩ (.int .i64 5)).alloc (.cells #[] 5)).ownsRow w.heap.size 5 1 (.slice (some ⟨w.heap.size, 0, none⟩) 0 0) 0 [] := by
    have := lit0_u8 (w.setCell ⟨g, 0, none⟩ (.int .i64 5)) w.heap.size (by rw [size_setC]; exact Nat.le_refl _)
    rw [size_setC] at this; exact this
  have H0 : Hid _ := And.intro hx (And.intro hch hL)
  clear hR hb hA h hx hch hL e n1 n2
  by_cases a4 : m.st = 4
  · have s4 : ((m.st : Int) == 4) = true := by simp [a4]
    clear a4
    go_enter Tryd.func27, Tryd.ntmps27
    go_wp2_with fail
    go_ret3
    exact ⟨_, rfl, H0.out.2.2, H0.out.1, H0.out.2.1⟩
  · have s4 : ((m.st : Int) == 4) = false := by simp; omega
    have s5 : ((m.st : Int) == 5) = true := by simp; omega
    clear a4
    go_enter Tryd.func27, Tryd.ntmps27
    go_wp2_with fail
    go_ret3
    exact ⟨_, rfl, H0.out.2.2, H0.out.1, H0.out.2.1⟩
end Go.Proofs.YtajachmhppoodaaDoor
