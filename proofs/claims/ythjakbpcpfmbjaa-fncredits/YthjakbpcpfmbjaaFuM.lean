import Derived.Test.YthjakbpcpfmbjaaFuB
import Derived.Test.YthjakbpcpfmbjaaPMap
import Derived.Lib.MinMax
namespace Go.Proofs.Ythjakbpcpfmbjaa
open Go.RowKit
set_option linter.unusedVariables false

def bS (b : Nat) : Bool := b % 2 == 1
def bO (b : Nat) : Bool := b / 2 == 1
def bN (s o : Bool) : Nat := (if s then 1 else 0) + (if o then 2 else 0)
theorem bN_lt (s o : Bool) : bN s o < 4 := by cases s <;> cases o <;> decide
theorem bS_bN (s o : Bool) : bS (bN s o) = s := by cases s <;> cases o <;> rfl
theorem bO_bN (s o : Bool) : bO (bN s o) = o := by cases s <;> cases o <;> rfl
theorem bN_inj {s o s' o' : Bool} (h : bN s o = bN s' o') : s = s' ∧ o = o' := ⟨by rw [← bS_bN s o, h, bS_bN], by rw [← bO_bN s o, h, bO_bN]⟩
theorem idn_bN (s o : Bool) (k : Int) : idn s o k = k * 4 + (bN s o : Int) := by unfold idn bN; cases s <;> cases o <;> simp <;> omega
/-- How many of a kind were opened, how many may be. -/
def kO (F : FS) (m : FX) (b : Nat) : Int := if bS b = F.sv then m.op (bO b) else m.th (bO b)
def kT (F : FS) (m : FX) (b : Nat) : Int := if bS b = F.sv then m.my (bO b) else m.tin (bO b)
def fcells (F : FS) (m : FX) (wb ms ml : Nat) : Array Value :=
  #[.bool F.sv, .int .i64 F.cw, .int .i64 F.sw, .int .i64 F.tw, .int .i64 F.ow, .int .i64 F.pc, .int .i64 F.ps, .int .i64 F.pt, .int .i64 F.po, .pointer (some ⟨wb, 0, none⟩),
    .int .i64 (kO F m 0), .int .i64 (kT F m 0), .int .i64 (kO F m 1), .int .i64 (kT F m 1), .int .i64 (kO F m 2), .int .i64 (kT F m 2), .int .i64 (kO F m 3), .int .i64 (kT F m 3), .map (some ms), .map (some ml)]
def acells (F : FS) (s : SX) : Array Value := #[.int .i64 F.sw, .int .i64 s.sn, .int .i64 s.cr, .int .i64 s.cm, .int .i64 s.rd, .int .i64 s.td]
def wcells (F : FS) (m : FX) (ss sc : Int) : Array Value := #[.int .i64 F.cw, .int .i64 ss, .int .i64 m.cc, .int .i64 sc, .int .i64 m.rc, .int .i64 m.tc]
def mS (L : List SX) (pb : Nat → Nat) (id : Int) : Option Nat := if ixf L id < L.length then some (pb (ixf L id)) else none
def mL (F : FS) (L : List SX) (pb : Nat → Nat) (id : Int) : Option Nat := if lasts F L id then some (pb (ixf L id)) else none
/-- The program's credit in memory. -/
structure FR (w : World) (g base : Nat) (F : FS) (m : FX) (ss sc : Int) (wb ms ml : Nat) (pb : Nat → Nat) : Prop where
  bk : w.heap[g]? = some (.cells (fcells F m wb ms ml) 78 (0, 0))
  wk : w.heap[wb]? = some (.cells (wcells F m ss sc) 96 (0, 0))
  ak : ∀ j, j < m.L.length → w.heap[pb j]? = some (.cells (acells F (m.L.getD j default)) 96 (0, 0))
  inj : ∀ i j, i < m.L.length → j < m.L.length → pb i = pb j → i = j
  nw : ∀ j, j < m.L.length → pb j ≠ wb
  lo : base ≤ g ∧ base ≤ wb ∧ base ≤ ms ∧ base ≤ ml
  lp : ∀ j, j < m.L.length → base ≤ pb j
  sm : PM w ms m.L.length (mS m.L pb)
  lm : PM w ml m.L.length (mL F m.L pb)
  ne : ms ≠ ml
def FRep (w : World) (g base : Nat) (F : FS) (m : FX) : Prop := ∃ wb ms ml pb, FR w g base F m (sumS m.L) (sumC m.L) wb ms ml pb
def fT (T : TypeId) : Bool := T == 78 || T == 96
abbrev FCh (base : Nat) (w w' : World) : Prop := ChT fT base w w'
theorem map_apart {w : World} {g k : Nat} {c : Array Value} {T : TypeId} {fr : Nat × Nat} {es : Array MapEntry} {cl : Nat} (h : w.heap[g]? = some (.cells c T fr)) (h' : w.heap[k]? = some (.map es cl)) : g ≠ k := fun e => by
  subst e
  rw [h] at h'
  cases h'
section
variable {w w' : World} {g base : Nat} {F : FS} {m : FX} {ss sc : Int} {wb ms ml : Nat} {pb : Nat → Nat}
theorem FR.below (h : FR w g base F m ss sc wb ms ml pb) (hb : Below w.heap.size w w') : FR w' g base F m ss sc wb ms ml pb := by
  have z : ∀ {k : Nat} {o : Obj}, w.heap[k]? = some o → w'.heap[k]? = some o := fun {k o} e => (hb.block k (Array.getElem?_eq_some_iff.1 e).1).trans e
  exact ⟨z h.bk, z h.wk, fun j hj => z (h.ak j hj), h.inj, h.nw, h.lo, h.lp, h.sm.same (hb.block _ h.sm.lt), h.lm.same (hb.block _ h.lm.lt), h.ne⟩
theorem FR.drewN (h : FR w g base F m ss sc wb ms ml pb) (n : Nat) : FR (w.drewN n) g base F m ss sc wb ms ml pb := h.below (below_drewN (Below.refl _ _) n)
theorem FR.ng (h : FR w g base F m ss sc wb ms ml pb) : g ≠ wb ∧ g ≠ ms ∧ g ≠ ml ∧ wb ≠ ms ∧ wb ≠ ml ∧ ∀ j, j < m.L.length → pb j ≠ g ∧ pb j ≠ ms ∧ pb j ≠ ml := by
  obtain ⟨e1, c1, b1⟩ := h.sm.isMap
  obtain ⟨e2, c2, b2⟩ := h.lm.isMap
  exact ⟨bk_apart h.bk h.wk (by decide), map_apart h.bk b1, map_apart h.bk b2, map_apart h.wk b1, map_apart h.wk b2, fun j hj => ⟨(bk_apart h.bk (h.ak j hj) (by decide)).symm, map_apart (h.ak j hj) b1, map_apart (h.ak j hj) b2⟩⟩
/-- A store into the flow's own block. -/
theorem FR.setK (h : FR w g base F m ss sc wb ms ml pb) (i : Nat) (u : Value) {m' : FX} (hc : (fcells F m wb ms ml).setIfInBounds i u = fcells F m' wb ms ml) (e1 : m'.L = m.L) (e2 : m'.cc = m.cc) (e3 : m'.tc = m.tc) (e4 : m'.rc = m.rc) : FR (w.setCell ⟨g, i, none⟩ u) g base F m' ss sc wb ms ml pb := by
  obtain ⟨n1, n2, n3, n4, n5, n6⟩ := h.ng
  refine ⟨by rw [bk_set h.bk i u, hc], ?_, fun j hj => ?_, by rw [e1]; exact h.inj, by rw [e1]; exact h.nw, h.lo, by rw [e1]; exact h.lp, by rw [e1]; exact h.sm.setCell n2.symm u, by rw [e1]; exact h.lm.setCell n3.symm u, h.ne⟩
  · rw [bk_other n1.symm, h.wk]; unfold wcells; rw [e2, e3, e4]
  · rw [e1] at hj ⊢
    rw [bk_other (n6 j hj).1]; exact h.ak j hj
/-- A store into the whole's account. -/
theorem FR.setW (h : FR w g base F m ss sc wb ms ml pb) (i : Nat) (u : Value) {m' : FX} {ss' sc' : Int} (hc : (wcells F m ss sc).setIfInBounds i u = wcells F m' ss' sc') (e1 : m'.L = m.L) (e2 : m'.op = m.op) (e3 : m'.th = m.th) (e4 : m'.my = m.my) (e5 : m'.tin = m.tin) : FR (w.setCell ⟨wb, i, none⟩ u) g base F m' ss' sc' wb ms ml pb := by
  obtain ⟨n1, n2, n3, n4, n5, n6⟩ := h.ng
  refine ⟨?_, by rw [bk_set h.wk i u, hc], fun j hj => ?_, by rw [e1]; exact h.inj, by rw [e1]; exact h.nw, h.lo, by rw [e1]; exact h.lp, by rw [e1]; exact h.sm.setCell n4.symm u, by rw [e1]; exact h.lm.setCell n5.symm u, h.ne⟩
  · rw [bk_other n1, h.bk]; unfold fcells kO kT; rw [e2, e3, e4, e5]
  · rw [e1] at hj ⊢
    rw [bk_other (h.nw j hj)]; exact h.ak j hj
theorem lasts_congr {L L' : List SX} {id : Int} (hl : L'.length = L.length) (hi : ixf L' id = ixf L id) (ho : ixf L id < L.length → (sxAt L' id).ov = (sxAt L id).ov) : lasts F L' id ↔ lasts F L id := by
  unfold lasts
  rw [hl, hi]
  constructor
  · rintro ⟨a, b, c⟩; exact ⟨a, b, by rw [← ho a]; exact c⟩
  · rintro ⟨a, b, c⟩; exact ⟨a, b, by rw [ho a]; exact c⟩
theorem ixf_ids {L L' : List SX} (h : L'.map SX.id = L.map SX.id) (id : Int) : ixf L' id = ixf L id := by
  have e : ∀ M : List SX, ixf M id = (M.map SX.id).findIdx (fun x => decide (x = id)) := fun M => by
    unfold ixf
    rw [List.findIdx_map]
    rfl
  rw [e, e, h]
/-- A store into a stream's account. -/
theorem FR.setA (h : FR w g base F m ss sc wb ms ml pb) (id : Int) (hl : ixf m.L id < m.L.length) (i : Nat) (u : Value) (x : SX) (hx : x.id = id) (ho : x.ov = (sxAt m.L id).ov) (hc : (acells F (sxAt m.L id)).setIfInBounds i u = acells F x) :
    FR (w.setCell ⟨pb (ixf m.L id), i, none⟩ u) g base F { m with L := sxSet m.L id x } ss sc wb ms ml pb := by
  obtain ⟨n1, n2, n3, n4, n5, n6⟩ := h.ng
  have nj := n6 _ hl
  have el := set_len m.L id x
  have ids := set_ids m.L id x hx
  refine ⟨by rw [bk_other nj.1.symm, h.bk]; rfl, by rw [bk_other (h.nw _ hl).symm, h.wk]; rfl, fun j hj => ?_, ?_, ?_, h.lo, ?_, ?_, ?_, h.ne⟩
  · replace hj : j < (sxSet m.L id x).length := hj
    rw [el] at hj
    show _ = some (Obj.cells (acells F ((sxSet m.L id x).getD j default)) _ _)
    by_cases e : j = ixf m.L id
    · subst e
      rw [bk_set (h.ak _ hl) i u]
      have e1 : m.L.getD (ixf m.L id) default = sxAt m.L id := rfl
      rw [e1, hc]
      simp [sxSet, List.getD, hl]
    · rw [bk_other (fun q => e (h.inj _ _ hj hl q)), h.ak j hj]
      simp [sxSet, List.getD, List.getElem?_set_ne (Ne.symm e)]
  · show ∀ a b, a < (sxSet m.L id x).length → b < (sxSet m.L id x).length → _
    rw [el]; exact h.inj
  · show ∀ a, a < (sxSet m.L id x).length → _
    rw [el]; exact h.nw
  · show ∀ a, a < (sxSet m.L id x).length → _
    rw [el]; exact h.lp
  · show PM _ ms (sxSet m.L id x).length (mS (sxSet m.L id x) pb)
    rw [el]
    refine (h.sm.setCell nj.2.1.symm u).congr fun id' _ => ?_
    unfold mS
    rw [el, ixf_ids ids]
  · show PM _ ml (sxSet m.L id x).length (mL F (sxSet m.L id x) pb)
    rw [el]
    refine (h.lm.setCell nj.2.2.symm u).congr fun id' _ => ?_
    have q : lasts F (sxSet m.L id x) id' ↔ lasts F m.L id' := lasts_congr el (ixf_ids ids id') fun hl' => by
      by_cases e : ixf m.L id' = ixf m.L id
      · have e2 : sxAt (sxSet m.L id x) id' = x := by
          unfold sxAt
          rw [ixf_ids ids, e]
          simp [sxSet, List.getD, hl]
        have e3 : sxAt m.L id' = sxAt m.L id := by unfold sxAt; rw [e]
        rw [e2, e3, ho]
      · have e2 : sxAt (sxSet m.L id x) id' = sxAt m.L id' := by
          unfold sxAt
          rw [ixf_ids ids]
          simp [sxSet, List.getD, List.getElem?_set_ne (Ne.symm e)]
        rw [e2]
    unfold mL
    rw [ixf_ids ids]
    by_cases c : lasts F m.L id'
    · rw [if_pos c, if_pos (q.2 c)]
    · rw [if_neg c, if_neg (fun z => c (q.1 z))]
theorem FR.cell (h : FR w g base F m ss sc wb ms ml pb) (i : Nat) : w.cell? ⟨g, i, none⟩ = (fcells F m wb ms ml)[i]? := bk_cell h.bk i
theorem FR.free (h : FR w g base F m ss sc wb ms ml pb) (i : Nat) : w.frozen? ⟨g, i, none⟩ = false := bk_free h.bk i
theorem FR.kc (h : FR w g base F m ss sc wb ms ml pb) (b : Nat) (hb : b < 4) : w.cell? ⟨g, 10 + b * 2, none⟩ = some (.int .i64 (kO F m b)) ∧ w.cell? ⟨g, 10 + b * 2 + 1, none⟩ = some (.int .i64 (kT F m b)) := by
  rw [h.cell, h.cell]
  obtain rfl | rfl | rfl | rfl : b = 0 ∨ b = 1 ∨ b = 2 ∨ b = 3 := by omega
  all_goals exact ⟨rfl, rfl⟩
theorem FR.kfree (h : FR w g base F m ss sc wb ms ml pb) (b : Nat) : w.frozen? ⟨g, 10 + b * 2, none⟩ = false ∧ w.frozen? ⟨g, 10 + b * 2 + 1, none⟩ = false := ⟨h.free _, h.free _⟩
theorem FR.acell (h : FR w g base F m ss sc wb ms ml pb) {id : Int} (hl : ixf m.L id < m.L.length) (i : Nat) : w.cell? ⟨pb (ixf m.L id), i, none⟩ = (acells F (sxAt m.L id))[i]? := bk_cell (h.ak _ hl) i
theorem FR.afree (h : FR w g base F m ss sc wb ms ml pb) {id : Int} (hl : ixf m.L id < m.L.length) (i : Nat) : w.frozen? ⟨pb (ixf m.L id), i, none⟩ = false := bk_free (h.ak _ hl) i
theorem FR.wcell (h : FR w g base F m ss sc wb ms ml pb) (i : Nat) : w.cell? ⟨wb, i, none⟩ = (wcells F m ss sc)[i]? := bk_cell h.wk i
theorem FR.wfree (h : FR w g base F m ss sc wb ms ml pb) (i : Nat) : w.frozen? ⟨wb, i, none⟩ = false := bk_free h.wk i
theorem FR.lookS (h : FR w g base F m ss sc wb ms ml pb) {id : Int} (hi : (Lit.int .i64 id).wf = true) : (Instr.lookup 73 (.map (some ms)) (.int .i64 id) false).run Try.prog w = .ok (pval (mS m.L pb id)) w := h.sm.look hi
theorem FR.lookL (h : FR w g base F m ss sc wb ms ml pb) {id : Int} (hi : (Lit.int .i64 id).wf = true) : (Instr.lookup 73 (.map (some ml)) (.int .i64 id) false).run Try.prog w = .ok (pval (mL F m.L pb id)) w := h.lm.look hi
end
/-- What the stores into the flow's own blocks leave. -/
theorem FR.chK {W w : World} {g base : Nat} {F : FS} {m : FX} {ss sc : Int} {wb ms ml : Nat} {pb : Nat → Nat} (h : FR w g base F m ss sc wb ms ml pb) (c : FCh base W w) (i : Nat) (u : Value) : FCh base W (w.setCell ⟨g, i, none⟩ u) := c.set h.bk (by decide) h.lo.1 i u
theorem FR.chW {W w : World} {g base : Nat} {F : FS} {m : FX} {ss sc : Int} {wb ms ml : Nat} {pb : Nat → Nat} (h : FR w g base F m ss sc wb ms ml pb) (c : FCh base W w) (i : Nat) (u : Value) : FCh base W (w.setCell ⟨wb, i, none⟩ u) := c.set h.wk (by decide) h.lo.2.1 i u
theorem FR.chA {W w : World} {g base : Nat} {F : FS} {m : FX} {ss sc : Int} {wb ms ml : Nat} {pb : Nat → Nat} (h : FR w g base F m ss sc wb ms ml pb) (c : FCh base W w) {id : Int} (hl : ixf m.L id < m.L.length) (i : Nat) (u : Value) : FCh base W (w.setCell ⟨pb (ixf m.L id), i, none⟩ u) := c.set (h.ak _ hl) (by decide) (h.lp _ hl) i u
end Go.Proofs.Ythjakbpcpfmbjaa
