import Derived.Test.YtpdclbfjngmppaaDoorBkB
import Derived.Laws.AppendOwnNone
import Derived.Maps.AppendAt
import Derived.Deep.RegionLaw
import Derived.Lib.MinMax
import Derived.BigRegion
namespace Go.Proofs.YtpdclbfjngmppaaDoor
open Go.RowKit
set_option linter.unusedVariables false

theorem infoBo : (Tryd.prog.info? 4).map (fun i => (i.zero, i.size, i.bytes)) = some (some (.bool false), 1, 1) := by kernel_rfl
theorem infoU8 : (Tryd.prog.info? 5).map (fun i => (i.zero, i.size, i.bytes)) = some (some (.int .u8 0), 1, 1) := by kernel_rfl
/-- 'append(own, x)' of elements of one cell. -/
theorem wpList_append_one {w : World} {ops : Array Oper} {rest : List Oper} {o : Oper} {a : Act} {Q : Exit → Act → World → Prop} (hgd : o.guard = none) (p q : Operand) (tS T : TypeId) (z : Value) (bs : Nat) (hzc : z.cells.size = 1) (hbs : bs ≤ 8)
    (ho : o.op = .call { callee := .builtin .append, args := #[p, q], argTypes := #[tS, tS] }) (ht : Tryd.prog.underlying tS = some (.slice T)) (hinfo : (Tryd.prog.info? T).map (fun i => (i.zero, i.size, i.bytes)) = some (some z, 1, bs))
    (base : Nat) (v : Value) (n : Nat) (ys : List Value) (hp : a.eval p = v) (hown : w.ownsRow base T 1 v n ys) (g : Nat) (x : Value) (hx1 : x.oneCell' = true) (hq : a.eval q = .slice (some ⟨g, 0, none⟩) 1 1) (hx : w.cell? ⟨g, 0, none⟩ = some x) (h63 : n + 1 ≤ 1099511627776) (hbase : base ≤ w.heap.size)
    (h : ∀ v' w', w'.ownsRow base T 1 v' (n + 1) (ys ++ [x]) → w.grownBy w' v.ownBlock → (v'.ownBlock = v.ownBlock ∨ v'.ownBlock = some w.heap.size) → wpList Tryd.prog ops Q rest (a.put o.dst v') w') :
    wpList Tryd.prog ops Q (o :: rest) a w := by
  obtain ⟨i0, hi, hz0, hz1, hz2⟩ := info_parts hinfo
  refine wpList_append_own_at w hgd p q tS ho base T i0 z 1 bs ht hi hz0 hz1 hz2 hzc (by decide) v n ys hp hown ⟨g, 0, none⟩ 1 1 [x] hq rfl ?_ ?_ (by unfold maxLen; omega) ?_ hbase ?_
  · intro j u hj
    match j, hj with
    | 0, hj => simp at hj; subst hj; rw [Go.WideShapes.add_plain]; exact hx
  · intro u hu; simp at hu; subst hu; exact hx1
  · have := Nat.mul_le_mul (show n + 1 ≤ 1099511627776 from h63) hbs; omega
  · intro v' w' ho' hg _ hat
    exact h v' w' ho' hg hat
/-- The rows of the places, and which blocks are the part's own. -/
structure MA (w : World) (D : Nat → Prop) (g base : Nat) (T : PL) (vd vt : Value) : Prop where
  od : w.ownsRow base 5 1 vd T.length (T.map fun x => .int .u8 x.2)
  ot : w.ownsRow base 4 1 vt T.length (T.map fun x => .bool x.1)
  dg : D g
  dd : ∀ k, vd.ownBlock = some k → D k
  dt : ∀ k, vt.ownBlock = some k → D k
  lt : ∀ k, D k → k < w.heap.size
  gb : base ≤ g
def DU (D : Nat → Prop) (w wr : World) : Nat → Prop := fun k => D k ∨ (w.heap.size ≤ k ∧ k < wr.heap.size)
theorem row_bool {w : World} {base n : Nat} {vt : Value} {T : PL} (h : w.ownsRow base 4 1 vt n (T.map fun x => .bool x.1)) (hn : n = T.length) (p : Nat) (hp : p < n) : ∃ b cap, vt = .slice (some ⟨b, 0, none⟩) n cap ∧ w.cell? ⟨b, p, none⟩ = some (.bool (PL.g T p).1) ∧ w.frozen? ⟨b, p, none⟩ = false := by
  obtain ⟨b, cap, rfl, _, _⟩ := owns_shape h (by omega)
  refine ⟨b, cap, rfl, ?_, h.frozenAt p⟩
  rw [h.cellAt p (by omega), List.getElem?_map, List.getElem?_eq_getElem (by omega)]
  simp [PL.g, List.getD, show p < T.length by omega]
theorem row_byte {w : World} {base n : Nat} {vd : Value} {T : PL} (h : w.ownsRow base 5 1 vd n (T.map fun x => .int .u8 x.2)) (hn : n = T.length) (p : Nat) (hp : p < n) : ∃ b cap, vd = .slice (some ⟨b, 0, none⟩) n cap ∧ w.cell? ⟨b, p, none⟩ = some (.int .u8 (PL.g T p).2) ∧ w.frozen? ⟨b, p, none⟩ = false := by
  obtain ⟨b, cap, rfl, _, _⟩ := owns_shape h (by omega)
  refine ⟨b, cap, rfl, ?_, h.frozenAt p⟩
  rw [h.cellAt p (by omega), List.getElem?_map, List.getElem?_eq_getElem (by omega)]
  simp [PL.g, List.getD, show p < T.length by omega]
end Go.Proofs.YtpdclbfjngmppaaDoor

namespace Go.Proofs.YtpdclbfjngmppaaDoor
open Go.RowKit
set_option linter.unusedVariables false

theorem Chg.mono' {S S' : Nat → Prop} {w w' : World} (h : Chg S w w') (hs : ∀ k, k < w.heap.size → S k → S' k) : Chg S' w w' := ⟨h.os, h.tape, h.output, h.size, fun k hk hn => h.block k hk (fun e => hn (hs k hk e))⟩
theorem MA.shape {w : World} {D : Nat → Prop} {g base : Nat} {T : PL} {vd vt : Value} (h : MA w D g base T vd vt) : (∃ da dc, vd = .slice da T.length dc) ∧ ∃ ta tc, vt = .slice ta T.length tc := by
  constructor
  · rcases h.od.2 with ⟨rfl, h1⟩ | ⟨g', cap, cur, rfl, _⟩
    · exact ⟨none, 0, by rw [h1]⟩
    · exact ⟨_, _, rfl⟩
  · rcases h.ot.2 with ⟨rfl, h1⟩ | ⟨g', cap, cur, rfl, _⟩
    · exact ⟨none, 0, by rw [h1]⟩
    · exact ⟨_, _, rfl⟩
theorem grown_chg {w w' : World} {o : Option Nat} (h : w.grownBy w' o) : Chg (fun k => some k = o) w w' := ⟨h.os, h.tape, h.output, h.size, fun k hk hn => h.block k hk hn⟩
theorem pad_one (T : PL) (j : Nat) (h : T.length ≤ j) : pad T (j + 1) = pad T j ++ [(false, 0)] := by
  unfold pad
  rw [show j + 1 - T.length = (j - T.length) + 1 by omega, List.replicate_succ', ← List.append_assoc]
theorem own_gt {w : World} {base e n s : Nat} {v : Value} {xs : List Value} (h : w.ownsRow base e s v n xs) {g : Nat} {c : Array Value} {t : TypeId} {fr : Nat × Nat} (hg : w.heap[g]? = some (.cells c t fr)) (hT : t ≠ e) (k : Nat) (hk : v.ownBlock = some k) : k ≠ g := by
  intro e'
  subst e'
  obtain ⟨c1, e1⟩ := owns_typeB h k hk
  rw [e1] at hg
  have := Option.some.inj hg
  injection this with _ ht
  exact hT ht.symm
theorem own_two {w : World} {b1 b2 n1 n2 e1 e2 s1 s2 : Nat} {v1 v2 : Value} {x1 x2 : List Value} (hT : e1 ≠ e2) (h1 : w.ownsRow b1 e1 s1 v1 n1 x1) (h2 : w.ownsRow b2 e2 s2 v2 n2 x2) (k : Nat) (hk : v1.ownBlock = some k) : some k ≠ v2.ownBlock := by
  intro e
  obtain ⟨c1, f1⟩ := owns_typeB h1 k hk
  obtain ⟨c2, f2⟩ := owns_typeB h2 k e.symm
  rw [f1] at f2
  have := Option.some.inj f2
  injection this with _ ht
  exact hT ht
theorem ownsChg {S : Nat → Prop} {w w' : World} {base e s n : Nat} {v : Value} {xs : List Value} (h : Chg S w w') (ho : w.ownsRow base e s v n xs) (hne : ∀ k, v.ownBlock = some k → ¬ S k) : w'.ownsRow base e s v n xs := by
  obtain ⟨hl, h2⟩ := ho
  refine ⟨hl, ?_⟩
  rcases h2 with h2 | ⟨g', cap, cur, rfl, hg, hh, r⟩
  · exact Or.inl h2
  · exact Or.inr ⟨g', cap, cur, rfl, hg, (h.block g' (Array.getElem?_eq_some_iff.1 hh).1 (hne g' rfl)).trans hh, r⟩
end Go.Proofs.YtpdclbfjngmppaaDoor

namespace Go.Proofs.YtpdclbfjngmppaaDoor
open Go.RowKit
set_option linter.unusedVariables false

end Go.Proofs.YtpdclbfjngmppaaDoor

namespace Go.Proofs.YtpdclbfjngmppaaDoor
open Go.RowKit
set_option linter.unusedVariables false
set_option linter.unusedSimpArgs false

theorem lit1 (w : World) (t : TypeId) (x : Value) : (w.alloc (.cells #[x] t)).cell? ⟨w.heap.size, 0, none⟩ = some x := bk_cell (heap_alloc_new w _) 0
theorem size_setC (w : World) (a : Addr) (v : Value) : (w.setCell a v).heap.size = w.heap.size := by simp [World.setCell]
theorem lit1s (w : World) (a : Addr) (v : Value) (t : TypeId) (x : Value) : ((w.setCell a v).alloc (.cells #[x] t)).cell? ⟨w.heap.size, 0, none⟩ = some x := by
  have h := lit1 (w.setCell a v) t x
  rw [size_setC] at h; exact h
theorem own_form {w : World} {base e s n : Nat} {v : Value} {xs : List Value} (h : w.ownsRow base e s v n xs) : ∃ a c, v = .slice a n c := by
  rcases h.2 with ⟨rfl, h1⟩ | ⟨g', cap, cur, rfl, _⟩
  · exact ⟨none, 0, by rw [h1]⟩
  · exact ⟨_, _, rfl⟩
theorem drewOwns {w : World} {base e s n : Nat} {v : Value} {xs : List Value} (h : w.ownsRow base e s v n xs) : w.drew.ownsRow base e s v n xs := h
theorem MA.put {w : World} {D : Nat → Prop} {g base j dc tc tb db p : Nat} {TT : PL} {xv : Int} (hA : MA w D g base TT (.slice (some ⟨db, 0, none⟩) j dc) (.slice (some ⟨tb, 0, none⟩) j tc)) (ntd : tb ≠ db) (hl : TT.length = j) :
    MA ((w.setCell ⟨tb, p, none⟩ (.bool true)).setCell ⟨db, p, none⟩ (.int .u8 xv)).drew D g base (TT.set p (true, xv)) (.slice (some ⟨db, 0, none⟩) j dc) (.slice (some ⟨tb, 0, none⟩) j tc) := by
  have e1 : (TT.set p (true, xv)).map (fun x => Value.int .u8 x.2) = (TT.map (fun x => Value.int .u8 x.2)).set p (.int .u8 xv) := by rw [List.map_set]
  have e2 : (TT.set p (true, xv)).map (fun x => Value.bool x.1) = (TT.map (fun x => Value.bool x.1)).set p (.bool true) := by rw [List.map_set]
  have od := hA.od
  have ot := hA.ot
  rw [hl] at od ot
  refine ⟨?_, ?_, hA.dg, hA.dd, hA.dt, fun k hk => ?_, hA.gb⟩
  · rw [List.length_set, e1, hl]
    exact drewOwns ((((Only.setCell (w := w) ⟨tb, p, none⟩ (.bool true)).owns od (fun k hk e => ntd (by simp [Value.ownBlock] at hk; have := Option.some.inj e; simp at this; omega))).stored p _).1)
  · rw [List.length_set, e2, hl]
    exact drewOwns ((Only.setCell (w := w.setCell ⟨tb, p, none⟩ (.bool true)) ⟨db, p, none⟩ (.int .u8 xv)).owns ((ot.stored p _).1) (fun k hk e => ntd (by simp [Value.ownBlock] at hk; have := Option.some.inj e; simp at this; omega)))
  · have := hA.lt k hk
    show k < _
    rw [show (((w.setCell ⟨tb, p, none⟩ (.bool true)).setCell ⟨db, p, none⟩ (.int .u8 xv)).drew).heap.size = w.heap.size by simp [World.setCell, World.drew]]
    exact this
theorem MA.setG {w : World} {D : Nat → Prop} {g base : Nat} {T : PL} {vd vt : Value} (hA : MA w D g base T vd vt) (n1 : ∀ k, vt.ownBlock = some k → k ≠ g) (n2 : ∀ k, vd.ownBlock = some k → k ≠ g) (i : Nat) (u : Value) : MA (w.setCell ⟨g, i, none⟩ u) D g base T vd vt :=
  ⟨(Only.setCell (w := w) ⟨g, i, none⟩ u).owns hA.od (fun k hk e => n2 k hk (Option.some.inj e)), (Only.setCell (w := w) ⟨g, i, none⟩ u).owns hA.ot (fun k hk e => n1 k hk (Option.some.inj e)), hA.dg, hA.dd, hA.dt, fun k hk => by rw [size_setC]; exact hA.lt k hk, hA.gb⟩
theorem MA.drewM {w : World} {D : Nat → Prop} {g base : Nat} {T : PL} {vd vt : Value} (hA : MA w D g base T vd vt) (n : Nat) : MA (w.drewN n) D g base T vd vt := ⟨hA.od, hA.ot, hA.dg, hA.dd, hA.dt, hA.lt, hA.gb⟩
theorem MA.wide {w : World} {D D' : Nat → Prop} {g base : Nat} {T : PL} {vd vt : Value} (hA : MA w D g base T vd vt) (h1 : ∀ k, D k → D' k) (h2 : ∀ k, D' k → k < w.heap.size) : MA w D' g base T vd vt := ⟨hA.od, hA.ot, h1 _ hA.dg, fun k hk => h1 k (hA.dd k hk), fun k hk => h1 k (hA.dt k hk), h2, hA.gb⟩
theorem Chg.trDU {D : Nat → Prop} {w we wr : World} (h1 : Chg D w we) (h2 : Chg (DU D w we) we wr) : Chg D w wr :=
  ⟨h2.os.trans h1.os, h2.tape.trans h1.tape, h2.output.trans h1.output, Nat.le_trans h1.size h2.size, fun k hk hn => (h2.block k (Nat.lt_of_lt_of_le hk h1.size) (fun e => e.elim hn (fun x => by omega))).trans (h1.block k hk hn)⟩
theorem Chg.setD {D : Nat → Prop} {w wr : World} (h : Chg D w wr) (g i : Nat) (u : Value) (hg : D g ∨ w.heap.size ≤ g) : Chg D w (wr.setCell ⟨g, i, none⟩ u) :=
  ⟨h.os, h.tape, h.output, by rw [size_setC]; exact h.size, fun k hk hn => (bk_other (k := k) (g := g) (fun e => hg.elim (fun x => hn (by rw [e]; exact x)) (fun x => by omega)) i u).trans (h.block k hk hn)⟩
theorem Chg.drewD {D : Nat → Prop} {w wr : World} (h : Chg D w wr) (n : Nat) : Chg D w (wr.drewN n) := ⟨h.os, h.tape, h.output, h.size, h.block⟩
theorem Chg.drewD1 {D : Nat → Prop} {w wr : World} (h : Chg D w wr) : Chg D w wr.drew := ⟨h.os, h.tape, h.output, h.size, h.block⟩
theorem pad_self (T : PL) (j : Nat) (h : j ≤ T.length) : pad T j = T := by unfold pad; rw [show j - T.length = 0 by omega]; simp
theorem alloc_chg {S : Nat → Prop} (w : World) (o : Obj) : Chg S w (w.alloc o) := Chg.of_below ((Below.refl _ _).alloc (Nat.le_refl _) o)
theorem alloc_owns {w : World} {base e s n : Nat} {v : Value} {xs : List Value} (h : w.ownsRow base e s v n xs) (o : Obj) : (w.alloc o).ownsRow base e s v n xs := owns_below h ((Below.refl _ _).alloc (Nat.le_refl _) o)
end Go.Proofs.YtpdclbfjngmppaaDoor

namespace Go.Proofs.YtpdclbfjngmppaaDoor
open Go.RowKit
set_option linter.unusedVariables false

theorem DU.self {D : Nat → Prop} {w : World} : DU D w w = D := by
  funext k; simp [DU]; omega
theorem castIf (a b : Bool) (n : Nat) : ((if a = true then 2 else if b = true then 1 else n : Nat) : Int) = (if a = true then (2 : Int) else if b = true then 1 else (n : Int)) := by cases a <;> cases b <;> rfl
end Go.Proofs.YtpdclbfjngmppaaDoor

namespace Go.Proofs.YtpdclbfjngmppaaDoor
open Go.RowKit
set_option linter.unusedVariables false
set_option linter.unusedSimpArgs false

end Go.Proofs.YtpdclbfjngmppaaDoor

namespace Go.Proofs.YtpdclbfjngmppaaDoor
open Go.RowKit
set_option linter.unusedVariables false
set_option linter.unusedSimpArgs false

/-- 'append(own, x)' of elements of one cell, a step of a region that draws. -/
theorem step_append_one {w : World} {ops : Array Oper} {o : Oper} {a : Act} {K : Act → World → Prop} {Q : Exit → Act → World → Prop} {E : Prop} (hgd : o.guard = none) (p q : Operand) (tS T : TypeId) (z : Value) (bs : Nat) (hzc : z.cells.size = 1) (hbs : bs ≤ 8)
    (ho : o.op = .call { callee := .builtin .append, args := #[p, q], argTypes := #[tS, tS] }) (ht : Tryd.prog.underlying tS = some (.slice T)) (hinfo : (Tryd.prog.info? T).map (fun i => (i.zero, i.size, i.bytes)) = some (some z, 1, bs))
    (base : Nat) (v : Value) (n : Nat) (ys : List Value) (hp : a.eval p = v) (hown : w.ownsRow base T 1 v n ys) (g : Nat) (x : Value) (hx1 : x.oneCell' = true) (hq : a.eval q = .slice (some ⟨g, 0, none⟩) 1 1) (hx : w.cell? ⟨g, 0, none⟩ = some x) (h63 : n + 1 ≤ 1099511627776) (hbase : base ≤ w.heap.size)
    (h : ∀ v' w', w'.ownsRow base T 1 v' (n + 1) (ys ++ [x]) → w.grownBy w' v.ownBlock → K (a.put o.dst v') w') :
    if Region.wanted o (yielded ops a.tmps) = true then Oper.wp Tryd.prog o a w K Q else E := by
  have hw : Region.wanted o (yielded ops a.tmps) = true := by simp [Region.wanted, hgd]
  rw [if_pos hw]
  obtain ⟨i0, hi, hz0, hz1, hz2⟩ := info_parts hinfo
  obtain ⟨v', w', hr, h2, h3, _⟩ := run_append_own (P := Tryd.prog) w base tS o.type T i0 z 1 bs ht hi hz0 hz1 hz2 hzc (by decide) v n ys hown ⟨g, 0, none⟩ 1 1 [x] rfl (by
    intro j u hj
    match j, hj with
    | 0, hj => simp at hj; subst hj; rw [Go.WideShapes.add_plain]; exact hx) (by intro u hu; simp at hu; subst hu; exact hx1) (by unfold maxLen; omega) (by have := Nat.mul_le_mul (show n + 1 ≤ 1099511627776 from h63) hbs; omega) hbase
  unfold Oper.wp
  simp [execOp, ho, resolve, invoke, builtin, hp, hq, hr, Result.andThen]
  exact h v' w' h2 h3
theorem lit0_u8 (w : World) (base : Nat) (hb : base ≤ w.heap.size) : (w.alloc (.cells #[] 5)).ownsRow base 5 1 (.slice (some ⟨w.heap.size, 0, none⟩) 0 0) 0 [] := World.ownsRow_lit _ #[] 0 hb (by decide) rfl
end Go.Proofs.YtpdclbfjngmppaaDoor

namespace Go.Proofs.YtpdclbfjngmppaaDoor
open Go.RowKit
set_option linter.unusedVariables false
set_option linter.unusedSimpArgs false

theorem heap_drewN {w : World} {k : Nat} {o : Option Obj} (n : Nat) (h : w.heap[k]? = o) : (w.drewN n).heap[k]? = o := h
theorem take_one (T : PL) (a k : Nat) (h : a + k < T.length) : ((T.drop a).take (k + 1)).map (·.2) = ((T.drop a).take k).map (·.2) ++ [(PL.g T (a + k)).2] := by
  rw [List.take_add_one, List.map_append]
  congr 1
  simp [PL.g, List.getD, h]
theorem lit1d (w : World) (t : TypeId) (x : Value) : (w.alloc (.cells #[x] t)).drew.cell? ⟨w.heap.size, 0, none⟩ = some x := lit1 w t x
theorem size_drew (w : World) : w.drew.heap.size = w.heap.size := rfl
theorem Chg.trans' {D S : Nat → Prop} {w w1 w2 : World} (h : Chg D w w1) (h2 : Chg S w1 w2) (hs : ∀ t, t < w.heap.size → ¬ S t) : Chg D w w2 :=
  ⟨h2.os.trans h.os, h2.tape.trans h.tape, h2.output.trans h.output, Nat.le_trans h.size h2.size, fun k hk hn => (h2.block k (Nat.lt_of_lt_of_le hk h.size) (hs k hk)).trans (h.block k hk hn)⟩
end Go.Proofs.YtpdclbfjngmppaaDoor

namespace Go.Proofs.YtpdclbfjngmppaaDoor
open Go.RowKit
set_option linter.unusedVariables false
set_option linter.unusedSimpArgs false

theorem ownsBlk {w w' : World} {base e s n : Nat} {v : Value} {xs : List Value} (ho : w.ownsRow base e s v n xs) (hne : ∀ k, k < w.heap.size → v.ownBlock = some k → w'.heap[k]? = w.heap[k]?) : w'.ownsRow base e s v n xs := by
  obtain ⟨hl, h2⟩ := ho
  refine ⟨hl, ?_⟩
  rcases h2 with h2 | ⟨g', cap, cur, rfl, hg, hh, r⟩
  · exact Or.inl h2
  · exact Or.inr ⟨g', cap, cur, rfl, hg, (hne g' (Array.getElem?_eq_some_iff.1 hh).1 rfl).trans hh, r⟩
end Go.Proofs.YtpdclbfjngmppaaDoor
