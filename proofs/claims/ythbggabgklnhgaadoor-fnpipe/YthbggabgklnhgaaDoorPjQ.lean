import Derived.Test.YthbggabgklnhgaaDoorPjB
import Derived.Test.YthbggabgklnhgaaDoorPjC
import Derived.Deep.LoopGhost
import Derived.Lib.MinMax
import Derived.BigQuiet
import Derived.Test.YthbggabgklnhgaaDoorPjD
import Derived.Deep.RegionHeld3
import Derived.BigGuard
namespace Go.Proofs.YthbggabgklnhgaaDoor
open Go.RowKit
set_option linter.unusedVariables false
set_option linter.unusedSimpArgs false

def hv (W : List Nat) : List Value := W.map fun (x : Nat) => Value.int .i64 (x : Int)
structure QA (w : World) (D : Nat → Prop) (g base : Nat) (B : List Int) (W : List Nat) (vd vh : Value) : Prop where
  od : w.ownsRow base 5 1 vd B.length (B.map (Value.int .u8))
  oh : w.ownsRow base 3 1 vh W.length (hv W)
  dg : D g
  dd : ∀ k, vd.ownBlock = some k → D k
  dh : ∀ k, vh.ownBlock = some k → D k
  lt : ∀ k, D k → k < w.heap.size
  gb : base ≤ g
theorem QA.setG {w : World} {D : Nat → Prop} {g base : Nat} {B : List Int} {W : List Nat} {vd vh : Value} (hA : QA w D g base B W vd vh) (n1 : ∀ k, vh.ownBlock = some k → k ≠ g) (n2 : ∀ k, vd.ownBlock = some k → k ≠ g) (i : Nat) (u : Value) : QA (w.setCell ⟨g, i, none⟩ u) D g base B W vd vh :=
  ⟨(Only.setCell (w := w) ⟨g, i, none⟩ u).owns hA.od (fun k hk e => n2 k hk (Option.some.inj e)), (Only.setCell (w := w) ⟨g, i, none⟩ u).owns hA.oh (fun k hk e => n1 k hk (Option.some.inj e)), hA.dg, hA.dd, hA.dh, fun k hk => by rw [size_setC]; exact hA.lt k hk, hA.gb⟩
theorem QA.drewM {w : World} {D : Nat → Prop} {g base : Nat} {B : List Int} {W : List Nat} {vd vh : Value} (hA : QA w D g base B W vd vh) (n : Nat) : QA (w.drewN n) D g base B W vd vh := ⟨hA.od, hA.oh, hA.dg, hA.dd, hA.dh, hA.lt, hA.gb⟩
theorem QA.wide {w : World} {D D' : Nat → Prop} {g base : Nat} {B : List Int} {W : List Nat} {vd vh : Value} (hA : QA w D g base B W vd vh) (h1 : ∀ k, D k → D' k) (h2 : ∀ k, D' k → k < w.heap.size) : QA w D' g base B W vd vh := ⟨hA.od, hA.oh, h1 _ hA.dg, fun k hk => h1 k (hA.dd k hk), fun k hk => h1 k (hA.dh k hk), h2, hA.gb⟩
theorem QA.shape {w : World} {D : Nat → Prop} {g base : Nat} {B : List Int} {W : List Nat} {vd vh : Value} (h : QA w D g base B W vd vh) : (∃ da dc, vd = .slice da B.length dc) ∧ ∃ ta tc, vh = .slice ta W.length tc := by
  constructor
  · rcases h.od.2 with ⟨rfl, h1⟩ | ⟨g', cap, cur, rfl, _⟩
    · exact ⟨none, 0, by rw [h1]⟩
    · exact ⟨_, _, rfl⟩
  · rcases h.oh.2 with ⟨rfl, h1⟩ | ⟨g', cap, cur, rfl, _⟩
    · exact ⟨none, 0, by rw [h1]⟩
    · exact ⟨_, _, rfl⟩
theorem row_how {w : World} {base n : Nat} {vh : Value} {W : List Nat} (h : w.ownsRow base 3 1 vh n (hv W)) (hn : n = W.length) (p : Nat) (hp : p < n) : ∃ b cap, vh = .slice (some ⟨b, 0, none⟩) n cap ∧ w.cell? ⟨b, p, none⟩ = some (.int .i64 ((W.getD p 0 : Nat) : Int)) ∧ w.frozen? ⟨b, p, none⟩ = false := by
  obtain ⟨b, cap, rfl, _, _⟩ := owns_shape h (by omega)
  refine ⟨b, cap, rfl, ?_, h.frozenAt p⟩
  rw [h.cellAt p (by omega)]
  unfold hv
  rw [List.getElem?_map, List.getElem?_eq_getElem (by omega)]
  simp [List.getD, show p < W.length by omega]
end Go.Proofs.YthbggabgklnhgaaDoor

namespace Go.Proofs.YthbggabgklnhgaaDoor
open Go.RowKit
set_option linter.unusedVariables false
set_option linter.unusedSimpArgs false

/-- Settled below k. -/
def stW (W : List Nat) (a b x k : Nat) : List Nat := setN W a (min b k) x
theorem stW_length (W : List Nat) (a b x k : Nat) : (stW W a b x k).length = W.length := setN_length _ _ _ _
theorem stW_zero (W : List Nat) (a b x : Nat) : stW W a b x 0 = W := listN_ext (stW_length _ _ _ _ _) fun i hi => by
  rw [stW_length] at hi
  unfold stW
  rw [setN_at _ _ _ _ _ hi, if_neg (by omega)]
theorem stW_full (W : List Nat) (a b x : Nat) (h : b ≤ W.length) : stW W a b x W.length = setN W a b x := by unfold stW; rw [Nat.min_eq_left h]
theorem stW_now (W : List Nat) (a b x k : Nat) (h : k < W.length) : (stW W a b x k).getD k 0 = W.getD k 0 := by unfold stW; rw [setN_at _ _ _ _ _ h, if_neg (by omega)]
theorem stW_next (W : List Nat) (a b x k : Nat) (h : k < W.length) (c : a ≤ k ∧ k < b ∧ W.getD k 0 ≠ 2) : stW W a b x (k + 1) = (stW W a b x k).set k x := by
  unfold stW
  rw [Nat.min_eq_right (by omega : k + 1 ≤ b), Nat.min_eq_right (by omega : k ≤ b), setN_next W a k x c.1 h, if_neg c.2.2]
theorem stW_same (W : List Nat) (a b x k : Nat) (h : k < W.length) (c : ¬ (a ≤ k ∧ k < b ∧ W.getD k 0 ≠ 2)) : stW W a b x (k + 1) = stW W a b x k := by
  refine listN_ext (by rw [stW_length, stW_length]) fun j hj => ?_
  rw [stW_length] at hj
  unfold stW
  rw [setN_at _ _ _ _ _ hj, setN_at _ _ _ _ _ hj]
  by_cases q : a ≤ j ∧ j < min b k ∧ W.getD j 0 ≠ 2
  · rw [if_pos q, if_pos ⟨q.1, by omega, q.2.2⟩]
  · rw [if_neg q, if_neg (fun z => ?_)]
    by_cases e : j = k
    · subst e; exact c ⟨z.1, by omega, z.2.2⟩
    · exact q ⟨z.1, by omega, z.2.2⟩
theorem setN_atN (W : List Nat) (a b x k : Nat) (h : k < W.length) (c : ¬ (a ≤ k ∧ k < b ∧ W.getD k 0 ≠ 2)) : (setN W a b x).getD k 0 = W.getD k 0 := by rw [setN_at _ _ _ _ _ h, if_neg c]
theorem setN_atY (W : List Nat) (a b x k : Nat) (h : k < W.length) (c : a ≤ k ∧ k < b ∧ W.getD k 0 ≠ 2) : (setN W a b x).getD k 0 = x := by rw [setN_at _ _ _ _ _ h, if_pos c]
def allK (W : List Nat) (f : Bool) (k : Nat) : Bool := f && (List.range k).all fun i => W.getD i 0 == 2
theorem allK_next (W : List Nat) (f : Bool) (k : Nat) : allK W f (k + 1) = (allK W f k && (W.getD k 0 == 2)) := by
  unfold allK
  rw [List.range_succ, List.all_append]
  simp [Bool.and_assoc]
theorem allK_full (W : List Nat) (f : Bool) : allK W f W.length = (f && W.all (· == 2)) := by
  unfold allK
  congr 1
  rw [Bool.eq_iff_iff, List.all_eq_true, List.all_eq_true]
  constructor
  · intro h x hx
    obtain ⟨i, hi, rfl⟩ := List.getElem_of_mem hx
    have := h i (List.mem_range.2 hi)
    simpa [List.getD, hi] using this
  · intro h i hi
    have hi' := List.mem_range.1 hi
    have := h W[i] (List.getElem_mem _)
    simpa [List.getD, hi'] using this
theorem hv_set (W : List Nat) (k x : Nat) : hv (W.set k x) = (hv W).set k (.int .i64 (x : Int)) := by unfold hv; rw [List.map_set]
theorem QA.put {w : World} {D : Nat → Prop} {g base tb l tc k x : Nat} {B : List Int} {W : List Nat} {vd : Value} (hA : QA w D g base B W vd (.slice (some ⟨tb, 0, none⟩) l tc)) (hl : W.length = l) :
    QA (w.setCell ⟨tb, k, none⟩ (.int .i64 (x : Int))) D g base B (W.set k x) vd (.slice (some ⟨tb, 0, none⟩) l tc) := by
  refine ⟨?_, ?_, hA.dg, hA.dd, hA.dh, fun t ht => by rw [size_setC]; exact hA.lt t ht, hA.gb⟩
  · exact (Only.setCell (w := w) ⟨tb, k, none⟩ (.int .i64 (x : Int))).owns hA.od (fun t ht e => own_two (by decide) hA.od hA.oh t ht e)
  · have oh := hA.oh
    rw [hl] at oh
    rw [List.length_set, hv_set, hl]
    exact (oh.stored k _).1
end Go.Proofs.YthbggabgklnhgaaDoor

namespace Go.Proofs.YthbggabgklnhgaaDoor
open Go.RowKit
set_option linter.unusedVariables false
set_option linter.unusedSimpArgs false

theorem beqN2 (v : Nat) : ((v : Int) == 2) = (v == 2) := by
  by_cases h : v = 2
  · simp [h]
  · have h1 : ((v : Int) == 2) = false := by simp; omega
    have h2 : (v == 2) = false := by simpa using h
    rw [h1, h2]
end Go.Proofs.YthbggabgklnhgaaDoor

namespace Go.Proofs.YthbggabgklnhgaaDoor
open Go.RowKit
set_option linter.unusedVariables false
set_option linter.unusedSimpArgs false

theorem run_append_noT (w : World) (base : Nat) (t ty e : TypeId) (i : TypeInfo) (size c : Nat) (ht : Tryd.prog.underlying t = some (.slice e)) (hi : Tryd.prog.info? e = some i)
    (v : Value) (n : Nat) (xs : List Value) (hown : w.ownsRow base e size v n xs) :
    (Builtin.append_ #[t, t] ty #[v, .slice none 0 c]).run Tryd.prog w = .ok v w := by
  rcases hown.2 with ⟨rfl, rfl⟩ | ⟨g, cap, cur, rfl, _, _, hnc, _⟩
  · simp [Builtin.append_, run_underlying ht, sizeOf, typeInfo, hi, Builtin.lenOf, Builtin.firstCells]
  · simp [Builtin.append_, run_underlying ht, sizeOf, typeInfo, hi, Builtin.lenOf, Builtin.firstCells, hnc, storeCells]
/-- 'append(own, xs...)' of bytes that came in. -/
theorem wpList_append_rowT {w : World} {ops : Array Oper} {rest : List Oper} {o : Oper} {a : Act} {Q : Exit → Act → World → Prop} (hgd : o.guard = none) (p q : Operand)
    (ho : o.op = .call { callee := .builtin .append, args := #[p, q], argTypes := #[22, 22] })
    (base : Nat) (v : Value) (n : Nat) (ys : List Value) (hp : a.eval p = v) (hown : w.ownsRow base 5 1 v n ys) (av : Value) (X : List Int) (hq : a.eval q = av) (hrow : Row w .u8 av X) (h63 : n + X.length ≤ 1099511627776) (hbase : base ≤ w.heap.size)
    (h : ∀ v' w', w'.ownsRow base 5 1 v' (n + X.length) (ys ++ X.map (Value.int .u8)) → w.grownBy w' v.ownBlock → (v'.ownBlock = v.ownBlock ∨ v'.ownBlock = some w.heap.size) → wpList Tryd.prog ops Q rest (a.put o.dst v') w') :
    wpList Tryd.prog ops Q (o :: rest) a w := by
  obtain ⟨i0, hi, hz0, hz1, hz2⟩ := info_parts infoU8
  rcases hrow with ⟨rfl, ao, cap, rfl⟩ | ⟨b, off, cap, rfl, hlt, hcap, hc⟩
  · cases ao with
    | none =>
      refine wpList_plain hgd fun K hK => ?_
      have hrun := run_append_noT w base 22 o.type 5 i0 1 cap Tryd.underlying22 hi v n ys hown
      unfold Oper.wp
      simp [execOp, ho, resolve, invoke, builtin, hp, hq, hrun, Result.andThen]
      exact hK _ _ (h v w (by simpa using hown) ⟨rfl, rfl, rfl, Nat.le_refl _, fun _ _ _ => rfl⟩ (Or.inl rfl))
    | some ad =>
      refine wpList_append_own_at w hgd p q 22 ho base 5 i0 _ 1 1 Tryd.underlying22 hi hz0 hz1 hz2 rfl (by decide) v n ys hp hown ad 0 cap [] hq rfl (by simp) (by simp) (by unfold maxLen; omega) (by omega) hbase ?_
      intro v' w' o1 g1 _ at1
      exact h v' w' (by simpa using o1) g1 at1
  · refine wpList_append_own_at w hgd p q 22 ho base 5 i0 _ 1 1 Tryd.underlying22 hi hz0 hz1 hz2 rfl (by decide) v n ys hp hown ⟨b, off, none⟩ X.length cap (X.map (Value.int .u8)) hq (by simp) ?_ ?_ (by unfold maxLen; omega) (by omega) hbase ?_
    · intro j u hj
      rw [Go.WideShapes.add_plain]
      have hl : j < X.length := by have := (List.getElem?_eq_some_iff.1 hj).1; simpa using this
      rw [hc j hl, ← hj]
      simp [List.getD, hl]
    · intro u hu
      obtain ⟨x, _, rfl⟩ := List.mem_map.1 hu
      rfl
    · intro v' w' o1 g1 _ at1
      exact h v' w' o1 g1 at1
theorem infoIn : (Tryd.prog.info? 3).map (fun i => (i.zero, i.size, i.bytes)) = some (some (.int .i64 0), 1, 8) := by kernel_rfl
theorem QA.self {D : Nat → Prop} {w : World} {g base : Nat} {B : List Int} {W : List Nat} {vd vh : Value} (h : QA w D g base B W vd vh) : QA w (DU D w w) g base B W vd vh := by rw [DU.self]; exact h
end Go.Proofs.YthbggabgklnhgaaDoor

namespace Go.Proofs.YthbggabgklnhgaaDoor
open Go.RowKit
set_option linter.unusedVariables false
set_option linter.unusedSimpArgs false

end Go.Proofs.YthbggabgklnhgaaDoor

namespace Go.Proofs.YthbggabgklnhgaaDoor
open Go.RowKit
set_option linter.unusedVariables false

end Go.Proofs.YthbggabgklnhgaaDoor

namespace Go.Proofs.YthbggabgklnhgaaDoor
open Go.RowKit
set_option linter.unusedVariables false

theorem drews1 {w : World} : ∃ q, w.drew = w.drewN q := ⟨1, rfl⟩
theorem drews2 {w : World} : ∃ q, w.drew.drew = w.drewN q := ⟨2, rfl⟩
theorem drewsN {w : World} (n m : Nat) : ∃ q, (w.drewN n).drewN m = w.drewN q := ⟨n + m, by induction m with
  | zero => rfl
  | succ m ih => show ((w.drewN n).drewN m).drew = (w.drewN (n + m)).drew; rw [ih]⟩
end Go.Proofs.YthbggabgklnhgaaDoor

namespace Go.Proofs.YthbggabgklnhgaaDoor
open Go.RowKit
set_option linter.unusedVariables false

/-- What piece answers. -/
def pV : Option (Nat × Nat) → Value
  | none => .tuple #[.int .i64 0, .int .i64 0, .bool false]
  | some z => .tuple #[.int .i64 (z.1 : Int), .int .i64 (z.2 : Int), .bool true]
def spV (m : SS) (n : Nat) : Option (Nat × Nat) := if m.live = false then none else spiece m n
end Go.Proofs.YthbggabgklnhgaaDoor

namespace Go.Proofs.YthbggabgklnhgaaDoor
open Go.RowKit
set_option linter.unusedVariables false
set_option linter.unusedSimpArgs false

theorem infoSObs : (Tryd.prog.info? 33).map (·.size) = some 7 := by kernel_rfl
/-- An observation in its block. -/
abbrev so7 (off : Int) (vd : Value) (s f b : Bool) : Obj := .cells #[.int .i64 0, .int .i64 0, .int .i64 off, vd, .bool s, .bool f, .bool b] 33
theorem QA.belowQ {w w' : World} {D : Nat → Prop} {g base : Nat} {B : List Int} {W : List Nat} {vd vh : Value} (h : QA w D g base B W vd vh) (hb : Below w.heap.size w w') : QA w' D g base B W vd vh :=
  ⟨owns_below h.od hb, owns_below h.oh hb, h.dg, h.dd, h.dh, fun k hk => Nat.lt_of_lt_of_le (h.lt k hk) hb.size, h.gb⟩
theorem cell_offT {w : World} {o g i j : Nat} {u v : Value} (h : w.drew.cell? ⟨g, i, none⟩ = some v) (hne : ¬ (g = o)) : (w.setCell ⟨o, j, none⟩ u).drew.cell? ⟨g, i, none⟩ = some v :=
  (World.cell?_of_block (w := w) (a := ⟨g, i, none⟩) (bk_other hne j u)).trans h
end Go.Proofs.YthbggabgklnhgaaDoor
