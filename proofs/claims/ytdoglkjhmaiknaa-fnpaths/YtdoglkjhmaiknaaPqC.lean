import Derived.Test.YtdoglkjhmaiknaaVals
import Derived.Test.YtdoglkjhmaiknaaPqB
import Derived.Test.YtdoglkjhmaiknaaPqL
import Derived.Test.YtdoglkjhmaiknaaAppRow
import Derived.Laws.Append
import Derived.Lib.SlBytesConst
import Derived.Laws.AppendOwnNone
import Derived.Maps.AppendAt
import Derived.Deep.RegionLaw
import Derived.Lib.MinMax
import Derived.BigRegion
namespace Go.Proofs.Ytdoglkjhmaiknaa
open Go.RowKit
set_option linter.unusedVariables false

/-- What the laws draw of their second argument at the place i, from 0 to n - 1. -/
def atV (ys : List Int) (i : Nat) (n : Int) : Int :=
  if ys.length = 0 then (i : Int) * 7 % n else (ys.getD (i % ys.length) 0 * 31 + ys.getD ((i + 1) % ys.length) 0 + ((i / ys.length : Nat) : Int)) % n
theorem atV_bd (ys : List Int) (i : Nat) (n : Int) (hn : 2 ≤ n) : 0 ≤ atV ys i n ∧ atV ys i n < n := by
  unfold atV
  split
  · exact ⟨Int.emod_nonneg _ (by omega), Int.emod_lt_of_pos _ (by omega)⟩
  · exact ⟨Int.emod_nonneg _ (by omega), Int.emod_lt_of_pos _ (by omega)⟩

end Go.Proofs.Ytdoglkjhmaiknaa

namespace Go.Proofs.Ytdoglkjhmaiknaa
open Go.RowKit
set_option linter.unusedVariables false

theorem conv_anyP {P : Program} {w : World} {e ts tstr : Nat} {v : Value} {xs : List Int} (hs : P.underlying ts = some (.slice e)) (he : P.underlying e = some (.int .u8)) (hd : P.underlying tstr = some .string)
    (h : Row w .u8 v xs) : (convert ts tstr v).run P w = .ok (.string (strOfNums xs)) w := by
  by_cases h0 : 0 < xs.length
  · obtain ⟨b, off, cap, rfl, hb, hc⟩ := h.at h0
    exact run_convert_bytes_arg w ts e hs he b off xs.length cap xs rfl hc tstr hd
  · obtain rfl : xs = [] := List.eq_nil_of_length_eq_zero (by omega)
    obtain ⟨ao, cap, rfl⟩ := h.form
    cases ao with
    | none => exact run_convert_bytes_nil w ts e hs he 0 cap tstr hd
    | some p => simp [convert, run_underlying hs, run_underlying he, run_underlying hd, Conv.bytesToString, loadCells, loadCellsFrom, strOfNums]; rfl
theorem sameP (va vb : Value) (xs : List Int) (w : World) (ha : Row w .u8 va xs) (hb : Row w .u8 vb xs) :
    Calls Try.prog 7 #[va, vb] w fun e w' => e = .returned (.bool true) ∧ w' = w := by
  have c1 := conv_anyP (P := Try.prog) Try.underlying22 Try.underlying5 Try.underlying9 ha
  have c2 := conv_anyP (P := Try.prog) Try.underlying22 Try.underlying5 Try.underlying9 hb
  clear ha hb
  generalize strOfNums xs = s at c1 c2
  have ht : (s.toList == s.toList) = true := by simp
  go_enter Try.func7, Try.ntmps7
  go_wp2
  go_ret
  exact ⟨rfl, rfl⟩
/-- What at tells, whatever n from 1 on. -/
def atN (ys : List Int) (i n : Nat) : Nat := if n = 1 then 0 else (atV ys i (n : Int)).toNat
theorem atN_lt (ys : List Int) (i n : Nat) (hn : 1 ≤ n) : atN ys i n < n := by
  unfold atN
  split
  · omega
  · have hb := atV_bd ys i (n : Int) (by omega)
    omega
theorem infoI64 : (Try.prog.info? 3).map (fun i => (i.zero, i.size, i.bytes)) = some (some (.int .i64 0), 1, 8) := by kernel_rfl
/-- 'append(own, x)' of a number, a step of a region that draws. -/
theorem step_append_i {w : World} {ops : Array Oper} {o : Oper} {a : Act} {K : Act → World → Prop} {Q : Exit → Act → World → Prop} {E : Prop} (hgd : o.guard = none) (p q : Operand)
    (ho : o.op = .call { callee := .builtin .append, args := #[p, q], argTypes := #[29, 29] })
    (base : Nat) (v : Value) (L : List Int) (hp : a.eval p = v) (hown : w.ownsRow base 3 1 v L.length (L.map (Value.int .i64))) (g : Nat) (x : Int) (hq : a.eval q = .slice (some ⟨g, 0, none⟩) 1 1) (hx : w.cell? ⟨g, 0, none⟩ = some (.int .i64 x)) (h63 : L.length + 1 ≤ 1099511627776) (hbase : base ≤ w.heap.size)
    (h : ∀ v' w', w'.ownsRow base 3 1 v' (L.length + 1) ((L ++ [x]).map (Value.int .i64)) → w.grownBy w' v.ownBlock → K (a.put o.dst v') w') :
    if Region.wanted o (yielded ops a.tmps) = true then Oper.wp Try.prog o a w K Q else E := by
  have hw : Region.wanted o (yielded ops a.tmps) = true := by simp [Region.wanted, hgd]
  rw [if_pos hw]
  obtain ⟨i0, hi, hz0, hz1, hz2⟩ := info_parts infoI64
  obtain ⟨v', w', hr, h2, h3, _⟩ := run_append_own (P := Try.prog) w base 29 o.type 3 i0 _ 1 8 Try.underlying29 hi hz0 hz1 hz2 rfl (by decide) v L.length _ hown ⟨g, 0, none⟩ 1 1 [.int .i64 x] rfl (by
    intro j u hj
    match j, hj with
    | 0, hj => simp at hj; subst hj; rw [Go.WideShapes.add_plain]; exact hx) (by intro u hu; simp at hu; subst hu; rfl) (by unfold maxLen; omega) (by omega) hbase
  unfold Oper.wp
  simp [execOp, ho, resolve, invoke, builtin, hp, hq, hr, Result.andThen]
  exact h v' w' (by simpa using h2) h3
theorem ownsBlkP {w w' : World} {base e s n : Nat} {v : Value} {xs : List Value} (ho : w.ownsRow base e s v n xs) (hne : ∀ k, k < w.heap.size → v.ownBlock = some k → w'.heap[k]? = w.heap[k]?) : w'.ownsRow base e s v n xs := by
  obtain ⟨hl, h2⟩ := ho
  refine ⟨hl, ?_⟩
  rcases h2 with h2 | ⟨g', cap, cur, rfl, hg, hh, r⟩
  · exact Or.inl h2
  · exact Or.inr ⟨g', cap, cur, rfl, hg, (hne g' (Array.getElem?_eq_some_iff.1 hh).1 rfl).trans hh, r⟩
theorem constB (w : World) (C : Array Value) (n c : Nat) : (convert 22 22 (.slice (some ⟨w.heap.size, 0, none⟩) n c)).run Try.prog (w.alloc (.cells C 5)) = .ok (.slice (some ⟨w.heap.size, 0, none⟩) n c) (w.alloc (.cells C 5 (C.size, C.size + 1))) :=
  Lib.run_convert_bytes_const w 22 5 C n c Try.underlying22 Try.underlying5
theorem run_append_fullP {w : World} (ty : TypeId) (b off n : Nat) (xs : List Int) (en : xs.length = n) (hx : Row w .u8 (.slice (some ⟨b, off, none⟩) n n) xs)
    (v2 : Value) (ys : List Int) (hrow : Row w .u8 v2 ys) (h0 : 0 < ys.length) (h1 : 0 < n) (h63 : n + ys.length ≤ 1099511627776) :
    ∃ v' w', (Builtin.append_ #[22, 22] ty #[.slice (some ⟨b, off, none⟩) n n, v2]).run Try.prog w = .ok v' w' ∧ w'.ownsRow w.heap.size 5 1 v' (n + ys.length) ((xs ++ ys).map (Value.int .u8)) ∧ w.grownBy w' none := by
  obtain ⟨i, hi, hz, hsize, hby⟩ := info_parts infoBy
  obtain ⟨b2, off2, cap2, rfl, hb2, hc2⟩ := hrow.at h0
  obtain ⟨b1, off1, cap1, e1, hb1, hc1⟩ := hx.at (by omega)
  rw [en] at e1 hc1
  cases e1
  have rd : ∀ (zs : List Int) (bb oo : Nat), (∀ j, j < zs.length → w.cell? ⟨bb, oo + j, none⟩ = some (.int .u8 (zs.getD j 0))) → ∀ (j : Nat) (u : Value), (zs.map (Value.int .u8))[j]? = some u → w.cell? ((⟨bb, oo, none⟩ : Addr).add j) = some u := by
    intro zs bb oo hc j u hj
    have hj' : j < zs.length := by
      have := (List.getElem?_eq_some_iff.1 hj).1
      rwa [List.length_map] at this
    rw [Go.WideShapes.add_plain, hc j hj']
    rw [List.getElem?_map, List.getElem?_eq_getElem hj'] at hj
    simp only [Option.map_some, Option.some.injEq] at hj
    rw [← hj]
    simp [List.getD, hj']
  have hr := run_append_grow (P := Try.prog) w 22 ty 5 i (.int .u8 0) Try.underlying22 hi hz ⟨b, off, none⟩ n n (xs.map (Value.int .u8)) (by rw [hsize]; simp [en]) (rd xs b off (by rw [en]; exact hc1)) ⟨b2, off2, none⟩ ys.length cap2 (ys.map (Value.int .u8)) (by rw [hsize]; simp) (rd ys b2 off2 hc2) (by omega) (by omega) (growslice_fits (by omega) (by rw [hby]; omega))
  have hge := grownCap_ge w (n + ys.length) n 5
  have hcm : grownCap w (n + ys.length) n 5 ≤ maxLen := grownCap_le_maxLen w (n + ys.length) n 5 (by unfold maxLen; omega)
  refine ⟨_, _, hr, ⟨by simp [en], .inr ⟨w.heap.size, _, _, rfl, Nat.le_refl _, heap_alloc_new w.drew _, hge, hcm, ?_, ?_⟩⟩, ⟨rfl, rfl, rfl, by simp, fun k hk _ => Below.heap_alloc w.drew _ k hk⟩⟩
  · simp only [Array.size_append, List.size_toArray, size_zeroCells, List.length_map, en]
    show n + ys.length + (grownCap w (n + ys.length) n 5 - (n + ys.length)) * 1 = _
    omega
  · simp only [Array.toList_append, List.append_assoc]
    rw [← List.append_assoc, ← List.map_append]
    have e : (n + ys.length) * 1 = ((xs ++ ys).map (Value.int .u8)).length := by simp [en]
    rw [e]
    exact List.take_left
/-- 'append([]byte("text"), row...)'. -/
theorem wpList_append_txt {w : World} {ops : Array Oper} {rest : List Oper} {o : Oper} {a : Act} {Q : Exit → Act → World → Prop} (hgd : o.guard = none) (p q : Operand)
    (ho : o.op = .call { callee := .builtin .append, args := #[p, q], argTypes := #[22, 22] })
    (b n : Nat) (xs : List Int) (en : xs.length = n) (hp : a.eval p = .slice (some ⟨b, 0, none⟩) n n) (hx : Row w .u8 (.slice (some ⟨b, 0, none⟩) n n) xs)
    (v2 : Value) (ys : List Int) (hq : a.eval q = v2) (hrow : Row w .u8 v2 ys) (h1 : 0 < n) (h63 : n + ys.length ≤ 1099511627776)
    (h : ∀ v' w', Row w' .u8 v' (xs ++ ys) → Below w.heap.size w w' → wpList Try.prog ops Q rest (a.put o.dst v') w') :
    wpList Try.prog ops Q (o :: rest) a w := by
  by_cases h0 : 0 < ys.length
  · obtain ⟨v', w', hr, h2, h3⟩ := run_append_fullP o.type b 0 n xs en hx v2 ys hrow h0 h1 h63
    refine wpList_plain hgd fun K hK => ?_
    unfold Oper.wp
    simp [execOp, ho, resolve, invoke, builtin, hp, hq, hr, Result.andThen]
    refine hK _ _ (h v' w' ?_ ((Below.refl _ _).grown h3 (Nat.le_refl _) (by intro k hk; cases hk)))
    have h2' : w'.ownsRow w.heap.size 5 1 v' (n + ys.length) ((xs ++ ys).map (Value.int .u8)) := h2
    exact row_of_owns h2'
  · have hn : ys = [] := List.eq_nil_of_length_eq_zero (by omega)
    subst hn
    obtain ⟨ao, cap, rfl⟩ := hrow.form
    obtain ⟨i, hi, hz, hsize, hby⟩ := info_parts infoBy
    have hrun : (Builtin.append_ #[22, 22] o.type #[.slice (some ⟨b, 0, none⟩) n n, .slice ao 0 cap]).run Try.prog w = .ok (.slice (some ⟨b, 0, none⟩) n n) w := by
      cases ao <;> simp [Builtin.append_, run_underlying Try.underlying22, sizeOf, typeInfo, hi, Builtin.lenOf, Builtin.firstCells, storeCells, loadCells, loadCellsFrom]
    refine wpList_plain hgd fun K hK => ?_
    unfold Oper.wp
    simp only [List.length_nil] at hq
    simp [execOp, ho, resolve, invoke, builtin, hp, hq, hrun, Result.andThen]
    exact hK _ _ (h _ _ (by simpa using hx) (Below.refl _ _))
theorem txt_row (w : World) : Row (w.alloc (.cells #[.int .u8 116, .int .u8 101, .int .u8 120, .int .u8 116] 5 (4, 5))) .u8 (.slice (some ⟨w.heap.size, 0, none⟩) 4 4) [116, 101, 120, 116] := by
  refine Or.inr ⟨w.heap.size, 0, 4, rfl, by simp, ⟨Nat.le_refl _, by unfold maxLen; decide⟩, fun j hj => ?_⟩
  have hh := heap_alloc_new w (.cells #[.int .u8 116, .int .u8 101, .int .u8 120, .int .u8 116] 5 (4, 5))
  rw [Nat.zero_add]
  rw [blkS_cell hh]
  rcases (show j = 0 ∨ j = 1 ∨ j = 2 ∨ j = 3 by simp at hj; omega) with rfl | rfl | rfl | rfl <;> rfl
theorem own_formP {w : World} {base n : Nat} {v : Value} {xs : List Int} {T : TypeId} {k : IntKind} (h : w.ownsRow base T 1 v n (xs.map (Value.int k))) (hn : 0 < n) : ∃ g cap, v = .slice (some ⟨g, 0, none⟩) n cap ∧ g < w.heap.size ∧ base ≤ g ∧ n ≤ cap ∧ cap ≤ maxLen ∧ ∀ j, j < n → w.cell? ⟨g, j, none⟩ = some (.int k (xs.getD j 0)) := by
  have hl : xs.length = n := by have := h.1; simpa using this
  rcases h.2 with ⟨rfl, e⟩ | ⟨g, cap, cur, rfl, hg, hh, hnc, hcm, _⟩
  · omega
  · refine ⟨g, cap, rfl, (Array.getElem?_eq_some_iff.1 hh).1, hg, hnc, hcm, fun j hj => ?_⟩
    rw [h.cellAt j (by omega)]
    simp [List.getD, show j < xs.length by omega]
theorem row_cutP {w : World} {b off N ct : Nat} {X : List Int} (h : Row w .u8 (.slice (some ⟨b, off, none⟩) N ct) X) (hX : X.length = N) (p k : Nat) (hk : p + k ≤ N) : Row w .u8 (.slice (some ⟨b, off + p, none⟩) k (ct - p)) ((X.drop p).take k) := by
  rcases h with ⟨rfl, ao', cap', e⟩ | ⟨b', off', cap, e, hb, hc, hx⟩
  · simp at hX
    subst hX
    obtain rfl : k = 0 := by omega
    exact Or.inl ⟨by simp, _, _, rfl⟩
  · cases e
    refine Or.inr ⟨b, off + p, ct - p, by simp; omega, hb, ⟨by simp; omega, by omega⟩, fun j hj => ?_⟩
    have hj' : j < k := by simp at hj; omega
    have := hx (p + j) (by omega)
    rw [Nat.add_assoc, this]
    simp only [List.getD]
    rw [List.getElem?_take_of_lt hj', List.getElem?_drop]
theorem lit1P (w : World) (x : Value) (t : TypeId) : (w.alloc (.cells #[x] t)).cell? ⟨w.heap.size, 0, none⟩ = some x := bk_cell (heap_alloc_new w _) 0
end Go.Proofs.Ytdoglkjhmaiknaa

namespace Go.Proofs.Ytdoglkjhmaiknaa
open Go.RowKit
set_option linter.unusedVariables false

theorem infoBo : (Try.prog.info? 4).map (fun i => (i.zero, i.size, i.bytes)) = some (some (.bool false), 1, 1) := by kernel_rfl
theorem infoU8 : (Try.prog.info? 5).map (fun i => (i.zero, i.size, i.bytes)) = some (some (.int .u8 0), 1, 1) := by kernel_rfl
/-- 'append(own, x)' of elements of one cell. -/
theorem wpList_append_one {w : World} {ops : Array Oper} {rest : List Oper} {o : Oper} {a : Act} {Q : Exit → Act → World → Prop} (hgd : o.guard = none) (p q : Operand) (tS T : TypeId) (z : Value) (bs : Nat) (hzc : z.cells.size = 1) (hbs : bs ≤ 8)
    (ho : o.op = .call { callee := .builtin .append, args := #[p, q], argTypes := #[tS, tS] }) (ht : Try.prog.underlying tS = some (.slice T)) (hinfo : (Try.prog.info? T).map (fun i => (i.zero, i.size, i.bytes)) = some (some z, 1, bs))
    (base : Nat) (v : Value) (n : Nat) (ys : List Value) (hp : a.eval p = v) (hown : w.ownsRow base T 1 v n ys) (g : Nat) (x : Value) (hx1 : x.oneCell' = true) (hq : a.eval q = .slice (some ⟨g, 0, none⟩) 1 1) (hx : w.cell? ⟨g, 0, none⟩ = some x) (h63 : n + 1 ≤ 1099511627776) (hbase : base ≤ w.heap.size)
    (h : ∀ v' w', w'.ownsRow base T 1 v' (n + 1) (ys ++ [x]) → w.grownBy w' v.ownBlock → (v'.ownBlock = v.ownBlock ∨ v'.ownBlock = some w.heap.size) → wpList Try.prog ops Q rest (a.put o.dst v') w') :
    wpList Try.prog ops Q (o :: rest) a w := by
  obtain ⟨i0, hi, hz0, hz1, hz2⟩ := info_parts hinfo
  refine wpList_append_own_at w hgd p q tS ho base T i0 z 1 bs ht hi hz0 hz1 hz2 hzc (by decide) v n ys hp hown ⟨g, 0, none⟩ 1 1 [x] hq rfl ?_ ?_ (by unfold maxLen; omega) ?_ hbase ?_
  · intro j u hj
    match j, hj with
    | 0, hj => simp at hj; subst hj; rw [Go.WideShapes.add_plain]; exact hx
  · intro u hu; simp at hu; subst hu; exact hx1
  · have := Nat.mul_le_mul (show n + 1 ≤ 1099511627776 from h63) hbs; omega
  · intro v' w' ho' hg _ hat
    exact h v' w' ho' hg hat
/-- The rows of the places, and which blocks are the part's own. -/
structure MA (w : World) (D : Nat → Prop) (g base : Nat) (T : PL) (vd vt : Value) : Prop where
  od : w.ownsRow base 5 1 vd T.length (T.map fun x => .int .u8 x.2)
  ot : w.ownsRow base 4 1 vt T.length (T.map fun x => .bool x.1)
  dg : D g
  dd : ∀ k, vd.ownBlock = some k → D k
  dt : ∀ k, vt.ownBlock = some k → D k
  lt : ∀ k, D k → k < w.heap.size
  gb : base ≤ g
def DU (D : Nat → Prop) (w wr : World) : Nat → Prop := fun k => D k ∨ (w.heap.size ≤ k ∧ k < wr.heap.size)
theorem row_bool {w : World} {base n : Nat} {vt : Value} {T : PL} (h : w.ownsRow base 4 1 vt n (T.map fun x => .bool x.1)) (hn : n = T.length) (p : Nat) (hp : p < n) : ∃ b cap, vt = .slice (some ⟨b, 0, none⟩) n cap ∧ w.cell? ⟨b, p, none⟩ = some (.bool (PL.g T p).1) ∧ w.frozen? ⟨b, p, none⟩ = false := by
  obtain ⟨b, cap, rfl, _, _⟩ := owns_shape h (by omega)
  refine ⟨b, cap, rfl, ?_, h.frozenAt p⟩
  rw [h.cellAt p (by omega), List.getElem?_map, List.getElem?_eq_getElem (by omega)]
  simp [PL.g, List.getD, show p < T.length by omega]
theorem row_byte {w : World} {base n : Nat} {vd : Value} {T : PL} (h : w.ownsRow base 5 1 vd n (T.map fun x => .int .u8 x.2)) (hn : n = T.length) (p : Nat) (hp : p < n) : ∃ b cap, vd = .slice (some ⟨b, 0, none⟩) n cap ∧ w.cell? ⟨b, p, none⟩ = some (.int .u8 (PL.g T p).2) ∧ w.frozen? ⟨b, p, none⟩ = false := by
  obtain ⟨b, cap, rfl, _, _⟩ := owns_shape h (by omega)
  refine ⟨b, cap, rfl, ?_, h.frozenAt p⟩
  rw [h.cellAt p (by omega), List.getElem?_map, List.getElem?_eq_getElem (by omega)]
  simp [PL.g, List.getD, show p < T.length by omega]
end Go.Proofs.Ytdoglkjhmaiknaa

namespace Go.Proofs.Ytdoglkjhmaiknaa
open Go.RowKit
set_option linter.unusedVariables false

theorem Chg.mono' {S S' : Nat → Prop} {w w' : World} (h : Chg S w w') (hs : ∀ k, k < w.heap.size → S k → S' k) : Chg S' w w' := ⟨h.os, h.tape, h.output, h.size, fun k hk hn => h.block k hk (fun e => hn (hs k hk e))⟩
theorem MA.shape {w : World} {D : Nat → Prop} {g base : Nat} {T : PL} {vd vt : Value} (h : MA w D g base T vd vt) : (∃ da dc, vd = .slice da T.length dc) ∧ ∃ ta tc, vt = .slice ta T.length tc := by
  constructor
  · rcases h.od.2 with ⟨rfl, h1⟩ | ⟨g', cap, cur, rfl, _⟩
    · exact ⟨none, 0, by rw [h1]⟩
    · exact ⟨_, _, rfl⟩
  · rcases h.ot.2 with ⟨rfl, h1⟩ | ⟨g', cap, cur, rfl, _⟩
    · exact ⟨none, 0, by rw [h1]⟩
    · exact ⟨_, _, rfl⟩
theorem grown_chg {w w' : World} {o : Option Nat} (h : w.grownBy w' o) : Chg (fun k => some k = o) w w' := ⟨h.os, h.tape, h.output, h.size, fun k hk hn => h.block k hk hn⟩
theorem pad_one (T : PL) (j : Nat) (h : T.length ≤ j) : pad T (j + 1) = pad T j ++ [(false, 0)] := by
  unfold pad
  rw [show j + 1 - T.length = (j - T.length) + 1 by omega, List.replicate_succ', ← List.append_assoc]
theorem own_gt {w : World} {base e n s : Nat} {v : Value} {xs : List Value} (h : w.ownsRow base e s v n xs) {g : Nat} {c : Array Value} {t : TypeId} {fr : Nat × Nat} (hg : w.heap[g]? = some (.cells c t fr)) (hT : t ≠ e) (k : Nat) (hk : v.ownBlock = some k) : k ≠ g := by
  intro e'
  subst e'
  obtain ⟨c1, e1⟩ := owns_typeB h k hk
  rw [e1] at hg
  have := Option.some.inj hg
  injection this with _ ht
  exact hT ht.symm
theorem own_two {w : World} {b1 b2 n1 n2 e1 e2 s1 s2 : Nat} {v1 v2 : Value} {x1 x2 : List Value} (hT : e1 ≠ e2) (h1 : w.ownsRow b1 e1 s1 v1 n1 x1) (h2 : w.ownsRow b2 e2 s2 v2 n2 x2) (k : Nat) (hk : v1.ownBlock = some k) : some k ≠ v2.ownBlock := by
  intro e
  obtain ⟨c1, f1⟩ := owns_typeB h1 k hk
  obtain ⟨c2, f2⟩ := owns_typeB h2 k e.symm
  rw [f1] at f2
  have := Option.some.inj f2
  injection this with _ ht
  exact hT ht
theorem ownsChg {S : Nat → Prop} {w w' : World} {base e s n : Nat} {v : Value} {xs : List Value} (h : Chg S w w') (ho : w.ownsRow base e s v n xs) (hne : ∀ k, v.ownBlock = some k → ¬ S k) : w'.ownsRow base e s v n xs := by
  obtain ⟨hl, h2⟩ := ho
  refine ⟨hl, ?_⟩
  rcases h2 with h2 | ⟨g', cap, cur, rfl, hg, hh, r⟩
  · exact Or.inl h2
  · exact Or.inr ⟨g', cap, cur, rfl, hg, (h.block g' (Array.getElem?_eq_some_iff.1 hh).1 (hne g' rfl)).trans hh, r⟩
end Go.Proofs.Ytdoglkjhmaiknaa

namespace Go.Proofs.Ytdoglkjhmaiknaa
open Go.RowKit
set_option linter.unusedVariables false

end Go.Proofs.Ytdoglkjhmaiknaa

namespace Go.Proofs.Ytdoglkjhmaiknaa
open Go.RowKit
set_option linter.unusedVariables false
set_option linter.unusedSimpArgs false

theorem lit1 (w : World) (t : TypeId) (x : Value) : (w.alloc (.cells #[x] t)).cell? ⟨w.heap.size, 0, none⟩ = some x := bk_cell (heap_alloc_new w _) 0
theorem size_setC (w : World) (a : Addr) (v : Value) : (w.setCell a v).heap.size = w.heap.size := by simp [World.setCell]
theorem lit1s (w : World) (a : Addr) (v : Value) (t : TypeId) (x : Value) : ((w.setCell a v).alloc (.cells #[x] t)).cell? ⟨w.heap.size, 0, none⟩ = some x := by
  have h := lit1 (w.setCell a v) t x
  rw [size_setC] at h; exact h
theorem own_form {w : World} {base e s n : Nat} {v : Value} {xs : List Value} (h : w.ownsRow base e s v n xs) : ∃ a c, v = .slice a n c := by
  rcases h.2 with ⟨rfl, h1⟩ | ⟨g', cap, cur, rfl, _⟩
  · exact ⟨none, 0, by rw [h1]⟩
  · exact ⟨_, _, rfl⟩
theorem drewOwns {w : World} {base e s n : Nat} {v : Value} {xs : List Value} (h : w.ownsRow base e s v n xs) : w.drew.ownsRow base e s v n xs := h
theorem MA.put {w : World} {D : Nat → Prop} {g base j dc tc tb db p : Nat} {TT : PL} {xv : Int} (hA : MA w D g base TT (.slice (some ⟨db, 0, none⟩) j dc) (.slice (some ⟨tb, 0, none⟩) j tc)) (ntd : tb ≠ db) (hl : TT.length = j) :
    MA ((w.setCell ⟨tb, p, none⟩ (.bool true)).setCell ⟨db, p, none⟩ (.int .u8 xv)).drew D g base (TT.set p (true, xv)) (.slice (some ⟨db, 0, none⟩) j dc) (.slice (some ⟨tb, 0, none⟩) j tc) := by
  have e1 : (TT.set p (true, xv)).map (fun x => Value.int .u8 x.2) = (TT.map (fun x => Value.int .u8 x.2)).set p (.int .u8 xv) := by rw [List.map_set]
  have e2 : (TT.set p (true, xv)).map (fun x => Value.bool x.1) = (TT.map (fun x => Value.bool x.1)).set p (.bool true) := by rw [List.map_set]
  have od := hA.od
  have ot := hA.ot
  rw [hl] at od ot
  refine ⟨?_, ?_, hA.dg, hA.dd, hA.dt, fun k hk => ?_, hA.gb⟩
  · rw [List.length_set, e1, hl]
    exact drewOwns ((((Only.setCell (w := w) ⟨tb, p, none⟩ (.bool true)).owns od (fun k hk e => ntd (by simp [Value.ownBlock] at hk; have := Option.some.inj e; simp at this; omega))).stored p _).1)
  · rw [List.length_set, e2, hl]
    exact drewOwns ((Only.setCell (w := w.setCell ⟨tb, p, none⟩ (.bool true)) ⟨db, p, none⟩ (.int .u8 xv)).owns ((ot.stored p _).1) (fun k hk e => ntd (by simp [Value.ownBlock] at hk; have := Option.some.inj e; simp at this; omega)))
  · have := hA.lt k hk
    show k < _
    rw [show (((w.setCell ⟨tb, p, none⟩ (.bool true)).setCell ⟨db, p, none⟩ (.int .u8 xv)).drew).heap.size = w.heap.size by simp [World.setCell, World.drew]]
    exact this
theorem MA.setG {w : World} {D : Nat → Prop} {g base : Nat} {T : PL} {vd vt : Value} (hA : MA w D g base T vd vt) (n1 : ∀ k, vt.ownBlock = some k → k ≠ g) (n2 : ∀ k, vd.ownBlock = some k → k ≠ g) (i : Nat) (u : Value) : MA (w.setCell ⟨g, i, none⟩ u) D g base T vd vt :=
  ⟨(Only.setCell (w := w) ⟨g, i, none⟩ u).owns hA.od (fun k hk e => n2 k hk (Option.some.inj e)), (Only.setCell (w := w) ⟨g, i, none⟩ u).owns hA.ot (fun k hk e => n1 k hk (Option.some.inj e)), hA.dg, hA.dd, hA.dt, fun k hk => by rw [size_setC]; exact hA.lt k hk, hA.gb⟩
theorem MA.drewM {w : World} {D : Nat → Prop} {g base : Nat} {T : PL} {vd vt : Value} (hA : MA w D g base T vd vt) (n : Nat) : MA (w.drewN n) D g base T vd vt := ⟨hA.od, hA.ot, hA.dg, hA.dd, hA.dt, hA.lt, hA.gb⟩
theorem MA.wide {w : World} {D D' : Nat → Prop} {g base : Nat} {T : PL} {vd vt : Value} (hA : MA w D g base T vd vt) (h1 : ∀ k, D k → D' k) (h2 : ∀ k, D' k → k < w.heap.size) : MA w D' g base T vd vt := ⟨hA.od, hA.ot, h1 _ hA.dg, fun k hk => h1 k (hA.dd k hk), fun k hk => h1 k (hA.dt k hk), h2, hA.gb⟩
theorem Chg.trDU {D : Nat → Prop} {w we wr : World} (h1 : Chg D w we) (h2 : Chg (DU D w we) we wr) : Chg D w wr :=
  ⟨h2.os.trans h1.os, h2.tape.trans h1.tape, h2.output.trans h1.output, Nat.le_trans h1.size h2.size, fun k hk hn => (h2.block k (Nat.lt_of_lt_of_le hk h1.size) (fun e => e.elim hn (fun x => by omega))).trans (h1.block k hk hn)⟩
theorem Chg.setD {D : Nat → Prop} {w wr : World} (h : Chg D w wr) (g i : Nat) (u : Value) (hg : D g ∨ w.heap.size ≤ g) : Chg D w (wr.setCell ⟨g, i, none⟩ u) :=
  ⟨h.os, h.tape, h.output, by rw [size_setC]; exact h.size, fun k hk hn => (bk_other (k := k) (g := g) (fun e => hg.elim (fun x => hn (by rw [e]; exact x)) (fun x => by omega)) i u).trans (h.block k hk hn)⟩
theorem Chg.drewD {D : Nat → Prop} {w wr : World} (h : Chg D w wr) (n : Nat) : Chg D w (wr.drewN n) := ⟨h.os, h.tape, h.output, h.size, h.block⟩
theorem Chg.drewD1 {D : Nat → Prop} {w wr : World} (h : Chg D w wr) : Chg D w wr.drew := ⟨h.os, h.tape, h.output, h.size, h.block⟩
theorem pad_self (T : PL) (j : Nat) (h : j ≤ T.length) : pad T j = T := by unfold pad; rw [show j - T.length = 0 by omega]; simp
theorem alloc_chg {S : Nat → Prop} (w : World) (o : Obj) : Chg S w (w.alloc o) := Chg.of_below ((Below.refl _ _).alloc (Nat.le_refl _) o)
theorem alloc_owns {w : World} {base e s n : Nat} {v : Value} {xs : List Value} (h : w.ownsRow base e s v n xs) (o : Obj) : (w.alloc o).ownsRow base e s v n xs := owns_below h ((Below.refl _ _).alloc (Nat.le_refl _) o)
end Go.Proofs.Ytdoglkjhmaiknaa
