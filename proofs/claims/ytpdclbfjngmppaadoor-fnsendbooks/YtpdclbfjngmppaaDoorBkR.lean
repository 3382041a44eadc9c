import Derived.Test.YtpdclbfjngmppaaDoorBkB
import Derived.Test.YtpdclbfjngmppaaDoorMem
import Derived.Lib.AppendZerosOnto
import Derived.Maps.AppendAt
import Derived.Test.YtpdclbfjngmppaaDoorBkC
import Derived.Deep.LoopGhost
import Derived.Deep.RegionHeld3
import Derived.BigQuiet
import Derived.Test.YtpdclbfjngmppaaDoorBkQ
import Derived.Test.YtpdclbfjngmppaaDoorStoreE
import Derived.Deep.CutBlock
namespace Go.Proofs.YtpdclbfjngmppaaDoor
open Go.RowKit
set_option linter.unusedVariables false
set_option linter.unusedSimpArgs false

/-- How many of a kind there are when one is put. -/
theorem count_set : ∀ (L : List Nat) (i x y : Nat), i < L.length → (((L.set i x).count y : Nat) : Int) = ((L.count y : Nat) : Int) - (if L.getD i 0 = y then 1 else 0) + (if x = y then 1 else 0)
  | [], i, x, y, h => by simp at h
  | a :: r, 0, x, y, h => by
    simp only [List.set_cons_zero, List.count_cons, List.getD_cons_zero, beq_iff_eq]
    by_cases h1 : a = y <;> by_cases h2 : x = y <;> simp [h1, h2]
  | a :: r, i + 1, x, y, h => by
    have := count_set r i x y (by simpa using h)
    simp only [List.set_cons_succ, List.count_cons, List.getD_cons_succ, beq_iff_eq]
    by_cases h1 : a = y
    · rw [if_pos h1]; omega
    · rw [if_neg h1]; omega
theorem count_le (L : List Nat) (y : Nat) : L.count y ≤ L.length := List.count_le_length
theorem count_pos (L : List Nat) (i : Nat) (h : i < L.length) : 1 ≤ L.count (L.getD i 0) := by
  have : L.getD i 0 ∈ L := by simp [List.getD, h]
  exact List.count_pos_iff.2 this
/-- Lost ones there are just if the first lies within. -/
theorem cnt3 (W : List Nat) : 0 < W.count 3 ↔ fst3 W < W.length := by
  rw [List.count_pos_iff]
  constructor
  · intro h
    exact Classical.byContradiction fun q => by
      obtain ⟨i, hi, e⟩ := List.getElem_of_mem h
      have := fst3_none W q i
      simp [List.getD, hi, e] at this
  · intro h
    have := fst3_lost W h
    rw [← this]
    simp [List.getD, h]
/-- All are acknowledged just if as many are as there are. -/
theorem cnt2 : ∀ (W : List Nat), W.count 2 = W.length ↔ W.all (· == 2) = true
  | [] => by simp
  | a :: r => by
    have h := cnt2 r
    have hl := List.count_le_length (a := 2) (l := r)
    simp only [List.count_cons, List.length_cons, List.all_cons, Bool.and_eq_true, beq_iff_eq]
    by_cases h1 : a = 2
    · rw [if_pos h1]
      constructor
      · intro e; exact ⟨h1, h.1 (by omega)⟩
      · intro e; have := h.2 e.2; omega
    · rw [if_neg h1]
      constructor
      · intro e; omega
      · intro e; exact absurd e.1 h1
/-- A Fin that was on its way, was Sent. -/
def SI2 (m : SS) : Prop := m.fin ≠ 0 → 2 ≤ m.st
theorem sstep_SI2 {m : SS} (I : SI m) (h : SI2 m) (o : SSendOp) : SI2 (sstep m o).1 := by
  unfold sstep
  by_cases c1 : o.f0 = 1
  · rw [if_pos c1]
    show SI2 (swrite m o.f3).1
    unfold swrite
    split
    · exact h
    · split
      · exact h
      · exact h
  rw [if_neg c1]
  by_cases c2 : o.f0 = 2
  · rw [if_pos c2]
    show SI2 (sfinish m).1
    unfold sfinish
    split
    · exact h
    · exact h
  rw [if_neg c2]
  by_cases c3 : o.f0 = 3
  · rw [if_pos c3]
    show SI2 (scredit m o.f2).1
    unfold scredit
    split
    · exact h
    · exact h
  rw [if_neg c3]
  by_cases c4 : o.f0 = 4
  · rw [if_pos c4]
    by_cases d : o.f2 < 1 ∨ 1500 < o.f2
    · rw [if_pos d]; exact h
    · rw [if_neg d]
      show SI2 (spull m o.f2.toNat).1
      unfold spull
      by_cases c : m.live = false
      · rw [if_pos c]; exact h
      rw [if_neg c]
      cases e : spiece m o.f2.toNat with
      | none => exact h
      | some ab =>
        obtain ⟨a, b⟩ := ab
        intro q
        simp only [] at q ⊢
        by_cases f : (m.finish && decide (b = m.B.length) && decide (m.fin ≠ 2)) = true
        · rw [if_pos f]; exact Nat.le_refl _
        · rw [if_neg f] at q ⊢
          have := h q
          rw [if_neg (by omega)]; exact this
  rw [if_neg c4]
  have he : ∀ how, SI2 (shear m o.f1 o.f2 o.f4 how).1 := by
    intro how
    unfold shear
    by_cases c : o.f1 < 0 ∨ o.f2 < 0 ∨ (m.next : Int) - o.f2 < o.f1 ∨ (o.f4 = true ∧ (m.fin = 0 ∨ o.f1 + o.f2 ≠ m.B.length))
    · rw [if_pos c]; exact h
    rw [if_neg c]
    by_cases d : m.live = false
    · rw [if_pos d]; exact h
    rw [if_neg d]
    intro q
    simp only [] at q ⊢
    have h0 : m.fin ≠ 0 := by
      by_cases f : o.f4 = true ∧ m.fin ≠ 2
      · exact fun z => c (Or.inr (Or.inr (Or.inr ⟨f.1, Or.inl z⟩)))
      · rw [if_neg f] at q; exact q
    have := h h0
    generalize (if o.f4 = true ∧ m.fin ≠ 2 then how else m.fin) = f2
    split <;> omega
  by_cases c5 : o.f0 = 5
  · rw [if_pos c5]; exact he 2
  rw [if_neg c5]
  by_cases c6 : o.f0 = 6
  · rw [if_pos c6]; exact he 3
  rw [if_neg c6]
  by_cases c7 : o.f0 = 7
  · rw [if_pos c7]
    by_cases d : m.live = true
    · rw [if_pos d]; intro q; show 2 ≤ 4; omega
    · rw [if_neg d]; exact h
  rw [if_neg c7]
  by_cases c8 : o.f0 = 8
  · rw [if_pos c8]
    by_cases d : m.st = 4
    · rw [if_pos d]; intro q; show 2 ≤ 5; omega
    · rw [if_neg d]; exact h
  rw [if_neg c8]; exact h
theorem srun_SI2 (ops : List SSendOp) : ∀ i, SI2 (srun ops i).1
  | 0 => fun h => absurd rfl h
  | i + 1 => sstep_SI2 (srun_SI ops i) (srun_SI2 ops i) _
/-- The credit is a number of the machine's. -/
theorem sstep_cr {m : SS} (o : SSendOp) (h : m.credit ≤ 9223372036854775807) (ho : o.f2 ≤ 9223372036854775807) : (sstep m o).1.credit ≤ 9223372036854775807 := by
  unfold sstep
  by_cases c1 : o.f0 = 1
  · rw [if_pos c1]
    show (swrite m o.f3).1.credit ≤ _
    unfold swrite
    split
    · exact h
    · split
      · exact h
      · exact h
  rw [if_neg c1]
  by_cases c2 : o.f0 = 2
  · rw [if_pos c2]
    show (sfinish m).1.credit ≤ _
    unfold sfinish
    split
    · exact h
    · exact h
  rw [if_neg c2]
  by_cases c3 : o.f0 = 3
  · rw [if_pos c3]
    show (scredit m o.f2).1.credit ≤ _
    unfold scredit
    split
    · exact h
    · show max m.credit o.f2 ≤ _; omega
  rw [if_neg c3]
  by_cases c4 : o.f0 = 4
  · rw [if_pos c4]
    by_cases d : o.f2 < 1 ∨ 1500 < o.f2
    · rw [if_pos d]; exact h
    · rw [if_neg d]
      show (spull m o.f2.toNat).1.credit ≤ _
      unfold spull
      by_cases c : m.live = false
      · rw [if_pos c]; exact h
      rw [if_neg c]
      cases e : spiece m o.f2.toNat with
      | none => exact h
      | some ab => exact h
  rw [if_neg c4]
  have he : ∀ how, (shear m o.f1 o.f2 o.f4 how).1.credit ≤ 9223372036854775807 := by
    intro how
    unfold shear
    split
    · exact h
    · split
      · exact h
      · exact h
  by_cases c5 : o.f0 = 5
  · rw [if_pos c5]; exact he 2
  rw [if_neg c5]
  by_cases c6 : o.f0 = 6
  · rw [if_pos c6]; exact he 3
  rw [if_neg c6]
  by_cases c7 : o.f0 = 7
  · rw [if_pos c7]
    by_cases d : m.live = true
    · rw [if_pos d]; exact h
    · rw [if_neg d]; exact h
  rw [if_neg c7]
  by_cases c8 : o.f0 = 8
  · rw [if_pos c8]
    by_cases d : m.st = 4
    · rw [if_pos d]; exact h
    · rw [if_neg d]; exact h
  rw [if_neg c8]; exact h
theorem srun_cr (ops : List SSendOp) (ho : ∀ j, j < ops.length → (ops.getD j default).f2 ≤ 9223372036854775807) : ∀ i, i ≤ ops.length → (srun ops i).1.credit ≤ 9223372036854775807
  | 0, _ => by show (0 : Int) ≤ _; omega
  | i + 1, h => sstep_cr _ (srun_cr ops ho i (by omega)) (ho i (by omega))
theorem srun_length (R : List SSendOp) : ∀ k, (srun R k).2.length = k
  | 0 => rfl
  | k + 1 => by simp [srun, srun_length R k]
theorem srun_at (R : List SSendOp) (j : Nat) : ∀ k, j < k → (srun R k).2.getD j default = (sstep (srun R j).1 (R.getD j default)).2
  | 0, h => by omega
  | k + 1, h => by
    have hl := srun_length R k
    show ((srun R k).2 ++ [_]).getD j default = _
    by_cases e : j = k
    · subst e
      rw [List.getD_eq_getElem?_getD, List.getElem?_append_right (by omega), hl]
      simp
    · rw [List.getD_eq_getElem?_getD, List.getElem?_append_left (by omega), ← List.getD_eq_getElem?_getD]
      exact srun_at R j k (by omega)
end Go.Proofs.YtpdclbfjngmppaaDoor

namespace Go.Proofs.YtpdclbfjngmppaaDoor
open Go.RowKit
set_option linter.unusedVariables false
set_option linter.unusedSimpArgs false

theorem zeroCells_one {z : Value} (hzc : z.cells = #[z]) (k : Nat) : Builtin.zeroCells z.cells k = (List.replicate k z).toArray := by
  rw [hzc]
  apply Array.ext
  · simp [Builtin.zeroCells]
  · intro j h1 h2
    simp [Builtin.zeroCells, Nat.mod_one]
/-- 'append(own, make([]T, k)...)': k zeros behind a row of one's own, of elements of one cell and one byte. -/
theorem run_append_zeros {P : Program} (w : World) (base : Nat) (t tn ty e : TypeId) (i : TypeInfo) (z : Value) (kq kn : IntKind) (ht : P.underlying t = some (.slice e)) (htn : P.underlying tn = some (.int kn)) (hi : P.info? e = some i) (hz : i.zero = some z)
    (hs : i.size = 1) (hby : i.bytes = 1) (hzc : z.cells = #[z]) (h1 : z.oneCell' = true) (v : Value) (n : Nat) (xs : List Value) (hown : w.ownsRow base e 1 v n xs) (k : Nat) (h63 : n + k ≤ 1099511627776) (hbase : base ≤ w.heap.size) :
    ∃ v' w', (Builtin.append_ #[t, tn] ty #[v, .int kq k]).run P w = .ok v' w' ∧ w'.ownsRow base e 1 v' (n + k) (xs ++ List.replicate k z) ∧ w.grownBy w' v.ownBlock ∧ (v'.ownBlock = v.ownBlock ∨ v'.ownBlock = some w.heap.size) := by
  have hmx : n + k ≤ maxLen := by unfold maxLen; omega
  have hw : IntKind.i64.wrap (k : Int) = k := by rw [IntKind.wrap_i64]; omega
  have hneg : ¬ ((k : Int) < 0) := by omega
  have h48i : ¬ (281474976710656 < (k : Int)) := by omega
  have hlen : (xs ++ List.replicate k z).length = (n + k) * 1 := by rw [List.length_append, hown.1]; simp
  have grown : ∀ (old : Nat), old < n + k → ∀ (row : Option Nat),
      (w.drew.alloc (.cells (xs.toArray ++ Builtin.zeroCells z.cells k ++ Builtin.zeroCells z.cells (grownCap w (n + k) old e - (n + k))) e)).ownsRow base e 1
        (.slice (some ⟨w.heap.size, 0, none⟩) (n + k) (grownCap w (n + k) old e)) (n + k) (xs ++ List.replicate k z) ∧
      w.grownBy (w.drew.alloc (.cells (xs.toArray ++ Builtin.zeroCells z.cells k ++ Builtin.zeroCells z.cells (grownCap w (n + k) old e - (n + k))) e)) row := by
    intro old ho row
    have hge := grownCap_ge w (n + k) old e
    have hcm : grownCap w (n + k) old e ≤ maxLen := grownCap_le_maxLen w (n + k) old e hmx
    have hxl := hown.1
    refine ⟨⟨hlen, .inr ⟨w.heap.size, _, _, rfl, hbase, heap_alloc_new w.drew _, hge, hcm, ?_, ?_⟩⟩, ⟨rfl, rfl, rfl, by simp, fun k hk _ => heap_alloc_old w.drew _ hk⟩⟩
    · rw [zeroCells_one hzc, zeroCells_one hzc]
      simp
      omega
    · rw [zeroCells_one hzc, zeroCells_one hzc]
      simp only [Array.toList_append]
      rw [← hlen]
      exact List.take_left
  rcases hown.2 with ⟨rfl, rfl⟩ | ⟨g, cap, cur, rfl, hbg, hg, hnc, hcm, hcs, htake⟩
  · have hx : xs = [] := List.eq_nil_of_length_eq_zero (by simpa using hown.1)
    subst hx
    by_cases hm : k = 0
    · subst hm
      refine ⟨.slice none 0 0, w, ?_, World.ownsRow_nil w base e 1, ⟨rfl, rfl, rfl, Nat.le_refl _, fun _ _ _ => rfl⟩, Or.inl rfl⟩
      simp [Builtin.append_, run_underlying ht, run_underlying htn, sizeOf, typeInfo, hi, hs, hby, asInt, asIntOf, IntKind.wrap_i64]
    · have hr := Go.Lib.run_append_nil_zeros (P := P) w t tn ty e i z kq kn ht htn hi hz k (by omega) (by omega) (by omega) (by rw [hby]; omega)
      have hgr := grown 0 (by omega) (Value.ownBlock (.slice none 0 0))
      simp only [Nat.zero_add, List.nil_append, Array.empty_append] at hgr ⊢
      exact ⟨_, _, hr, hgr.1, hgr.2, Or.inr rfl⟩
  · by_cases hroom : n + k ≤ cap
    · by_cases hm : k = 0
      · subst hm
        refine ⟨_, w, ?_, by simpa using hown, ⟨rfl, rfl, rfl, Nat.le_refl _, fun _ _ _ => rfl⟩, Or.inl rfl⟩
        simp [Builtin.append_, run_underlying ht, run_underlying htn, sizeOf, typeInfo, hi, hs, hby, asInt, asIntOf, IntKind.wrap_i64, hnc, storeCells]
      · have hfit : n + (List.replicate k z).length ≤ cur.size := by rw [hcs]; simp; omega
        have hst := run_storeCells_at P g n e (List.replicate k z) 0 cur w hg (by simpa using hfit) (by intro u hu; rw [List.eq_of_mem_replicate hu]; exact h1)
        simp only [Nat.add_zero] at hst
        have hns : ¬ (k * 1 = 0) := by omega
        have hr : (Builtin.append_ #[t, tn] ty #[.slice (some ⟨g, 0, none⟩) n cap, .int kq k]).run P w = .ok (.slice (some ⟨g, 0, none⟩) (n + k) cap) (w.setRow g (cur.toList.take n ++ List.replicate k z ++ cur.toList.drop (n + (List.replicate k z).length)).toArray) := by
          simp only [List.length_replicate] at hst ⊢
          simp [Builtin.append_, run_underlying ht, run_underlying htn, sizeOf, typeInfo, zeroValue, hi, hz, hs, hby, asInt, asIntOf, hw, hneg, h48i, hm, hroom, zeroCells_one hzc, Addr.add_lit, hst]
        refine ⟨_, _, hr, ⟨hlen, .inr ⟨g, cap, _, rfl, hbg, setRow_heap w g cur _ e _ hg, hroom, hcm, ?_, ?_⟩⟩, ⟨rfl, rfl, rfl, by simp, fun k _ hk => setRow_other w g k _ (fun e => hk (by simp [Value.ownBlock, e]))⟩, Or.inl rfl⟩
        · simp only [List.size_toArray, List.length_append, List.length_take, List.length_drop, Array.length_toList]
          simp at hfit ⊢
          omega
        · simp only [Nat.mul_one] at htake
          rw [htake, ← hlen]
          exact List.take_left
    · have holds : ∀ j u, xs[j]? = some u → w.cell? ((⟨g, 0, none⟩ : Addr).add j) = some u := hown.cells (g := g) rfl
      have hold : (Builtin.firstCells i.size n (.slice (some ⟨g, 0, none⟩) n cap)).run P w.drew = .ok xs.toArray w.drew := run_firstCells_some (P := P) w.drew i.size n ⟨g, 0, none⟩ n cap xs (by rw [hs]; exact hown.1) holds
      have hr := Go.Lib.run_append_grow_zeros (P := P) w t tn ty e i z kq kn ht htn hi hz (some ⟨g, 0, none⟩) n cap xs hold k (by omega) (by omega) (by omega) (by omega) (by rw [hby]; omega) (by rw [hby]; exact growslice_fits (bytes := 1) (by omega) (by omega))
      have hgr := grown cap (by omega) (Value.ownBlock (.slice (some ⟨g, 0, none⟩) n cap))
      exact ⟨_, _, hr, hgr.1, hgr.2, Or.inr rfl⟩
theorem wpList_append_zeros {P : Program} {w : World} {ops : Array Oper} {rest : List Oper} {o : Oper} {a : Act} {Q : Exit → Act → World → Prop} (hgd : o.guard = none) (p q : Operand) (t tn e : TypeId) (z : Value) (kq kn : IntKind)
    (ho : o.op = .call { callee := .builtin .append, args := #[p, q], argTypes := #[t, tn] }) (ht : P.underlying t = some (.slice e)) (htn : P.underlying tn = some (.int kn))
    (hi : (P.info? e).map (fun i => (i.zero, i.size, i.bytes)) = some (some z, 1, 1)) (hzc : z.cells = #[z]) (h1 : z.oneCell' = true)
    (base : Nat) (v : Value) (n : Nat) (xs : List Value) (hp : a.eval p = v) (hown : w.ownsRow base e 1 v n xs) (k : Nat) (hq : a.eval q = .int kq (k : Int)) (h63 : n + k ≤ 1099511627776) (hbase : base ≤ w.heap.size)
    (h : ∀ v' w', w'.ownsRow base e 1 v' (n + k) (xs ++ List.replicate k z) → w.grownBy w' v.ownBlock → (v'.ownBlock = v.ownBlock ∨ v'.ownBlock = some w.heap.size) → wpList P ops Q rest (a.put o.dst v') w') :
    wpList P ops Q (o :: rest) a w := by
  obtain ⟨i0, hi0, hz0, hs0, hb0⟩ := info_parts hi
  obtain ⟨v', w', hr, h2, h3, h4⟩ := run_append_zeros (P := P) w base t tn o.type e i0 z kq kn ht htn hi0 hz0 hs0 hb0 hzc h1 v n xs hown k h63 hbase
  exact Go.Lib.wpList_append_run w hgd p q t tn ho v (.int kq (k : Int)) hp hq v' w' hr (h v' w' h2 h3 h4)
end Go.Proofs.YtpdclbfjngmppaaDoor

namespace Go.Proofs.YtpdclbfjngmppaaDoor
open Go.RowKit
set_option linter.unusedVariables false
set_option linter.unusedSimpArgs false

/-- The program's sending part, as it lies in memory. -/
def snB (w : World) (g st : Nat) (vd vh : Value) (c0 c1 c2 c3 : Int) (fin : Nat) (fi : Bool) (cr : Int) : Prop :=
  w.heap[g]? = some (.cells #[.int .i64 1, .int .i64 (st : Int), vd, vh, .int .i64 c0, .int .i64 c1, .int .i64 c2, .int .i64 c3, .int .u8 (fin : Int), .bool fi, .int .i64 cr] 61 (0, 0))
def fv (W : List Nat) : List Value := W.map fun (x : Nat) => Value.int .u8 (x : Int)
/-- Its two rows. -/
structure NA (w : World) (D : Nat → Prop) (g base : Nat) (B : List Int) (W : List Nat) (vd vh : Value) : Prop where
  od : w.ownsRow base 5 1 vd B.length (B.map (Value.int .u8))
  oh : w.ownsRow base 59 1 vh W.length (fv W)
  dg : D g
  dd : ∀ k, vd.ownBlock = some k → D k
  dh : ∀ k, vh.ownBlock = some k → D k
  lt : ∀ k, D k → k < w.heap.size
  gb : base ≤ g
def snW (w : World) (g : Nat) (m : SS) (vd vh : Value) : Prop := snB w g m.st vd vh (m.W.count 0 : Nat) (m.W.count 1 : Nat) (m.W.count 2 : Nat) (m.W.count 3 : Nat) m.fin m.finish m.credit
def PRep (w : World) (D : Nat → Prop) (g base : Nat) (m : SS) : Prop := ∃ vd vh, snW w g m vd vh ∧ NA w D g base m.B m.W vd vh
/-- What stands around it. -/
structure NE (w : World) (D : Nat → Prop) : Prop where
  tab : TabF w
  t0 : 0 < w.heap.size
  tn : ¬ D 0
theorem snB.lt {w : World} {g st fin : Nat} {vd vh : Value} {c0 c1 c2 c3 cr : Int} {fi : Bool} (h : snB w g st vd vh c0 c1 c2 c3 fin fi cr) : g < w.heap.size := (Array.getElem?_eq_some_iff.1 h).1
theorem NA.setG {w : World} {D : Nat → Prop} {g base : Nat} {B : List Int} {W : List Nat} {vd vh : Value} (hA : NA w D g base B W vd vh) (n1 : ∀ k, vh.ownBlock = some k → k ≠ g) (n2 : ∀ k, vd.ownBlock = some k → k ≠ g) (i : Nat) (u : Value) : NA (w.setCell ⟨g, i, none⟩ u) D g base B W vd vh :=
  ⟨(Only.setCell (w := w) ⟨g, i, none⟩ u).owns hA.od (fun k hk e => n2 k hk (Option.some.inj e)), (Only.setCell (w := w) ⟨g, i, none⟩ u).owns hA.oh (fun k hk e => n1 k hk (Option.some.inj e)), hA.dg, hA.dd, hA.dh, fun k hk => by rw [size_setC]; exact hA.lt k hk, hA.gb⟩
theorem NA.drewM {w : World} {D : Nat → Prop} {g base : Nat} {B : List Int} {W : List Nat} {vd vh : Value} (hA : NA w D g base B W vd vh) (n : Nat) : NA (w.drewN n) D g base B W vd vh := ⟨hA.od, hA.oh, hA.dg, hA.dd, hA.dh, hA.lt, hA.gb⟩
theorem NA.wide {w : World} {D D' : Nat → Prop} {g base : Nat} {B : List Int} {W : List Nat} {vd vh : Value} (hA : NA w D g base B W vd vh) (h1 : ∀ k, D k → D' k) (h2 : ∀ k, D' k → k < w.heap.size) : NA w D' g base B W vd vh := ⟨hA.od, hA.oh, h1 _ hA.dg, fun k hk => h1 k (hA.dd k hk), fun k hk => h1 k (hA.dh k hk), h2, hA.gb⟩
theorem NA.shape {w : World} {D : Nat → Prop} {g base : Nat} {B : List Int} {W : List Nat} {vd vh : Value} (h : NA w D g base B W vd vh) : (∃ da dc, vd = .slice da B.length dc) ∧ ∃ ta tc, vh = .slice ta W.length tc := ⟨own_form h.od, own_form h.oh⟩
theorem NA.below {w w' : World} {D : Nat → Prop} {g base : Nat} {B : List Int} {W : List Nat} {vd vh : Value} (h : NA w D g base B W vd vh) (hb : Below w.heap.size w w') : NA w' D g base B W vd vh :=
  ⟨owns_below h.od hb, owns_below h.oh hb, h.dg, h.dd, h.dh, fun k hk => Nat.lt_of_lt_of_le (h.lt k hk) hb.size, h.gb⟩
theorem snB.below {w w' : World} {g st fin : Nat} {vd vh : Value} {c0 c1 c2 c3 cr : Int} {fi : Bool} (h : snB w g st vd vh c0 c1 c2 c3 fin fi cr) (hb : Below w.heap.size w w') : snB w' g st vd vh c0 c1 c2 c3 fin fi cr := (hb.block g h.lt).trans h
theorem PRep.below {w w' : World} {D : Nat → Prop} {g base : Nat} {m : SS} (h : PRep w D g base m) (hb : Below w.heap.size w w') : PRep w' D g base m := by
  obtain ⟨vd, vh, h1, h2⟩ := h
  exact ⟨vd, vh, snB.below h1 hb, h2.below hb⟩
theorem NE.chg {w w' : World} {D : Nat → Prop} (h : NE w D) (hc : Chg D w w') : NE w' D := ⟨h.tab.chg hc h.t0 h.tn, Nat.lt_of_lt_of_le h.t0 hc.size, h.tn⟩
theorem NE.below {w w' : World} {D : Nat → Prop} (h : NE w D) (hc : Below w.heap.size w w') : NE w' D := h.chg (Chg.of_below hc)
theorem row_fate {w : World} {base n : Nat} {vh : Value} {W : List Nat} (h : w.ownsRow base 59 1 vh n (fv W)) (hn : n = W.length) (p : Nat) (hp : p < n) : ∃ b cap, vh = .slice (some ⟨b, 0, none⟩) n cap ∧ w.cell? ⟨b, p, none⟩ = some (.int .u8 ((W.getD p 0 : Nat) : Int)) ∧ w.frozen? ⟨b, p, none⟩ = false := by
  obtain ⟨b, cap, rfl, _, _⟩ := owns_shape h (by omega)
  refine ⟨b, cap, rfl, ?_, h.frozenAt p⟩
  rw [h.cellAt p (by omega)]
  unfold fv
  rw [List.getElem?_map, List.getElem?_eq_getElem (by omega)]
  simp [List.getD, show p < W.length by omega]
theorem fv_set (W : List Nat) (k x : Nat) : fv (W.set k x) = (fv W).set k (.int .u8 (x : Int)) := by unfold fv; rw [List.map_set]
theorem NA.put {w : World} {D : Nat → Prop} {g base tb l tc k x : Nat} {B : List Int} {W : List Nat} {vd : Value} (hA : NA w D g base B W vd (.slice (some ⟨tb, 0, none⟩) l tc)) (hl : W.length = l) :
    NA (w.setCell ⟨tb, k, none⟩ (.int .u8 (x : Int))) D g base B (W.set k x) vd (.slice (some ⟨tb, 0, none⟩) l tc) := by
  refine ⟨?_, ?_, hA.dg, hA.dd, hA.dh, fun t ht => by rw [size_setC]; exact hA.lt t ht, hA.gb⟩
  · exact (Only.setCell (w := w) ⟨tb, k, none⟩ (.int .u8 (x : Int))).owns hA.od (fun t ht e => own_two (by decide) hA.od hA.oh t ht e)
  · have oh := hA.oh
    rw [hl] at oh
    rw [List.length_set, fv_set, hl]
    exact (oh.stored k _).1
theorem count_pre : ∀ (H : List Nat) (n : Nat), (∀ i, i < n → H.getD i 0 ≠ 0) → (∀ i, n ≤ i → H.getD i 0 = 0) → n ≤ H.length → H.count 0 + n = H.length
  | [], n, h1, h2, h3 => by simp at h3 ⊢; omega
  | x :: r, 0, h1, h2, h3 => by
    have hx : x = 0 := h2 0 (Nat.le_refl _)
    have := count_pre r 0 (fun i hi => by omega) (fun i _ => h2 (i + 1) (by omega)) (by omega)
    subst hx
    simp at this ⊢
    omega
  | x :: r, n + 1, h1, h2, h3 => by
    have hx : x ≠ 0 := h1 0 (by omega)
    have := count_pre r n (fun i hi => h1 (i + 1) (by omega)) (fun i hi => h2 (i + 1) (by omega)) (by simpa using h3)
    have e : (x :: r).count 0 = r.count 0 := by rw [List.count_cons]; simp [hx]
    rw [e]
    simp
    omega
theorem SI.cnt0 {m : SS} (I : SI m) : ((m.W.count 0 : Nat) : Int) = (m.B.length : Int) - m.next := by
  have h1 := count_pre m.W m.next (fun i hi => (I.old i hi).1) I.new (by have := I.len; have := I.nx; omega)
  have h2 := I.len
  omega
theorem mtS4 (st : Nat) (hs : st < 6) : mtV 1 st 4 = decide (st < 3) := by
  have : st = 0 ∨ st = 1 ∨ st = 2 ∨ st = 3 ∨ st = 4 ∨ st = 5 := by omega
  rcases this with rfl | rfl | rfl | rfl | rfl | rfl <;> rfl
set_option maxRecDepth 20000 in
theorem goingI (g st : Nat) (vd vh : Value) (c0 c1 c2 c3 cr : Int) (fin : Nat) (fi : Bool) (w : World) (hs : st < 6) (ht : TabF w) (h0 : 0 < w.heap.size) (hb : snB w g st vd vh c0 c1 c2 c3 fin fi cr) :
    Calls Tryd.prog 33 #[.pointer (some ⟨g, 0, none⟩)] w fun e w' => e = .returned (.bool (decide (st < 3))) ∧ Below w.heap.size w w' := by
  have d0 : w.cell? ⟨g, 0, none⟩ = some (.int .i64 1) := (bk_cell hb 0).trans rfl
  have d1 : w.cell? ⟨g, 1, none⟩ = some (.int .i64 (st : Int)) := (bk_cell hb 1).trans rfl
  have C := mayTurnI 1 st 4 (by decide) hs (by decide) (by decide) w ht h0
  rw [mtS4 st hs] at C
  generalize decide (st < 3) = b at C ⊢
  clear hb ht h0
  go_enter Tryd.func33, Tryd.ntmps33
  go_wp2_with fail
  go_at_call 39
  refine C.mono ?_
  rintro e w1 ⟨rfl, b1⟩
  go_wp2
  go_ret
  exact ⟨rfl, b1⟩
set_option maxRecDepth 20000 in
theorem begunI (g st nw cw : Nat) (aw : Option Addr) (vh : Value) (c0 c1 c2 c3 cr : Int) (fin : Nat) (fi : Bool) (w : World) (hb : snB w g st (.slice aw nw cw) vh c0 c1 c2 c3 fin fi cr) (h1 : nw ≤ 65536) (h2 : 0 ≤ c0) (h3 : c0 ≤ nw) :
    Calls Tryd.prog 38 #[.pointer (some ⟨g, 0, none⟩)] w fun e w' => e = .returned (.int .i64 ((nw : Int) - c0)) ∧ ∃ q, w' = w.drewN q := by
  have d2 : w.cell? ⟨g, 2, none⟩ = some (.slice aw nw cw) := (bk_cell hb 2).trans rfl
  have d4 : w.cell? ⟨g, 4, none⟩ = some (.int .i64 c0) := (bk_cell hb 4).trans rfl
  have d2d : w.drew.cell? ⟨g, 2, none⟩ = some (.slice aw nw cw) := d2
  have d4d : w.drew.cell? ⟨g, 4, none⟩ = some (.int .i64 c0) := d4
  have hw : IntKind.i64.wrap ((nw : Int) - c0) = (nw : Int) - c0 := by rw [IntKind.wrap_i64]; omega
  clear hb
  go_enter Tryd.func38, Tryd.ntmps38
  go_wp2_with fail
  go_quiet (fail)
  go_wp2
  go_ret
  exact ⟨rfl, _, rfl⟩
/-- How many have been on their way. -/
theorem begunM (g base : Nat) (m : SS) (D : Nat → Prop) (w : World) (I : SI m) (hR : PRep w D g base m) :
    Calls Tryd.prog 38 #[.pointer (some ⟨g, 0, none⟩)] w fun e w' => e = .returned (.int .i64 (m.next : Int)) ∧ ∃ q, w' = w.drewN q := by
  obtain ⟨vd, vh, hb, hA⟩ := hR
  obtain ⟨⟨da, dc, rfl⟩, _⟩ := hA.shape
  have h0 := I.cnt0
  have hn := I.nx
  refine (begunI g m.st m.B.length dc da vh _ _ _ _ m.credit m.fin m.finish w hb I.big (by omega) (by omega)).mono ?_
  rintro e w' ⟨rfl, hq⟩
  exact ⟨by rw [h0]; congr 2; omega, hq⟩
theorem turnS (g st x : Nat) (vd vh : Value) (c0 c1 c2 c3 cr : Int) (fin : Nat) (fi : Bool) (hs : st < 6) (h1 : 1 ≤ x) (h5 : x ≤ 5) (w : World) (ht : TabF w) (h0 : 0 < w.heap.size) (hb : snB w g st vd vh c0 c1 c2 c3 fin fi cr) :
    Calls Tryd.prog 36 #[.pointer (some ⟨g, 0, none⟩), .int .i64 (x : Int)] w fun e w' => e = .returned (.bool (mtV 1 st x)) ∧ snB w' g (if mtV 1 st x then x else st) vd vh c0 c1 c2 c3 fin fi cr ∧ Chg (· = g) w w' := by
  refine (turnI g 1 st x _ _ (by decide) hs h1 h5 w ht h0 hb rfl rfl).mono ?_
  rintro e w' ⟨rfl, h2, h3⟩
  refine ⟨rfl, ?_, h3⟩
  cases hm : mtV 1 st x
  · rw [hm] at h2; exact h2
  · rw [hm] at h2; exact h2
theorem NA.chgG {w w' : World} {D : Nat → Prop} {g base : Nat} {B : List Int} {W : List Nat} {vd vh : Value} {st fin : Nat} {c0 c1 c2 c3 cr : Int} {fi : Bool} (hA : NA w D g base B W vd vh) (hb : snB w g st vd vh c0 c1 c2 c3 fin fi cr) (hc : Chg (· = g) w w') : NA w' D g base B W vd vh :=
  ⟨ownsChg hc hA.od (own_gt hA.od hb (by decide)), ownsChg hc hA.oh (own_gt hA.oh hb (by decide)), hA.dg, hA.dd, hA.dh, fun k hk => Nat.lt_of_lt_of_le (hA.lt k hk) hc.size, hA.gb⟩
/-- A turn of the whole part. -/
theorem turnP (g base x : Nat) (m : SS) (D : Nat → Prop) (h1 : 1 ≤ x) (h5 : x ≤ 5) (w : World) (hE : NE w D) (I : SI m) (hR : PRep w D g base m) :
    Calls Tryd.prog 36 #[.pointer (some ⟨g, 0, none⟩), .int .i64 (x : Int)] w fun e w' => e = .returned (.bool (mtV 1 m.st x)) ∧ PRep w' D g base { m with st := if mtV 1 m.st x then x else m.st } ∧ Chg D w w' := by
  obtain ⟨vd, vh, hb, hA⟩ := hR
  refine (turnS g m.st x vd vh _ _ _ _ m.credit m.fin m.finish I.st h1 h5 w hE.tab hE.t0 hb).mono ?_
  rintro e w' ⟨rfl, h2, h3⟩
  exact ⟨rfl, ⟨vd, vh, h2, hA.chgG hb h3⟩, h3.mono' (fun k _ e => by rw [e]; exact hA.dg)⟩
theorem goingP (g base : Nat) (m : SS) (D : Nat → Prop) (w : World) (hE : NE w D) (I : SI m) (hR : PRep w D g base m) :
    Calls Tryd.prog 33 #[.pointer (some ⟨g, 0, none⟩)] w fun e w' => e = .returned (.bool m.live) ∧ Below w.heap.size w w' := by
  obtain ⟨vd, vh, hb, hA⟩ := hR
  exact goingI g m.st vd vh _ _ _ _ m.credit m.fin m.finish w I.st hE.tab hE.t0 hb
set_option maxRecDepth 20000 in
set_option maxHeartbeats 2000000 in
theorem finishP (g base : Nat) (m : SS) (D : Nat → Prop) (w : World) (hE : NE w D) (I : SI m) (hR : PRep w D g base m) :
    Calls Tryd.prog 25 #[.pointer (some ⟨g, 0, none⟩)] w fun e w' => e = .returned (.int .i64 (sfinish m).2) ∧ PRep w' D g base (sfinish m).1 ∧ Chg D w w' := by
  have C := goingP g base m D w hE I hR
  have key : ∀ w1, Below w.heap.size w w1 → (w1.cell? ⟨g, 9, none⟩ = some (.bool m.finish) ∧ w1.frozen? ⟨g, 9, none⟩ = false) ∧ PRep w1 D g base m ∧ PRep (w1.setCell ⟨g, 9, none⟩ (.bool true)) D g base { m with finish := true } ∧ Chg D w w1 ∧ Chg D w (w1.setCell ⟨g, 9, none⟩ (.bool true)) := by
    intro w1 b1
    obtain ⟨vd, vh, hb, hA⟩ := hR.below b1
    have hc : Chg D w w1 := Chg.of_below b1
    refine ⟨⟨(bk_cell hb 9).trans rfl, bk_free hb 9⟩, ⟨vd, vh, hb, hA⟩, ⟨vd, vh, bk_set hb 9 _, hA.setG (own_gt hA.oh hb (by decide)) (own_gt hA.od hb (by decide)) 9 _⟩, hc, hc.setD g 9 _ (Or.inl hA.dg)⟩
  have hgl : g < w.heap.size := by obtain ⟨vd, vh, hb, hA⟩ := hR; exact snB.lt hb
  have H0 : Hid _ := And.intro C key
  unfold sfinish
  clear C key hE I hR
  cases hl : m.live
  · rw [if_pos (Or.inl rfl)]
    rw [hl] at H0
    go_enter Tryd.func25, Tryd.ntmps25
    go_wp2_with (go_at_call 33; refine H0.out.1.mono ?_; rintro e w1 ⟨rfl, b1⟩)
    go_ret
    obtain ⟨k1, k2, k3, k4, k5⟩ := H0.out.2 _ b1
    exact ⟨rfl, k2, k4⟩
  · rw [hl] at H0
    cases hf : m.finish
    · rw [if_neg (by simp)]
      rw [hf] at H0
      go_enter Tryd.func25, Tryd.ntmps25
      go_wp2_with (go_at_call 33; refine H0.out.1.mono ?_; rintro e w1 ⟨rfl, b1⟩; have d9 := (H0.out.2 _ b1).1.1; have f9 := (H0.out.2 _ b1).1.2; have hz := b1.size)
      go_ret
      obtain ⟨k1, k2, k3, k4, k5⟩ := H0.out.2 _ b1
      exact ⟨rfl, k3, k5⟩
    · rw [if_pos (Or.inr rfl)]
      rw [hf] at H0
      go_enter Tryd.func25, Tryd.ntmps25
      go_wp2_with (go_at_call 33; refine H0.out.1.mono ?_; rintro e w1 ⟨rfl, b1⟩; have d9 := (H0.out.2 _ b1).1.1; have f9 := (H0.out.2 _ b1).1.2; have hz := b1.size)
      go_ret
      obtain ⟨k1, k2, k3, k4, k5⟩ := H0.out.2 _ b1
      exact ⟨rfl, k2, k4⟩
set_option maxRecDepth 20000 in
set_option maxHeartbeats 2000000 in
theorem grantP (g base : Nat) (m : SS) (n : Int) (D : Nat → Prop) (w : World) (hR : PRep w D g base m) :
    Calls Tryd.prog 26 #[.pointer (some ⟨g, 0, none⟩), .int .i64 n] w fun e w' => e = .returned (.int .i64 (scredit m n).2) ∧ PRep w' D g base (scredit m n).1 ∧ Chg D w w' := by
  unfold scredit
  by_cases c : n < 0
  · rw [if_pos c]
    have H0 : Hid _ := And.intro hR True.intro
    clear hR
    go_enter Tryd.func26, Tryd.ntmps26
    go_wp2
    go_ret
    exact ⟨rfl, H0.out.1, chg_of_eq _⟩
  · rw [if_neg c]
    obtain ⟨vd, vh, hb, hA⟩ := hR
    have hgl : g < w.heap.size := snB.lt hb
    have d10 : w.cell? ⟨g, 10, none⟩ = some (.int .i64 m.credit) := (bk_cell hb 10).trans rfl
    have f10 := bk_free hb 10
    have hx : PRep (w.setCell ⟨g, 10, none⟩ (.int .i64 (max m.credit n))) D g base { m with credit := max m.credit n } := ⟨vd, vh, bk_set hb 10 _, hA.setG (own_gt hA.oh hb (by decide)) (own_gt hA.od hb (by decide)) 10 _⟩
    have hch : Chg D w (w.setCell ⟨g, 10, none⟩ (.int .i64 (max m.credit n))) := (chg_of_eq w).setD g 10 _ (Or.inl hA.dg)
    have H0 : Hid _ := And.intro hx hch
    clear hx hch hb hA
    by_cases q : m.credit ≤ n
    · have e : max m.credit n = n := by omega
      rw [e] at H0
      rw [e]
      go_enter Tryd.func26, Tryd.ntmps26
      go_wp2
      go_ret
      exact ⟨rfl, H0.out.1, H0.out.2⟩
    · have e : max m.credit n = m.credit := by omega
      rw [e] at H0
      rw [e]
      go_enter Tryd.func26, Tryd.ntmps26
      go_wp2
      go_ret
      exact ⟨rfl, H0.out.1, H0.out.2⟩
end Go.Proofs.YtpdclbfjngmppaaDoor

namespace Go.Proofs.YtpdclbfjngmppaaDoor
open Go.RowKit
set_option linter.unusedVariables false
set_option linter.unusedSimpArgs false

/-- The part with other fates. -/
def snF (w : World) (g st : Nat) (W : List Nat) (vd vh : Value) (fin : Nat) (fi : Bool) (cr : Int) : Prop := snB w g st vd vh (W.count 0 : Nat) (W.count 1 : Nat) (W.count 2 : Nat) (W.count 3 : Nat) fin fi cr
theorem snB.drewM {w : World} {g st fin : Nat} {vd vh : Value} {c0 c1 c2 c3 cr : Int} {fi : Bool} (h : snB w g st vd vh c0 c1 c2 c3 fin fi cr) (n : Nat) : snB (w.drewN n) g st vd vh c0 c1 c2 c3 fin fi cr := h
theorem snB.other {w : World} {g st fin : Nat} {vd vh : Value} {c0 c1 c2 c3 cr : Int} {fi : Bool} (h : snB w g st vd vh c0 c1 c2 c3 fin fi cr) (k i : Nat) (u : Value) (hk : k ≠ g) : snB (w.setCell ⟨k, i, none⟩ u) g st vd vh c0 c1 c2 c3 fin fi cr := (bk_other (fun e => hk e.symm) i u).trans h
set_option maxRecDepth 20000 in
set_option maxHeartbeats 2000000 in
/-- No byte is settled. -/
theorem settle0 (g st a x L cap fin : Nat) (ao : Option Addr) (vd : Value) (c0 c1 c2 c3 cr : Int) (fi : Bool) (w : World) (hb : snB w g st vd (.slice ao L cap) c0 c1 c2 c3 fin fi cr) (hL : L ≤ 65536) (ha : a ≤ L) (hLc : L ≤ cap) (ho : ao = none → cap = 0) (hoo : ∀ p, ao = some p → p.off = 0 ∧ p.spot = none) :
    Calls Tryd.prog 35 #[.pointer (some ⟨g, 0, none⟩), .int .i64 (a : Int), .int .i64 (a : Int), .int .u8 (x : Int)] w fun e w' => e = .returned (.tuple #[]) ∧ w' = w := by
  have d3 : w.cell? ⟨g, 3, none⟩ = some (.slice ao L cap) := (bk_cell hb 3).trans rfl
  clear hb
  cases ao with
  | none =>
    obtain rfl := ho rfl
    obtain rfl : L = 0 := by omega
    obtain rfl : a = 0 := by omega
    clear ho hoo
    go_enter Tryd.func35, Tryd.ntmps35
    go_wp2_with fail
    all_goals
      go_loop [18] (fun i => i = .int .i64 0) (fun _ => 0)
      case atStart => rfl
      case round =>
        obtain rfl := hrel
        go_wp2
        go_end0
        exact ⟨rfl, rfl⟩
  | some p =>
    obtain ⟨pb, po, pi⟩ := p
    obtain ⟨e1, e2⟩ := hoo _ rfl
    dsimp only at e1 e2
    subst e1 e2
    clear ho hoo
    go_enter Tryd.func35, Tryd.ntmps35
    go_wp2_with fail
    all_goals
      go_loop [18] (fun i => i = .int .i64 0) (fun _ => 0)
      case atStart => rfl
      case round =>
        obtain rfl := hrel
        go_wp2
        go_end0
        exact ⟨rfl, rfl⟩
set_option maxRecDepth 20000 in
set_option maxHeartbeats 8000000 in
theorem settle1 (g base st a b fin L tb tc : Nat) (B : List Int) (W : List Nat) (vd : Value) (fi : Bool) (cr : Int) (D : Nat → Prop) (w : World) (hb : snF w g st W vd (.slice (some ⟨tb, 0, none⟩) L tc) fin fi cr) (hA : NA w D g base B W vd (.slice (some ⟨tb, 0, none⟩) L tc)) (eL : W.length = L) (hL : L ≤ 65536) (hab : a < b) (hbL : b ≤ L) (hLc : L ≤ tc) (h3 : ∀ p, W.getD p 0 ≤ 3) :
    Calls Tryd.prog 35 #[.pointer (some ⟨g, 0, none⟩), .int .i64 (a : Int), .int .i64 (b : Int), .int .u8 1] w fun e w' => e = .returned (.tuple #[]) ∧ snF w' g st (setN W a b 1) vd (.slice (some ⟨tb, 0, none⟩) L tc) fin fi cr ∧ NA w' D g base B (setN W a b 1) vd (.slice (some ⟨tb, 0, none⟩) L tc) ∧ Chg D w w' := by
  have d3 : w.cell? ⟨g, 3, none⟩ = some (.slice (some ⟨tb, 0, none⟩) L tc) := (bk_cell hb 3).trans rfl
  obtain ⟨n, en⟩ : ∃ n, n = b - a := ⟨_, rfl⟩
  have hnI : ((b : Int) - (a : Int)).toNat = n := by omega
  have hgl : g < w.heap.size := snB.lt hb
  have H0 : Hid _ := And.intro hb (And.intro hA (And.intro eL h3))
  have hta : ¬ (tc = a) := by omega
  clear hb hA eL h3
  go_enter Tryd.func35, Tryd.ntmps35
  go_wp2_with fail
  go_loopg [18] n (fun q i wr => ∃ k : Nat, k ≤ n ∧ q = n - k ∧ i = .int .i64 (k : Int) ∧ snF wr g st (setN W a (a + k) 1) vd (.slice (some ⟨tb, 0, none⟩) L tc) fin fi cr ∧ NA wr D g base B (setN W a (a + k) 1) vd (.slice (some ⟨tb, 0, none⟩) L tc) ∧ Chg D w wr)
  case atStart => exact ⟨0, by omega, by omega, rfl, by rw [Nat.add_zero, setN_empty]; exact H0.out.1, by rw [Nat.add_zero, setN_empty]; exact H0.out.2.1, chg_of_eq w⟩
  case round =>
    obtain ⟨k, hk, hq, rfl, hb, hA, hc⟩ := hrel
    by_cases hlt : k < n
    · have hkW : a + k < W.length := by have := H0.out.2.2.1; omega
      obtain ⟨Wk, eWk⟩ : ∃ Wk, Wk = setN W a (a + k) 1 := ⟨_, rfl⟩
      rw [← eWk] at hb hA
      have hWl : Wk.length = L := by rw [eWk, setN_length]; exact H0.out.2.2.1
      have oh := hA.oh
      rw [hWl] at oh
      obtain ⟨tb', tc', e1, tcell, tfro⟩ := row_fate oh hWl.symm (a + k) (by omega)
      simp only [Value.slice.injEq, Option.some.injEq, Addr.mk.injEq] at e1
      obtain ⟨⟨rfl, -, -⟩, -, rfl⟩ := e1
      have eat : Wk.getD (a + k) 0 = W.getD (a + k) 0 := by rw [eWk]; rw [setN_at _ _ _ _ _ hkW, if_neg (by omega)]
      have hnx := setN_next W a (a + k) 1 (by omega) hkW
      rw [← eWk, ← eat] at hnx
      have d3 : wr.cell? ⟨g, 3, none⟩ = some (.slice (some ⟨tb, 0, none⟩) L tc) := (bk_cell hb 3).trans rfl
      have v3 : Wk.getD (a + k) 0 ≤ 3 := by rw [eat]; exact H0.out.2.2.2 _
      have tlt : tb < wr.heap.size := (oh.lt tb rfl).2
      have ntg : tb ≠ g := own_gt oh hb (by decide) tb rfl
      have hgl : g < wr.heap.size := snB.lt hb
      have hakW : a + k < Wk.length := by omega
      by_cases c2 : Wk.getD (a + k) 0 = 2
      · rw [if_pos c2] at hnx
        rw [c2] at tcell
        have H2 : Hid _ := And.intro hb (And.intro hA (And.intro hc hnx))
        clear hb hA hc hnx oh eat eWk c2 v3
        go_wp2_with fail
        go_roundg (n - (k + 1))
        case measure => omega
        case rel => exact ⟨k + 1, by omega, rfl, by go_num, by rw [← Nat.add_assoc, H2.out.2.2.2]; exact H2.out.1, by rw [← Nat.add_assoc, H2.out.2.2.2]; exact H2.out.2.1, H2.out.2.2.1⟩
      rw [if_neg c2] at hnx
      by_cases u0 : Wk.getD (a + k) 0 = 0
      · have hcnt : ∀ y, (((Wk.set (a + k) 1).count y : Nat) : Int) = ((Wk.count y : Nat) : Int) - (if 0 = y then 1 else 0) + (if 1 = y then 1 else 0) := fun y => by have := count_set Wk (a + k) 1 y hakW; rw [u0] at this; exact this
        have hpos : 1 ≤ Wk.count 0 := by have := count_pos Wk (a + k) hakW; rw [u0] at this; exact this
        have m0 := count_le Wk 0
        have m1 := count_le Wk 1
        have m2 := count_le Wk 2
        have m3 := count_le Wk 3
        obtain ⟨q0, e0⟩ : ∃ q : Int, q = ((Wk.count 0 : Nat) : Int) := ⟨_, rfl⟩
        obtain ⟨q1, e1⟩ : ∃ q : Int, q = ((Wk.count 1 : Nat) : Int) := ⟨_, rfl⟩
        obtain ⟨q2, e2⟩ : ∃ q : Int, q = ((Wk.count 2 : Nat) : Int) := ⟨_, rfl⟩
        obtain ⟨q3, e3⟩ : ∃ q : Int, q = ((Wk.count 3 : Nat) : Int) := ⟨_, rfl⟩
        unfold snF at hb
        rw [← e0, ← e1, ← e2, ← e3] at hb
        have r0 : 0 ≤ q0 ∧ q0 ≤ 65536 := by omega
        have r1 : 0 ≤ q1 ∧ q1 ≤ 65536 := by omega
        have r2 : 0 ≤ q2 ∧ q2 ≤ 65536 := by omega
        have r3 : 0 ≤ q3 ∧ q3 ≤ 65536 := by omega
        have hput := hA.put (k := a + k) (x := 1) hWl
        have hbp := hb.other tb (a + k) (.int .u8 ((1 : Nat) : Int)) ntg
        have hcp : Chg D w (wr.setCell ⟨tb, a + k, none⟩ (.int .u8 ((1 : Nat) : Int))) := hc.setD tb (a + k) _ (Or.inl (hA.dh tb rfl))
        rw [u0] at tcell
        have H2 : Hid _ := And.intro hput (And.intro hbp (And.intro hcp (And.intro hnx (And.intro hcnt (And.intro e0 (And.intro e1 (And.intro e2 e3)))))))
        clear hput hbp hcp hnx hcnt hb hA hc oh eat eWk c2 v3 e0 e1 e2 e3 m0 m1 m2 m3 hpos
        go_upto_region 5 with fail
        obtain ⟨X, eX⟩ : ∃ X, X = wr.setCell ⟨tb, a + k, none⟩ (.int .u8 1) := ⟨_, rfl⟩
        have hX : snB X g st vd (.slice (some ⟨tb, 0, none⟩) L tc) q0 q1 q2 q3 fin fi cr := by rw [eX]; exact H2.out.2.1
        have hXA : NA X D g base B (Wk.set (a + k) 1) vd (.slice (some ⟨tb, 0, none⟩) L tc) := by rw [eX]; exact H2.out.1
        have hXc : Chg D w X := by rw [eX]; exact H2.out.2.2.1
        rw [← eX]
        have x5 : X.cell? ⟨g, 4, none⟩ = some (.int .i64 q0) := (bk_cell hX 4).trans rfl
        have y5 : X.drew.cell? ⟨g, 4, none⟩ = some (.int .i64 q0) := x5
        have z5 : X.drew.frozen? ⟨g, 4, none⟩ = false := bk_free hX 4
        have hXg : g < X.heap.size := snB.lt hX
        have HX : Hid _ := And.intro hX (And.intro hXA hXc)
        clear hX hXA hXc eX d3 tcell tfro
        go_cut [8] from 34 to 43 (fun iv wx => iv = .int .i64 (k : Int) ∧ snB wx g st vd (.slice (some ⟨tb, 0, none⟩) L tc) (q0 - 1) q1 q2 q3 fin fi cr ∧ NA wx D g base B (Wk.set (a + k) 1) vd (.slice (some ⟨tb, 0, none⟩) L tc) ∧ Chg D w wx)
        case first =>
          go_region
          all_goals
            go_wp2_with fail
            go_meet
            exact ⟨rfl, bk_set HX.out.1 4 _, (HX.out.2.1.setG (own_gt HX.out.2.1.oh HX.out.1 (by decide)) (own_gt HX.out.2.1.od HX.out.1 (by decide)) 4 _).drewM 1, (HX.out.2.2.setD g 4 _ (Or.inl HX.out.2.1.dg)).drewD 1⟩
        case rest =>
          obtain ⟨rfl, hX, hXA, hXc⟩ := hcut
          clear x5 y5 z5 HX hXg
          have x5 : wc.cell? ⟨g, 5, none⟩ = some (.int .i64 q1) := (bk_cell hX 5).trans rfl
          have y5 : wc.drew.cell? ⟨g, 5, none⟩ = some (.int .i64 q1) := x5
          have z5 : wc.drew.frozen? ⟨g, 5, none⟩ = false := bk_free hX 5
          have hXg : g < wc.heap.size := snB.lt hX
          have HX : Hid _ := And.intro hX (And.intro hXA hXc)
          clear hX hXA hXc
          go_upto_region 6 with fail
          go_region
          go_wp2_with fail
          go_roundg (n - (k + 1))
          case measure => omega
          case rel =>
            obtain ⟨-, -, -, hnx, hcnt, e0, e1, e2, e3⟩ := H2.out
            have t0 : (q0 - 1) = (((Wk.set (a + k) 1).count 0 : Nat) : Int) := by have t := hcnt 0; (repeat' split at t) <;> omega
            have t1 : q1 + 1 = (((Wk.set (a + k) 1).count 1 : Nat) : Int) := by have t := hcnt 1; (repeat' split at t) <;> omega
            have t2 : q2 = (((Wk.set (a + k) 1).count 2 : Nat) : Int) := by have t := hcnt 2; (repeat' split at t) <;> omega
            have t3 : q3 = (((Wk.set (a + k) 1).count 3 : Nat) : Int) := by have t := hcnt 3; (repeat' split at t) <;> omega
            refine ⟨k + 1, by omega, rfl, by go_num, ?_, ?_, (HX.out.2.2.setD g 5 _ (Or.inl HX.out.2.1.dg)).drewD 1⟩
            · rw [← Nat.add_assoc, hnx]
              unfold snF
              rw [← t0, ← t1, ← t2, ← t3]
              exact bk_set HX.out.1 5 _
            · rw [← Nat.add_assoc, hnx]
              exact (HX.out.2.1.setG (own_gt HX.out.2.1.oh HX.out.1 (by decide)) (own_gt HX.out.2.1.od HX.out.1 (by decide)) 5 _).drewM 1
      by_cases u1 : Wk.getD (a + k) 0 = 1
      · have hcnt : ∀ y, (((Wk.set (a + k) 1).count y : Nat) : Int) = ((Wk.count y : Nat) : Int) - (if 1 = y then 1 else 0) + (if 1 = y then 1 else 0) := fun y => by have := count_set Wk (a + k) 1 y hakW; rw [u1] at this; exact this
        have hpos : 1 ≤ Wk.count 1 := by have := count_pos Wk (a + k) hakW; rw [u1] at this; exact this
        have m0 := count_le Wk 0
        have m1 := count_le Wk 1
        have m2 := count_le Wk 2
        have m3 := count_le Wk 3
        obtain ⟨q0, e0⟩ : ∃ q : Int, q = ((Wk.count 0 : Nat) : Int) := ⟨_, rfl⟩
        obtain ⟨q1, e1⟩ : ∃ q : Int, q = ((Wk.count 1 : Nat) : Int) := ⟨_, rfl⟩
        obtain ⟨q2, e2⟩ : ∃ q : Int, q = ((Wk.count 2 : Nat) : Int) := ⟨_, rfl⟩
        obtain ⟨q3, e3⟩ : ∃ q : Int, q = ((Wk.count 3 : Nat) : Int) := ⟨_, rfl⟩
        unfold snF at hb
        rw [← e0, ← e1, ← e2, ← e3] at hb
        have r0 : 0 ≤ q0 ∧ q0 ≤ 65536 := by omega
        have r1 : 0 ≤ q1 ∧ q1 ≤ 65536 := by omega
        have r2 : 0 ≤ q2 ∧ q2 ≤ 65536 := by omega
        have r3 : 0 ≤ q3 ∧ q3 ≤ 65536 := by omega
        have hput := hA.put (k := a + k) (x := 1) hWl
        have hbp := hb.other tb (a + k) (.int .u8 ((1 : Nat) : Int)) ntg
        have hcp : Chg D w (wr.setCell ⟨tb, a + k, none⟩ (.int .u8 ((1 : Nat) : Int))) := hc.setD tb (a + k) _ (Or.inl (hA.dh tb rfl))
        rw [u1] at tcell
        have H2 : Hid _ := And.intro hput (And.intro hbp (And.intro hcp (And.intro hnx (And.intro hcnt (And.intro e0 (And.intro e1 (And.intro e2 e3)))))))
        clear hput hbp hcp hnx hcnt hb hA hc oh eat eWk c2 v3 e0 e1 e2 e3 m0 m1 m2 m3 hpos
        go_upto_region 5 with fail
        obtain ⟨X, eX⟩ : ∃ X, X = wr.setCell ⟨tb, a + k, none⟩ (.int .u8 1) := ⟨_, rfl⟩
        have hX : snB X g st vd (.slice (some ⟨tb, 0, none⟩) L tc) q0 q1 q2 q3 fin fi cr := by rw [eX]; exact H2.out.2.1
        have hXA : NA X D g base B (Wk.set (a + k) 1) vd (.slice (some ⟨tb, 0, none⟩) L tc) := by rw [eX]; exact H2.out.1
        have hXc : Chg D w X := by rw [eX]; exact H2.out.2.2.1
        rw [← eX]
        have x5 : X.cell? ⟨g, 5, none⟩ = some (.int .i64 q1) := (bk_cell hX 5).trans rfl
        have y5 : X.drew.cell? ⟨g, 5, none⟩ = some (.int .i64 q1) := x5
        have z5 : X.drew.frozen? ⟨g, 5, none⟩ = false := bk_free hX 5
        have hXg : g < X.heap.size := snB.lt hX
        have HX : Hid _ := And.intro hX (And.intro hXA hXc)
        clear hX hXA hXc eX d3 tcell tfro
        go_cut [8] from 34 to 43 (fun iv wx => iv = .int .i64 (k : Int) ∧ snB wx g st vd (.slice (some ⟨tb, 0, none⟩) L tc) q0 (q1 - 1) q2 q3 fin fi cr ∧ NA wx D g base B (Wk.set (a + k) 1) vd (.slice (some ⟨tb, 0, none⟩) L tc) ∧ Chg D w wx)
        case first =>
          go_region
          all_goals
            go_wp2_with fail
            go_meet
            exact ⟨rfl, bk_set HX.out.1 5 _, (HX.out.2.1.setG (own_gt HX.out.2.1.oh HX.out.1 (by decide)) (own_gt HX.out.2.1.od HX.out.1 (by decide)) 5 _).drewM 1, (HX.out.2.2.setD g 5 _ (Or.inl HX.out.2.1.dg)).drewD 1⟩
        case rest =>
          obtain ⟨rfl, hX, hXA, hXc⟩ := hcut
          clear x5 y5 z5 HX hXg
          have x5 : wc.cell? ⟨g, 5, none⟩ = some (.int .i64 (q1 - 1)) := (bk_cell hX 5).trans rfl
          have y5 : wc.drew.cell? ⟨g, 5, none⟩ = some (.int .i64 (q1 - 1)) := x5
          have z5 : wc.drew.frozen? ⟨g, 5, none⟩ = false := bk_free hX 5
          have hXg : g < wc.heap.size := snB.lt hX
          have HX : Hid _ := And.intro hX (And.intro hXA hXc)
          clear hX hXA hXc
          go_upto_region 6 with fail
          go_region
          go_wp2_with fail
          go_roundg (n - (k + 1))
          case measure => omega
          case rel =>
            obtain ⟨-, -, -, hnx, hcnt, e0, e1, e2, e3⟩ := H2.out
            have t0 : q0 = (((Wk.set (a + k) 1).count 0 : Nat) : Int) := by have t := hcnt 0; (repeat' split at t) <;> omega
            have t1 : q1 = (((Wk.set (a + k) 1).count 1 : Nat) : Int) := by have t := hcnt 1; (repeat' split at t) <;> omega
            have t2 : q2 = (((Wk.set (a + k) 1).count 2 : Nat) : Int) := by have t := hcnt 2; (repeat' split at t) <;> omega
            have t3 : q3 = (((Wk.set (a + k) 1).count 3 : Nat) : Int) := by have t := hcnt 3; (repeat' split at t) <;> omega
            refine ⟨k + 1, by omega, rfl, by go_num, ?_, ?_, (HX.out.2.2.setD g 5 _ (Or.inl HX.out.2.1.dg)).drewD 1⟩
            · rw [← Nat.add_assoc, hnx]
              unfold snF
              rw [← t0, ← t1, ← t2, ← t3]
              exact bk_set HX.out.1 5 _
            · rw [← Nat.add_assoc, hnx]
              exact (HX.out.2.1.setG (own_gt HX.out.2.1.oh HX.out.1 (by decide)) (own_gt HX.out.2.1.od HX.out.1 (by decide)) 5 _).drewM 1
      by_cases u3 : Wk.getD (a + k) 0 = 3
      · have hcnt : ∀ y, (((Wk.set (a + k) 1).count y : Nat) : Int) = ((Wk.count y : Nat) : Int) - (if 3 = y then 1 else 0) + (if 1 = y then 1 else 0) := fun y => by have := count_set Wk (a + k) 1 y hakW; rw [u3] at this; exact this
        have hpos : 1 ≤ Wk.count 3 := by have := count_pos Wk (a + k) hakW; rw [u3] at this; exact this
        have m0 := count_le Wk 0
        have m1 := count_le Wk 1
        have m2 := count_le Wk 2
        have m3 := count_le Wk 3
        obtain ⟨q0, e0⟩ : ∃ q : Int, q = ((Wk.count 0 : Nat) : Int) := ⟨_, rfl⟩
        obtain ⟨q1, e1⟩ : ∃ q : Int, q = ((Wk.count 1 : Nat) : Int) := ⟨_, rfl⟩
        obtain ⟨q2, e2⟩ : ∃ q : Int, q = ((Wk.count 2 : Nat) : Int) := ⟨_, rfl⟩
        obtain ⟨q3, e3⟩ : ∃ q : Int, q = ((Wk.count 3 : Nat) : Int) := ⟨_, rfl⟩
        unfold snF at hb
        rw [← e0, ← e1, ← e2, ← e3] at hb
        have r0 : 0 ≤ q0 ∧ q0 ≤ 65536 := by omega
        have r1 : 0 ≤ q1 ∧ q1 ≤ 65536 := by omega
        have r2 : 0 ≤ q2 ∧ q2 ≤ 65536 := by omega
        have r3 : 0 ≤ q3 ∧ q3 ≤ 65536 := by omega
        have hput := hA.put (k := a + k) (x := 1) hWl
        have hbp := hb.other tb (a + k) (.int .u8 ((1 : Nat) : Int)) ntg
        have hcp : Chg D w (wr.setCell ⟨tb, a + k, none⟩ (.int .u8 ((1 : Nat) : Int))) := hc.setD tb (a + k) _ (Or.inl (hA.dh tb rfl))
        rw [u3] at tcell
        have H2 : Hid _ := And.intro hput (And.intro hbp (And.intro hcp (And.intro hnx (And.intro hcnt (And.intro e0 (And.intro e1 (And.intro e2 e3)))))))
        clear hput hbp hcp hnx hcnt hb hA hc oh eat eWk c2 v3 e0 e1 e2 e3 m0 m1 m2 m3 hpos
        go_upto_region 5 with fail
        obtain ⟨X, eX⟩ : ∃ X, X = wr.setCell ⟨tb, a + k, none⟩ (.int .u8 1) := ⟨_, rfl⟩
        have hX : snB X g st vd (.slice (some ⟨tb, 0, none⟩) L tc) q0 q1 q2 q3 fin fi cr := by rw [eX]; exact H2.out.2.1
        have hXA : NA X D g base B (Wk.set (a + k) 1) vd (.slice (some ⟨tb, 0, none⟩) L tc) := by rw [eX]; exact H2.out.1
        have hXc : Chg D w X := by rw [eX]; exact H2.out.2.2.1
        rw [← eX]
        have x5 : X.cell? ⟨g, 7, none⟩ = some (.int .i64 q3) := (bk_cell hX 7).trans rfl
        have y5 : X.drew.cell? ⟨g, 7, none⟩ = some (.int .i64 q3) := x5
        have z5 : X.drew.frozen? ⟨g, 7, none⟩ = false := bk_free hX 7
        have hXg : g < X.heap.size := snB.lt hX
        have HX : Hid _ := And.intro hX (And.intro hXA hXc)
        clear hX hXA hXc eX d3 tcell tfro
        go_cut [8] from 34 to 43 (fun iv wx => iv = .int .i64 (k : Int) ∧ snB wx g st vd (.slice (some ⟨tb, 0, none⟩) L tc) q0 q1 q2 (q3 - 1) fin fi cr ∧ NA wx D g base B (Wk.set (a + k) 1) vd (.slice (some ⟨tb, 0, none⟩) L tc) ∧ Chg D w wx)
        case first =>
          go_region
          all_goals
            go_wp2_with fail
            go_meet
            exact ⟨rfl, bk_set HX.out.1 7 _, (HX.out.2.1.setG (own_gt HX.out.2.1.oh HX.out.1 (by decide)) (own_gt HX.out.2.1.od HX.out.1 (by decide)) 7 _).drewM 1, (HX.out.2.2.setD g 7 _ (Or.inl HX.out.2.1.dg)).drewD 1⟩
        case rest =>
          obtain ⟨rfl, hX, hXA, hXc⟩ := hcut
          clear x5 y5 z5 HX hXg
          have x5 : wc.cell? ⟨g, 5, none⟩ = some (.int .i64 q1) := (bk_cell hX 5).trans rfl
          have y5 : wc.drew.cell? ⟨g, 5, none⟩ = some (.int .i64 q1) := x5
          have z5 : wc.drew.frozen? ⟨g, 5, none⟩ = false := bk_free hX 5
          have hXg : g < wc.heap.size := snB.lt hX
          have HX : Hid _ := And.intro hX (And.intro hXA hXc)
          clear hX hXA hXc
          go_upto_region 6 with fail
          go_region
          go_wp2_with fail
          go_roundg (n - (k + 1))
          case measure => omega
          case rel =>
            obtain ⟨-, -, -, hnx, hcnt, e0, e1, e2, e3⟩ := H2.out
            have t0 : q0 = (((Wk.set (a + k) 1).count 0 : Nat) : Int) := by have t := hcnt 0; (repeat' split at t) <;> omega
            have t1 : q1 + 1 = (((Wk.set (a + k) 1).count 1 : Nat) : Int) := by have t := hcnt 1; (repeat' split at t) <;> omega
            have t2 : q2 = (((Wk.set (a + k) 1).count 2 : Nat) : Int) := by have t := hcnt 2; (repeat' split at t) <;> omega
            have t3 : (q3 - 1) = (((Wk.set (a + k) 1).count 3 : Nat) : Int) := by have t := hcnt 3; (repeat' split at t) <;> omega
            refine ⟨k + 1, by omega, rfl, by go_num, ?_, ?_, (HX.out.2.2.setD g 5 _ (Or.inl HX.out.2.1.dg)).drewD 1⟩
            · rw [← Nat.add_assoc, hnx]
              unfold snF
              rw [← t0, ← t1, ← t2, ← t3]
              exact bk_set HX.out.1 5 _
            · rw [← Nat.add_assoc, hnx]
              exact (HX.out.2.1.setG (own_gt HX.out.2.1.oh HX.out.1 (by decide)) (own_gt HX.out.2.1.od HX.out.1 (by decide)) 5 _).drewM 1
      exfalso
      omega
    · obtain rfl : k = n := by omega
      have H2 : Hid _ := And.intro hb (And.intro hA hc)
      clear hb hA hc
      go_wp2
      rw [show a + k = b by omega] at H2
      go_end0
      exact ⟨rfl, H2.out.1, H2.out.2.1, H2.out.2.2⟩
set_option maxRecDepth 20000 in
set_option maxHeartbeats 8000000 in
theorem settle2 (g base st a b fin L tb tc : Nat) (B : List Int) (W : List Nat) (vd : Value) (fi : Bool) (cr : Int) (D : Nat → Prop) (w : World) (hb : snF w g st W vd (.slice (some ⟨tb, 0, none⟩) L tc) fin fi cr) (hA : NA w D g base B W vd (.slice (some ⟨tb, 0, none⟩) L tc)) (eL : W.length = L) (hL : L ≤ 65536) (hab : a < b) (hbL : b ≤ L) (hLc : L ≤ tc) (h3 : ∀ p, W.getD p 0 ≤ 3) :
    Calls Tryd.prog 35 #[.pointer (some ⟨g, 0, none⟩), .int .i64 (a : Int), .int .i64 (b : Int), .int .u8 2] w fun e w' => e = .returned (.tuple #[]) ∧ snF w' g st (setN W a b 2) vd (.slice (some ⟨tb, 0, none⟩) L tc) fin fi cr ∧ NA w' D g base B (setN W a b 2) vd (.slice (some ⟨tb, 0, none⟩) L tc) ∧ Chg D w w' := by
  have d3 : w.cell? ⟨g, 3, none⟩ = some (.slice (some ⟨tb, 0, none⟩) L tc) := (bk_cell hb 3).trans rfl
  obtain ⟨n, en⟩ : ∃ n, n = b - a := ⟨_, rfl⟩
  have hnI : ((b : Int) - (a : Int)).toNat = n := by omega
  have hgl : g < w.heap.size := snB.lt hb
  have H0 : Hid _ := And.intro hb (And.intro hA (And.intro eL h3))
  have hta : ¬ (tc = a) := by omega
  clear hb hA eL h3
  go_enter Tryd.func35, Tryd.ntmps35
  go_wp2_with fail
  go_loopg [18] n (fun q i wr => ∃ k : Nat, k ≤ n ∧ q = n - k ∧ i = .int .i64 (k : Int) ∧ snF wr g st (setN W a (a + k) 2) vd (.slice (some ⟨tb, 0, none⟩) L tc) fin fi cr ∧ NA wr D g base B (setN W a (a + k) 2) vd (.slice (some ⟨tb, 0, none⟩) L tc) ∧ Chg D w wr)
  case atStart => exact ⟨0, by omega, by omega, rfl, by rw [Nat.add_zero, setN_empty]; exact H0.out.1, by rw [Nat.add_zero, setN_empty]; exact H0.out.2.1, chg_of_eq w⟩
  case round =>
    obtain ⟨k, hk, hq, rfl, hb, hA, hc⟩ := hrel
    by_cases hlt : k < n
    · have hkW : a + k < W.length := by have := H0.out.2.2.1; omega
      obtain ⟨Wk, eWk⟩ : ∃ Wk, Wk = setN W a (a + k) 2 := ⟨_, rfl⟩
      rw [← eWk] at hb hA
      have hWl : Wk.length = L := by rw [eWk, setN_length]; exact H0.out.2.2.1
      have oh := hA.oh
      rw [hWl] at oh
      obtain ⟨tb', tc', e1, tcell, tfro⟩ := row_fate oh hWl.symm (a + k) (by omega)
      simp only [Value.slice.injEq, Option.some.injEq, Addr.mk.injEq] at e1
      obtain ⟨⟨rfl, -, -⟩, -, rfl⟩ := e1
      have eat : Wk.getD (a + k) 0 = W.getD (a + k) 0 := by rw [eWk]; rw [setN_at _ _ _ _ _ hkW, if_neg (by omega)]
      have hnx := setN_next W a (a + k) 2 (by omega) hkW
      rw [← eWk, ← eat] at hnx
      have d3 : wr.cell? ⟨g, 3, none⟩ = some (.slice (some ⟨tb, 0, none⟩) L tc) := (bk_cell hb 3).trans rfl
      have v3 : Wk.getD (a + k) 0 ≤ 3 := by rw [eat]; exact H0.out.2.2.2 _
      have tlt : tb < wr.heap.size := (oh.lt tb rfl).2
      have ntg : tb ≠ g := own_gt oh hb (by decide) tb rfl
      have hgl : g < wr.heap.size := snB.lt hb
      have hakW : a + k < Wk.length := by omega
      by_cases c2 : Wk.getD (a + k) 0 = 2
      · rw [if_pos c2] at hnx
        rw [c2] at tcell
        have H2 : Hid _ := And.intro hb (And.intro hA (And.intro hc hnx))
        clear hb hA hc hnx oh eat eWk c2 v3
        go_wp2_with fail
        go_roundg (n - (k + 1))
        case measure => omega
        case rel => exact ⟨k + 1, by omega, rfl, by go_num, by rw [← Nat.add_assoc, H2.out.2.2.2]; exact H2.out.1, by rw [← Nat.add_assoc, H2.out.2.2.2]; exact H2.out.2.1, H2.out.2.2.1⟩
      rw [if_neg c2] at hnx
      by_cases u0 : Wk.getD (a + k) 0 = 0
      · have hcnt : ∀ y, (((Wk.set (a + k) 2).count y : Nat) : Int) = ((Wk.count y : Nat) : Int) - (if 0 = y then 1 else 0) + (if 2 = y then 1 else 0) := fun y => by have := count_set Wk (a + k) 2 y hakW; rw [u0] at this; exact this
        have hpos : 1 ≤ Wk.count 0 := by have := count_pos Wk (a + k) hakW; rw [u0] at this; exact this
        have m0 := count_le Wk 0
        have m1 := count_le Wk 1
        have m2 := count_le Wk 2
        have m3 := count_le Wk 3
        obtain ⟨q0, e0⟩ : ∃ q : Int, q = ((Wk.count 0 : Nat) : Int) := ⟨_, rfl⟩
        obtain ⟨q1, e1⟩ : ∃ q : Int, q = ((Wk.count 1 : Nat) : Int) := ⟨_, rfl⟩
        obtain ⟨q2, e2⟩ : ∃ q : Int, q = ((Wk.count 2 : Nat) : Int) := ⟨_, rfl⟩
        obtain ⟨q3, e3⟩ : ∃ q : Int, q = ((Wk.count 3 : Nat) : Int) := ⟨_, rfl⟩
        unfold snF at hb
        rw [← e0, ← e1, ← e2, ← e3] at hb
        have r0 : 0 ≤ q0 ∧ q0 ≤ 65536 := by omega
        have r1 : 0 ≤ q1 ∧ q1 ≤ 65536 := by omega
        have r2 : 0 ≤ q2 ∧ q2 ≤ 65536 := by omega
        have r3 : 0 ≤ q3 ∧ q3 ≤ 65536 := by omega
        have hput := hA.put (k := a + k) (x := 2) hWl
        have hbp := hb.other tb (a + k) (.int .u8 ((2 : Nat) : Int)) ntg
        have hcp : Chg D w (wr.setCell ⟨tb, a + k, none⟩ (.int .u8 ((2 : Nat) : Int))) := hc.setD tb (a + k) _ (Or.inl (hA.dh tb rfl))
        rw [u0] at tcell
        have H2 : Hid _ := And.intro hput (And.intro hbp (And.intro hcp (And.intro hnx (And.intro hcnt (And.intro e0 (And.intro e1 (And.intro e2 e3)))))))
        clear hput hbp hcp hnx hcnt hb hA hc oh eat eWk c2 v3 e0 e1 e2 e3 m0 m1 m2 m3 hpos
        go_upto_region 5 with fail
        obtain ⟨X, eX⟩ : ∃ X, X = wr.setCell ⟨tb, a + k, none⟩ (.int .u8 2) := ⟨_, rfl⟩
        have hX : snB X g st vd (.slice (some ⟨tb, 0, none⟩) L tc) q0 q1 q2 q3 fin fi cr := by rw [eX]; exact H2.out.2.1
        have hXA : NA X D g base B (Wk.set (a + k) 2) vd (.slice (some ⟨tb, 0, none⟩) L tc) := by rw [eX]; exact H2.out.1
        have hXc : Chg D w X := by rw [eX]; exact H2.out.2.2.1
        rw [← eX]
        have x5 : X.cell? ⟨g, 4, none⟩ = some (.int .i64 q0) := (bk_cell hX 4).trans rfl
        have y5 : X.drew.cell? ⟨g, 4, none⟩ = some (.int .i64 q0) := x5
        have z5 : X.drew.frozen? ⟨g, 4, none⟩ = false := bk_free hX 4
        have hXg : g < X.heap.size := snB.lt hX
        have HX : Hid _ := And.intro hX (And.intro hXA hXc)
        clear hX hXA hXc eX d3 tcell tfro
        go_cut [8] from 34 to 43 (fun iv wx => iv = .int .i64 (k : Int) ∧ snB wx g st vd (.slice (some ⟨tb, 0, none⟩) L tc) (q0 - 1) q1 q2 q3 fin fi cr ∧ NA wx D g base B (Wk.set (a + k) 2) vd (.slice (some ⟨tb, 0, none⟩) L tc) ∧ Chg D w wx)
        case first =>
          go_region
          all_goals
            go_wp2_with fail
            go_meet
            exact ⟨rfl, bk_set HX.out.1 4 _, (HX.out.2.1.setG (own_gt HX.out.2.1.oh HX.out.1 (by decide)) (own_gt HX.out.2.1.od HX.out.1 (by decide)) 4 _).drewM 1, (HX.out.2.2.setD g 4 _ (Or.inl HX.out.2.1.dg)).drewD 1⟩
        case rest =>
          obtain ⟨rfl, hX, hXA, hXc⟩ := hcut
          clear x5 y5 z5 HX hXg
          have x5 : wc.cell? ⟨g, 6, none⟩ = some (.int .i64 q2) := (bk_cell hX 6).trans rfl
          have y5 : wc.drew.cell? ⟨g, 6, none⟩ = some (.int .i64 q2) := x5
          have z5 : wc.drew.frozen? ⟨g, 6, none⟩ = false := bk_free hX 6
          have hXg : g < wc.heap.size := snB.lt hX
          have HX : Hid _ := And.intro hX (And.intro hXA hXc)
          clear hX hXA hXc
          go_upto_region 6 with fail
          go_region
          go_wp2_with fail
          go_roundg (n - (k + 1))
          case measure => omega
          case rel =>
            obtain ⟨-, -, -, hnx, hcnt, e0, e1, e2, e3⟩ := H2.out
            have t0 : (q0 - 1) = (((Wk.set (a + k) 2).count 0 : Nat) : Int) := by have t := hcnt 0; (repeat' split at t) <;> omega
            have t1 : q1 = (((Wk.set (a + k) 2).count 1 : Nat) : Int) := by have t := hcnt 1; (repeat' split at t) <;> omega
            have t2 : q2 + 1 = (((Wk.set (a + k) 2).count 2 : Nat) : Int) := by have t := hcnt 2; (repeat' split at t) <;> omega
            have t3 : q3 = (((Wk.set (a + k) 2).count 3 : Nat) : Int) := by have t := hcnt 3; (repeat' split at t) <;> omega
            refine ⟨k + 1, by omega, rfl, by go_num, ?_, ?_, (HX.out.2.2.setD g 6 _ (Or.inl HX.out.2.1.dg)).drewD 1⟩
            · rw [← Nat.add_assoc, hnx]
              unfold snF
              rw [← t0, ← t1, ← t2, ← t3]
              exact bk_set HX.out.1 6 _
            · rw [← Nat.add_assoc, hnx]
              exact (HX.out.2.1.setG (own_gt HX.out.2.1.oh HX.out.1 (by decide)) (own_gt HX.out.2.1.od HX.out.1 (by decide)) 6 _).drewM 1
      by_cases u1 : Wk.getD (a + k) 0 = 1
      · have hcnt : ∀ y, (((Wk.set (a + k) 2).count y : Nat) : Int) = ((Wk.count y : Nat) : Int) - (if 1 = y then 1 else 0) + (if 2 = y then 1 else 0) := fun y => by have := count_set Wk (a + k) 2 y hakW; rw [u1] at this; exact this
        have hpos : 1 ≤ Wk.count 1 := by have := count_pos Wk (a + k) hakW; rw [u1] at this; exact this
        have m0 := count_le Wk 0
        have m1 := count_le Wk 1
        have m2 := count_le Wk 2
        have m3 := count_le Wk 3
        obtain ⟨q0, e0⟩ : ∃ q : Int, q = ((Wk.count 0 : Nat) : Int) := ⟨_, rfl⟩
        obtain ⟨q1, e1⟩ : ∃ q : Int, q = ((Wk.count 1 : Nat) : Int) := ⟨_, rfl⟩
        obtain ⟨q2, e2⟩ : ∃ q : Int, q = ((Wk.count 2 : Nat) : Int) := ⟨_, rfl⟩
        obtain ⟨q3, e3⟩ : ∃ q : Int, q = ((Wk.count 3 : Nat) : Int) := ⟨_, rfl⟩
        unfold snF at hb
        rw [← e0, ← e1, ← e2, ← e3] at hb
        have r0 : 0 ≤ q0 ∧ q0 ≤ 65536 := by omega
        have r1 : 0 ≤ q1 ∧ q1 ≤ 65536 := by omega
        have r2 : 0 ≤ q2 ∧ q2 ≤ 65536 := by omega
        have r3 : 0 ≤ q3 ∧ q3 ≤ 65536 := by omega
        have hput := hA.put (k := a + k) (x := 2) hWl
        have hbp := hb.other tb (a + k) (.int .u8 ((2 : Nat) : Int)) ntg
        have hcp : Chg D w (wr.setCell ⟨tb, a + k, none⟩ (.int .u8 ((2 : Nat) : Int))) := hc.setD tb (a + k) _ (Or.inl (hA.dh tb rfl))
        rw [u1] at tcell
        have H2 : Hid _ := And.intro hput (And.intro hbp (And.intro hcp (And.intro hnx (And.intro hcnt (And.intro e0 (And.intro e1 (And.intro e2 e3)))))))
        clear hput hbp hcp hnx hcnt hb hA hc oh eat eWk c2 v3 e0 e1 e2 e3 m0 m1 m2 m3 hpos
        go_upto_region 5 with fail
        obtain ⟨X, eX⟩ : ∃ X, X = wr.setCell ⟨tb, a + k, none⟩ (.int .u8 2) := ⟨_, rfl⟩
        have hX : snB X g st vd (.slice (some ⟨tb, 0, none⟩) L tc) q0 q1 q2 q3 fin fi cr := by rw [eX]; exact H2.out.2.1
        have hXA : NA X D g base B (Wk.set (a + k) 2) vd (.slice (some ⟨tb, 0, none⟩) L tc) := by rw [eX]; exact H2.out.1
        have hXc : Chg D w X := by rw [eX]; exact H2.out.2.2.1
        rw [← eX]
        have x5 : X.cell? ⟨g, 5, none⟩ = some (.int .i64 q1) := (bk_cell hX 5).trans rfl
        have y5 : X.drew.cell? ⟨g, 5, none⟩ = some (.int .i64 q1) := x5
        have z5 : X.drew.frozen? ⟨g, 5, none⟩ = false := bk_free hX 5
        have hXg : g < X.heap.size := snB.lt hX
        have HX : Hid _ := And.intro hX (And.intro hXA hXc)
        clear hX hXA hXc eX d3 tcell tfro
        go_cut [8] from 34 to 43 (fun iv wx => iv = .int .i64 (k : Int) ∧ snB wx g st vd (.slice (some ⟨tb, 0, none⟩) L tc) q0 (q1 - 1) q2 q3 fin fi cr ∧ NA wx D g base B (Wk.set (a + k) 2) vd (.slice (some ⟨tb, 0, none⟩) L tc) ∧ Chg D w wx)
        case first =>
          go_region
          all_goals
            go_wp2_with fail
            go_meet
            exact ⟨rfl, bk_set HX.out.1 5 _, (HX.out.2.1.setG (own_gt HX.out.2.1.oh HX.out.1 (by decide)) (own_gt HX.out.2.1.od HX.out.1 (by decide)) 5 _).drewM 1, (HX.out.2.2.setD g 5 _ (Or.inl HX.out.2.1.dg)).drewD 1⟩
        case rest =>
          obtain ⟨rfl, hX, hXA, hXc⟩ := hcut
          clear x5 y5 z5 HX hXg
          have x5 : wc.cell? ⟨g, 6, none⟩ = some (.int .i64 q2) := (bk_cell hX 6).trans rfl
          have y5 : wc.drew.cell? ⟨g, 6, none⟩ = some (.int .i64 q2) := x5
          have z5 : wc.drew.frozen? ⟨g, 6, none⟩ = false := bk_free hX 6
          have hXg : g < wc.heap.size := snB.lt hX
          have HX : Hid _ := And.intro hX (And.intro hXA hXc)
          clear hX hXA hXc
          go_upto_region 6 with fail
          go_region
          go_wp2_with fail
          go_roundg (n - (k + 1))
          case measure => omega
          case rel =>
            obtain ⟨-, -, -, hnx, hcnt, e0, e1, e2, e3⟩ := H2.out
            have t0 : q0 = (((Wk.set (a + k) 2).count 0 : Nat) : Int) := by have t := hcnt 0; (repeat' split at t) <;> omega
            have t1 : (q1 - 1) = (((Wk.set (a + k) 2).count 1 : Nat) : Int) := by have t := hcnt 1; (repeat' split at t) <;> omega
            have t2 : q2 + 1 = (((Wk.set (a + k) 2).count 2 : Nat) : Int) := by have t := hcnt 2; (repeat' split at t) <;> omega
            have t3 : q3 = (((Wk.set (a + k) 2).count 3 : Nat) : Int) := by have t := hcnt 3; (repeat' split at t) <;> omega
            refine ⟨k + 1, by omega, rfl, by go_num, ?_, ?_, (HX.out.2.2.setD g 6 _ (Or.inl HX.out.2.1.dg)).drewD 1⟩
            · rw [← Nat.add_assoc, hnx]
              unfold snF
              rw [← t0, ← t1, ← t2, ← t3]
              exact bk_set HX.out.1 6 _
            · rw [← Nat.add_assoc, hnx]
              exact (HX.out.2.1.setG (own_gt HX.out.2.1.oh HX.out.1 (by decide)) (own_gt HX.out.2.1.od HX.out.1 (by decide)) 6 _).drewM 1
      by_cases u3 : Wk.getD (a + k) 0 = 3
      · have hcnt : ∀ y, (((Wk.set (a + k) 2).count y : Nat) : Int) = ((Wk.count y : Nat) : Int) - (if 3 = y then 1 else 0) + (if 2 = y then 1 else 0) := fun y => by have := count_set Wk (a + k) 2 y hakW; rw [u3] at this; exact this
        have hpos : 1 ≤ Wk.count 3 := by have := count_pos Wk (a + k) hakW; rw [u3] at this; exact this
        have m0 := count_le Wk 0
        have m1 := count_le Wk 1
        have m2 := count_le Wk 2
        have m3 := count_le Wk 3
        obtain ⟨q0, e0⟩ : ∃ q : Int, q = ((Wk.count 0 : Nat) : Int) := ⟨_, rfl⟩
        obtain ⟨q1, e1⟩ : ∃ q : Int, q = ((Wk.count 1 : Nat) : Int) := ⟨_, rfl⟩
        obtain ⟨q2, e2⟩ : ∃ q : Int, q = ((Wk.count 2 : Nat) : Int) := ⟨_, rfl⟩
        obtain ⟨q3, e3⟩ : ∃ q : Int, q = ((Wk.count 3 : Nat) : Int) := ⟨_, rfl⟩
        unfold snF at hb
        rw [← e0, ← e1, ← e2, ← e3] at hb
        have r0 : 0 ≤ q0 ∧ q0 ≤ 65536 := by omega
        have r1 : 0 ≤ q1 ∧ q1 ≤ 65536 := by omega
        have r2 : 0 ≤ q2 ∧ q2 ≤ 65536 := by omega
        have r3 : 0 ≤ q3 ∧ q3 ≤ 65536 := by omega
        have hput := hA.put (k := a + k) (x := 2) hWl
        have hbp := hb.other tb (a + k) (.int .u8 ((2 : Nat) : Int)) ntg
        have hcp : Chg D w (wr.setCell ⟨tb, a + k, none⟩ (.int .u8 ((2 : Nat) : Int))) := hc.setD tb (a + k) _ (Or.inl (hA.dh tb rfl))
        rw [u3] at tcell
        have H2 : Hid _ := And.intro hput (And.intro hbp (And.intro hcp (And.intro hnx (And.intro hcnt (And.intro e0 (And.intro e1 (And.intro e2 e3)))))))
        clear hput hbp hcp hnx hcnt hb hA hc oh eat eWk c2 v3 e0 e1 e2 e3 m0 m1 m2 m3 hpos
        go_upto_region 5 with fail
        obtain ⟨X, eX⟩ : ∃ X, X = wr.setCell ⟨tb, a + k, none⟩ (.int .u8 2) := ⟨_, rfl⟩
        have hX : snB X g st vd (.slice (some ⟨tb, 0, none⟩) L tc) q0 q1 q2 q3 fin fi cr := by rw [eX]; exact H2.out.2.1
        have hXA : NA X D g base B (Wk.set (a + k) 2) vd (.slice (some ⟨tb, 0, none⟩) L tc) := by rw [eX]; exact H2.out.1
        have hXc : Chg D w X := by rw [eX]; exact H2.out.2.2.1
        rw [← eX]
        have x5 : X.cell? ⟨g, 7, none⟩ = some (.int .i64 q3) := (bk_cell hX 7).trans rfl
        have y5 : X.drew.cell? ⟨g, 7, none⟩ = some (.int .i64 q3) := x5
        have z5 : X.drew.frozen? ⟨g, 7, none⟩ = false := bk_free hX 7
        have hXg : g < X.heap.size := snB.lt hX
        have HX : Hid _ := And.intro hX (And.intro hXA hXc)
        clear hX hXA hXc eX d3 tcell tfro
        go_cut [8] from 34 to 43 (fun iv wx => iv = .int .i64 (k : Int) ∧ snB wx g st vd (.slice (some ⟨tb, 0, none⟩) L tc) q0 q1 q2 (q3 - 1) fin fi cr ∧ NA wx D g base B (Wk.set (a + k) 2) vd (.slice (some ⟨tb, 0, none⟩) L tc) ∧ Chg D w wx)
        case first =>
          go_region
          all_goals
            go_wp2_with fail
            go_meet
            exact ⟨rfl, bk_set HX.out.1 7 _, (HX.out.2.1.setG (own_gt HX.out.2.1.oh HX.out.1 (by decide)) (own_gt HX.out.2.1.od HX.out.1 (by decide)) 7 _).drewM 1, (HX.out.2.2.setD g 7 _ (Or.inl HX.out.2.1.dg)).drewD 1⟩
        case rest =>
          obtain ⟨rfl, hX, hXA, hXc⟩ := hcut
          clear x5 y5 z5 HX hXg
          have x5 : wc.cell? ⟨g, 6, none⟩ = some (.int .i64 q2) := (bk_cell hX 6).trans rfl
          have y5 : wc.drew.cell? ⟨g, 6, none⟩ = some (.int .i64 q2) := x5
          have z5 : wc.drew.frozen? ⟨g, 6, none⟩ = false := bk_free hX 6
          have hXg : g < wc.heap.size := snB.lt hX
          have HX : Hid _ := And.intro hX (And.intro hXA hXc)
          clear hX hXA hXc
          go_upto_region 6 with fail
          go_region
          go_wp2_with fail
          go_roundg (n - (k + 1))
          case measure => omega
          case rel =>
            obtain ⟨-, -, -, hnx, hcnt, e0, e1, e2, e3⟩ := H2.out
            have t0 : q0 = (((Wk.set (a + k) 2).count 0 : Nat) : Int) := by have t := hcnt 0; (repeat' split at t) <;> omega
            have t1 : q1 = (((Wk.set (a + k) 2).count 1 : Nat) : Int) := by have t := hcnt 1; (repeat' split at t) <;> omega
            have t2 : q2 + 1 = (((Wk.set (a + k) 2).count 2 : Nat) : Int) := by have t := hcnt 2; (repeat' split at t) <;> omega
            have t3 : (q3 - 1) = (((Wk.set (a + k) 2).count 3 : Nat) : Int) := by have t := hcnt 3; (repeat' split at t) <;> omega
            refine ⟨k + 1, by omega, rfl, by go_num, ?_, ?_, (HX.out.2.2.setD g 6 _ (Or.inl HX.out.2.1.dg)).drewD 1⟩
            · rw [← Nat.add_assoc, hnx]
              unfold snF
              rw [← t0, ← t1, ← t2, ← t3]
              exact bk_set HX.out.1 6 _
            · rw [← Nat.add_assoc, hnx]
              exact (HX.out.2.1.setG (own_gt HX.out.2.1.oh HX.out.1 (by decide)) (own_gt HX.out.2.1.od HX.out.1 (by decide)) 6 _).drewM 1
      exfalso
      omega
    · obtain rfl : k = n := by omega
      have H2 : Hid _ := And.intro hb (And.intro hA hc)
      clear hb hA hc
      go_wp2
      rw [show a + k = b by omega] at H2
      go_end0
      exact ⟨rfl, H2.out.1, H2.out.2.1, H2.out.2.2⟩
set_option maxRecDepth 20000 in
set_option maxHeartbeats 8000000 in
theorem settle3 (g base st a b fin L tb tc : Nat) (B : List Int) (W : List Nat) (vd : Value) (fi : Bool) (cr : Int) (D : Nat → Prop) (w : World) (hb : snF w g st W vd (.slice (some ⟨tb, 0, none⟩) L tc) fin fi cr) (hA : NA w D g base B W vd (.slice (some ⟨tb, 0, none⟩) L tc)) (eL : W.length = L) (hL : L ≤ 65536) (hab : a < b) (hbL : b ≤ L) (hLc : L ≤ tc) (h3 : ∀ p, W.getD p 0 ≤ 3) :
    Calls Tryd.prog 35 #[.pointer (some ⟨g, 0, none⟩), .int .i64 (a : Int), .int .i64 (b : Int), .int .u8 3] w fun e w' => e = .returned (.tuple #[]) ∧ snF w' g st (setN W a b 3) vd (.slice (some ⟨tb, 0, none⟩) L tc) fin fi cr ∧ NA w' D g base B (setN W a b 3) vd (.slice (some ⟨tb, 0, none⟩) L tc) ∧ Chg D w w' := by
  have d3 : w.cell? ⟨g, 3, none⟩ = some (.slice (some ⟨tb, 0, none⟩) L tc) := (bk_cell hb 3).trans rfl
  obtain ⟨n, en⟩ : ∃ n, n = b - a := ⟨_, rfl⟩
  have hnI : ((b : Int) - (a : Int)).toNat = n := by omega
  have hgl : g < w.heap.size := snB.lt hb
  have H0 : Hid _ := And.intro hb (And.intro hA (And.intro eL h3))
  have hta : ¬ (tc = a) := by omega
  clear hb hA eL h3
  go_enter Tryd.func35, Tryd.ntmps35
  go_wp2_with fail
  go_loopg [18] n (fun q i wr => ∃ k : Nat, k ≤ n ∧ q = n - k ∧ i = .int .i64 (k : Int) ∧ snF wr g st (setN W a (a + k) 3) vd (.slice (some ⟨tb, 0, none⟩) L tc) fin fi cr ∧ NA wr D g base B (setN W a (a + k) 3) vd (.slice (some ⟨tb, 0, none⟩) L tc) ∧ Chg D w wr)
  case atStart => exact ⟨0, by omega, by omega, rfl, by rw [Nat.add_zero, setN_empty]; exact H0.out.1, by rw [Nat.add_zero, setN_empty]; exact H0.out.2.1, chg_of_eq w⟩
  case round =>
    obtain ⟨k, hk, hq, rfl, hb, hA, hc⟩ := hrel
    by_cases hlt : k < n
    · have hkW : a + k < W.length := by have := H0.out.2.2.1; omega
      obtain ⟨Wk, eWk⟩ : ∃ Wk, Wk = setN W a (a + k) 3 := ⟨_, rfl⟩
      rw [← eWk] at hb hA
      have hWl : Wk.length = L := by rw [eWk, setN_length]; exact H0.out.2.2.1
      have oh := hA.oh
      rw [hWl] at oh
      obtain ⟨tb', tc', e1, tcell, tfro⟩ := row_fate oh hWl.symm (a + k) (by omega)
      simp only [Value.slice.injEq, Option.some.injEq, Addr.mk.injEq] at e1
      obtain ⟨⟨rfl, -, -⟩, -, rfl⟩ := e1
      have eat : Wk.getD (a + k) 0 = W.getD (a + k) 0 := by rw [eWk]; rw [setN_at _ _ _ _ _ hkW, if_neg (by omega)]
      have hnx := setN_next W a (a + k) 3 (by omega) hkW
      rw [← eWk, ← eat] at hnx
      have d3 : wr.cell? ⟨g, 3, none⟩ = some (.slice (some ⟨tb, 0, none⟩) L tc) := (bk_cell hb 3).trans rfl
      have v3 : Wk.getD (a + k) 0 ≤ 3 := by rw [eat]; exact H0.out.2.2.2 _
      have tlt : tb < wr.heap.size := (oh.lt tb rfl).2
      have ntg : tb ≠ g := own_gt oh hb (by decide) tb rfl
      have hgl : g < wr.heap.size := snB.lt hb
      have hakW : a + k < Wk.length := by omega
      by_cases c2 : Wk.getD (a + k) 0 = 2
      · rw [if_pos c2] at hnx
        rw [c2] at tcell
        have H2 : Hid _ := And.intro hb (And.intro hA (And.intro hc hnx))
        clear hb hA hc hnx oh eat eWk c2 v3
        go_wp2_with fail
        go_roundg (n - (k + 1))
        case measure => omega
        case rel => exact ⟨k + 1, by omega, rfl, by go_num, by rw [← Nat.add_assoc, H2.out.2.2.2]; exact H2.out.1, by rw [← Nat.add_assoc, H2.out.2.2.2]; exact H2.out.2.1, H2.out.2.2.1⟩
      rw [if_neg c2] at hnx
      by_cases u0 : Wk.getD (a + k) 0 = 0
      · have hcnt : ∀ y, (((Wk.set (a + k) 3).count y : Nat) : Int) = ((Wk.count y : Nat) : Int) - (if 0 = y then 1 else 0) + (if 3 = y then 1 else 0) := fun y => by have := count_set Wk (a + k) 3 y hakW; rw [u0] at this; exact this
        have hpos : 1 ≤ Wk.count 0 := by have := count_pos Wk (a + k) hakW; rw [u0] at this; exact this
        have m0 := count_le Wk 0
        have m1 := count_le Wk 1
        have m2 := count_le Wk 2
        have m3 := count_le Wk 3
        obtain ⟨q0, e0⟩ : ∃ q : Int, q = ((Wk.count 0 : Nat) : Int) := ⟨_, rfl⟩
        obtain ⟨q1, e1⟩ : ∃ q : Int, q = ((Wk.count 1 : Nat) : Int) := ⟨_, rfl⟩
        obtain ⟨q2, e2⟩ : ∃ q : Int, q = ((Wk.count 2 : Nat) : Int) := ⟨_, rfl⟩
        obtain ⟨q3, e3⟩ : ∃ q : Int, q = ((Wk.count 3 : Nat) : Int) := ⟨_, rfl⟩
        unfold snF at hb
        rw [← e0, ← e1, ← e2, ← e3] at hb
        have r0 : 0 ≤ q0 ∧ q0 ≤ 65536 := by omega
        have r1 : 0 ≤ q1 ∧ q1 ≤ 65536 := by omega
        have r2 : 0 ≤ q2 ∧ q2 ≤ 65536 := by omega
        have r3 : 0 ≤ q3 ∧ q3 ≤ 65536 := by omega
        have hput := hA.put (k := a + k) (x := 3) hWl
        have hbp := hb.other tb (a + k) (.int .u8 ((3 : Nat) : Int)) ntg
        have hcp : Chg D w (wr.setCell ⟨tb, a + k, none⟩ (.int .u8 ((3 : Nat) : Int))) := hc.setD tb (a + k) _ (Or.inl (hA.dh tb rfl))
        rw [u0] at tcell
        have H2 : Hid _ := And.intro hput (And.intro hbp (And.intro hcp (And.intro hnx (And.intro hcnt (And.intro e0 (And.intro e1 (And.intro e2 e3)))))))
        clear hput hbp hcp hnx hcnt hb hA hc oh eat eWk c2 v3 e0 e1 e2 e3 m0 m1 m2 m3 hpos
        go_upto_region 5 with fail
        obtain ⟨X, eX⟩ : ∃ X, X = wr.setCell ⟨tb, a + k, none⟩ (.int .u8 3) := ⟨_, rfl⟩
        have hX : snB X g st vd (.slice (some ⟨tb, 0, none⟩) L tc) q0 q1 q2 q3 fin fi cr := by rw [eX]; exact H2.out.2.1
        have hXA : NA X D g base B (Wk.set (a + k) 3) vd (.slice (some ⟨tb, 0, none⟩) L tc) := by rw [eX]; exact H2.out.1
        have hXc : Chg D w X := by rw [eX]; exact H2.out.2.2.1
        rw [← eX]
        have x5 : X.cell? ⟨g, 4, none⟩ = some (.int .i64 q0) := (bk_cell hX 4).trans rfl
        have y5 : X.drew.cell? ⟨g, 4, none⟩ = some (.int .i64 q0) := x5
        have z5 : X.drew.frozen? ⟨g, 4, none⟩ = false := bk_free hX 4
        have hXg : g < X.heap.size := snB.lt hX
        have HX : Hid _ := And.intro hX (And.intro hXA hXc)
        clear hX hXA hXc eX d3 tcell tfro
        go_cut [8] from 34 to 43 (fun iv wx => iv = .int .i64 (k : Int) ∧ snB wx g st vd (.slice (some ⟨tb, 0, none⟩) L tc) (q0 - 1) q1 q2 q3 fin fi cr ∧ NA wx D g base B (Wk.set (a + k) 3) vd (.slice (some ⟨tb, 0, none⟩) L tc) ∧ Chg D w wx)
        case first =>
          go_region
          all_goals
            go_wp2_with fail
            go_meet
            exact ⟨rfl, bk_set HX.out.1 4 _, (HX.out.2.1.setG (own_gt HX.out.2.1.oh HX.out.1 (by decide)) (own_gt HX.out.2.1.od HX.out.1 (by decide)) 4 _).drewM 1, (HX.out.2.2.setD g 4 _ (Or.inl HX.out.2.1.dg)).drewD 1⟩
        case rest =>
          obtain ⟨rfl, hX, hXA, hXc⟩ := hcut
          clear x5 y5 z5 HX hXg
          have x5 : wc.cell? ⟨g, 7, none⟩ = some (.int .i64 q3) := (bk_cell hX 7).trans rfl
          have y5 : wc.drew.cell? ⟨g, 7, none⟩ = some (.int .i64 q3) := x5
          have z5 : wc.drew.frozen? ⟨g, 7, none⟩ = false := bk_free hX 7
          have hXg : g < wc.heap.size := snB.lt hX
          have HX : Hid _ := And.intro hX (And.intro hXA hXc)
          clear hX hXA hXc
          go_upto_region 6 with fail
          go_region
          go_wp2_with fail
          go_roundg (n - (k + 1))
          case measure => omega
          case rel =>
            obtain ⟨-, -, -, hnx, hcnt, e0, e1, e2, e3⟩ := H2.out
            have t0 : (q0 - 1) = (((Wk.set (a + k) 3).count 0 : Nat) : Int) := by have t := hcnt 0; (repeat' split at t) <;> omega
            have t1 : q1 = (((Wk.set (a + k) 3).count 1 : Nat) : Int) := by have t := hcnt 1; (repeat' split at t) <;> omega
            have t2 : q2 = (((Wk.set (a + k) 3).count 2 : Nat) : Int) := by have t := hcnt 2; (repeat' split at t) <;> omega
            have t3 : q3 + 1 = (((Wk.set (a + k) 3).count 3 : Nat) : Int) := by have t := hcnt 3; (repeat' split at t) <;> omega
            refine ⟨k + 1, by omega, rfl, by go_num, ?_, ?_, (HX.out.2.2.setD g 7 _ (Or.inl HX.out.2.1.dg)).drewD 1⟩
            · rw [← Nat.add_assoc, hnx]
              unfold snF
              rw [← t0, ← t1, ← t2, ← t3]
              exact bk_set HX.out.1 7 _
            · rw [← Nat.add_assoc, hnx]
              exact (HX.out.2.1.setG (own_gt HX.out.2.1.oh HX.out.1 (by decide)) (own_gt HX.out.2.1.od HX.out.1 (by decide)) 7 _).drewM 1
      by_cases u1 : Wk.getD (a + k) 0 = 1
      · have hcnt : ∀ y, (((Wk.set (a + k) 3).count y : Nat) : Int) = ((Wk.count y : Nat) : Int) - (if 1 = y then 1 else 0) + (if 3 = y then 1 else 0) := fun y => by have := count_set Wk (a + k) 3 y hakW; rw [u1] at this; exact this
        have hpos : 1 ≤ Wk.count 1 := by have := count_pos Wk (a + k) hakW; rw [u1] at this; exact this
        have m0 := count_le Wk 0
        have m1 := count_le Wk 1
        have m2 := count_le Wk 2
        have m3 := count_le Wk 3
        obtain ⟨q0, e0⟩ : ∃ q : Int, q = ((Wk.count 0 : Nat) : Int) := ⟨_, rfl⟩
        obtain ⟨q1, e1⟩ : ∃ q : Int, q = ((Wk.count 1 : Nat) : Int) := ⟨_, rfl⟩
        obtain ⟨q2, e2⟩ : ∃ q : Int, q = ((Wk.count 2 : Nat) : Int) := ⟨_, rfl⟩
        obtain ⟨q3, e3⟩ : ∃ q : Int, q = ((Wk.count 3 : Nat) : Int) := ⟨_, rfl⟩
        unfold snF at hb
        rw [← e0, ← e1, ← e2, ← e3] at hb
        have r0 : 0 ≤ q0 ∧ q0 ≤ 65536 := by omega
        have r1 : 0 ≤ q1 ∧ q1 ≤ 65536 := by omega
        have r2 : 0 ≤ q2 ∧ q2 ≤ 65536 := by omega
        have r3 : 0 ≤ q3 ∧ q3 ≤ 65536 := by omega
        have hput := hA.put (k := a + k) (x := 3) hWl
        have hbp := hb.other tb (a + k) (.int .u8 ((3 : Nat) : Int)) ntg
        have hcp : Chg D w (wr.setCell ⟨tb, a + k, none⟩ (.int .u8 ((3 : Nat) : Int))) := hc.setD tb (a + k) _ (Or.inl (hA.dh tb rfl))
        rw [u1] at tcell
        have H2 : Hid _ := And.intro hput (And.intro hbp (And.intro hcp (And.intro hnx (And.intro hcnt (And.intro e0 (And.intro e1 (And.intro e2 e3)))))))
        clear hput hbp hcp hnx hcnt hb hA hc oh eat eWk c2 v3 e0 e1 e2 e3 m0 m1 m2 m3 hpos
        go_upto_region 5 with fail
        obtain ⟨X, eX⟩ : ∃ X, X = wr.setCell ⟨tb, a + k, none⟩ (.int .u8 3) := ⟨_, rfl⟩
        have hX : snB X g st vd (.slice (some ⟨tb, 0, none⟩) L tc) q0 q1 q2 q3 fin fi cr := by rw [eX]; exact H2.out.2.1
        have hXA : NA X D g base B (Wk.set (a + k) 3) vd (.slice (some ⟨tb, 0, none⟩) L tc) := by rw [eX]; exact H2.out.1
        have hXc : Chg D w X := by rw [eX]; exact H2.out.2.2.1
        rw [← eX]
        have x5 : X.cell? ⟨g, 5, none⟩ = some (.int .i64 q1) := (bk_cell hX 5).trans rfl
        have y5 : X.drew.cell? ⟨g, 5, none⟩ = some (.int .i64 q1) := x5
        have z5 : X.drew.frozen? ⟨g, 5, none⟩ = false := bk_free hX 5
        have hXg : g < X.heap.size := snB.lt hX
        have HX : Hid _ := And.intro hX (And.intro hXA hXc)
        clear hX hXA hXc eX d3 tcell tfro
        go_cut [8] from 34 to 43 (fun iv wx => iv = .int .i64 (k : Int) ∧ snB wx g st vd (.slice (some ⟨tb, 0, none⟩) L tc) q0 (q1 - 1) q2 q3 fin fi cr ∧ NA wx D g base B (Wk.set (a + k) 3) vd (.slice (some ⟨tb, 0, none⟩) L tc) ∧ Chg D w wx)
        case first =>
          go_region
          all_goals
            go_wp2_with fail
            go_meet
            exact ⟨rfl, bk_set HX.out.1 5 _, (HX.out.2.1.setG (own_gt HX.out.2.1.oh HX.out.1 (by decide)) (own_gt HX.out.2.1.od HX.out.1 (by decide)) 5 _).drewM 1, (HX.out.2.2.setD g 5 _ (Or.inl HX.out.2.1.dg)).drewD 1⟩
        case rest =>
          obtain ⟨rfl, hX, hXA, hXc⟩ := hcut
          clear x5 y5 z5 HX hXg
          have x5 : wc.cell? ⟨g, 7, none⟩ = some (.int .i64 q3) := (bk_cell hX 7).trans rfl
          have y5 : wc.drew.cell? ⟨g, 7, none⟩ = some (.int .i64 q3) := x5
          have z5 : wc.drew.frozen? ⟨g, 7, none⟩ = false := bk_free hX 7
          have hXg : g < wc.heap.size := snB.lt hX
          have HX : Hid _ := And.intro hX (And.intro hXA hXc)
          clear hX hXA hXc
          go_upto_region 6 with fail
          go_region
          go_wp2_with fail
          go_roundg (n - (k + 1))
          case measure => omega
          case rel =>
            obtain ⟨-, -, -, hnx, hcnt, e0, e1, e2, e3⟩ := H2.out
            have t0 : q0 = (((Wk.set (a + k) 3).count 0 : Nat) : Int) := by have t := hcnt 0; (repeat' split at t) <;> omega
            have t1 : (q1 - 1) = (((Wk.set (a + k) 3).count 1 : Nat) : Int) := by have t := hcnt 1; (repeat' split at t) <;> omega
            have t2 : q2 = (((Wk.set (a + k) 3).count 2 : Nat) : Int) := by have t := hcnt 2; (repeat' split at t) <;> omega
            have t3 : q3 + 1 = (((Wk.set (a + k) 3).count 3 : Nat) : Int) := by have t := hcnt 3; (repeat' split at t) <;> omega
            refine ⟨k + 1, by omega, rfl, by go_num, ?_, ?_, (HX.out.2.2.setD g 7 _ (Or.inl HX.out.2.1.dg)).drewD 1⟩
            · rw [← Nat.add_assoc, hnx]
              unfold snF
              rw [← t0, ← t1, ← t2, ← t3]
              exact bk_set HX.out.1 7 _
            · rw [← Nat.add_assoc, hnx]
              exact (HX.out.2.1.setG (own_gt HX.out.2.1.oh HX.out.1 (by decide)) (own_gt HX.out.2.1.od HX.out.1 (by decide)) 7 _).drewM 1
      by_cases u3 : Wk.getD (a + k) 0 = 3
      · have hcnt : ∀ y, (((Wk.set (a + k) 3).count y : Nat) : Int) = ((Wk.count y : Nat) : Int) - (if 3 = y then 1 else 0) + (if 3 = y then 1 else 0) := fun y => by have := count_set Wk (a + k) 3 y hakW; rw [u3] at this; exact this
        have hpos : 1 ≤ Wk.count 3 := by have := count_pos Wk (a + k) hakW; rw [u3] at this; exact this
        have m0 := count_le Wk 0
        have m1 := count_le Wk 1
        have m2 := count_le Wk 2
        have m3 := count_le Wk 3
        obtain ⟨q0, e0⟩ : ∃ q : Int, q = ((Wk.count 0 : Nat) : Int) := ⟨_, rfl⟩
        obtain ⟨q1, e1⟩ : ∃ q : Int, q = ((Wk.count 1 : Nat) : Int) := ⟨_, rfl⟩
        obtain ⟨q2, e2⟩ : ∃ q : Int, q = ((Wk.count 2 : Nat) : Int) := ⟨_, rfl⟩
        obtain ⟨q3, e3⟩ : ∃ q : Int, q = ((Wk.count 3 : Nat) : Int) := ⟨_, rfl⟩
        unfold snF at hb
        rw [← e0, ← e1, ← e2, ← e3] at hb
        have r0 : 0 ≤ q0 ∧ q0 ≤ 65536 := by omega
        have r1 : 0 ≤ q1 ∧ q1 ≤ 65536 := by omega
        have r2 : 0 ≤ q2 ∧ q2 ≤ 65536 := by omega
        have r3 : 0 ≤ q3 ∧ q3 ≤ 65536 := by omega
        have hput := hA.put (k := a + k) (x := 3) hWl
        have hbp := hb.other tb (a + k) (.int .u8 ((3 : Nat) : Int)) ntg
        have hcp : Chg D w (wr.setCell ⟨tb, a + k, none⟩ (.int .u8 ((3 : Nat) : Int))) := hc.setD tb (a + k) _ (Or.inl (hA.dh tb rfl))
        rw [u3] at tcell
        have H2 : Hid _ := And.intro hput (And.intro hbp (And.intro hcp (And.intro hnx (And.intro hcnt (And.intro e0 (And.intro e1 (And.intro e2 e3)))))))
        clear hput hbp hcp hnx hcnt hb hA hc oh eat eWk c2 v3 e0 e1 e2 e3 m0 m1 m2 m3 hpos
        go_upto_region 5 with fail
        obtain ⟨X, eX⟩ : ∃ X, X = wr.setCell ⟨tb, a + k, none⟩ (.int .u8 3) := ⟨_, rfl⟩
        have hX : snB X g st vd (.slice (some ⟨tb, 0, none⟩) L tc) q0 q1 q2 q3 fin fi cr := by rw [eX]; exact H2.out.2.1
        have hXA : NA X D g base B (Wk.set (a + k) 3) vd (.slice (some ⟨tb, 0, none⟩) L tc) := by rw [eX]; exact H2.out.1
        have hXc : Chg D w X := by rw [eX]; exact H2.out.2.2.1
        rw [← eX]
        have x5 : X.cell? ⟨g, 7, none⟩ = some (.int .i64 q3) := (bk_cell hX 7).trans rfl
        have y5 : X.drew.cell? ⟨g, 7, none⟩ = some (.int .i64 q3) := x5
        have z5 : X.drew.frozen? ⟨g, 7, none⟩ = false := bk_free hX 7
        have hXg : g < X.heap.size := snB.lt hX
        have HX : Hid _ := And.intro hX (And.intro hXA hXc)
        clear hX hXA hXc eX d3 tcell tfro
        go_cut [8] from 34 to 43 (fun iv wx => iv = .int .i64 (k : Int) ∧ snB wx g st vd (.slice (some ⟨tb, 0, none⟩) L tc) q0 q1 q2 (q3 - 1) fin fi cr ∧ NA wx D g base B (Wk.set (a + k) 3) vd (.slice (some ⟨tb, 0, none⟩) L tc) ∧ Chg D w wx)
        case first =>
          go_region
          all_goals
            go_wp2_with fail
            go_meet
            exact ⟨rfl, bk_set HX.out.1 7 _, (HX.out.2.1.setG (own_gt HX.out.2.1.oh HX.out.1 (by decide)) (own_gt HX.out.2.1.od HX.out.1 (by decide)) 7 _).drewM 1, (HX.out.2.2.setD g 7 _ (Or.inl HX.out.2.1.dg)).drewD 1⟩
        case rest =>
          obtain ⟨rfl, hX, hXA, hXc⟩ := hcut
          clear x5 y5 z5 HX hXg
          have x5 : wc.cell? ⟨g, 7, none⟩ = some (.int .i64 (q3 - 1)) := (bk_cell hX 7).trans rfl
          have y5 : wc.drew.cell? ⟨g, 7, none⟩ = some (.int .i64 (q3 - 1)) := x5
          have z5 : wc.drew.frozen? ⟨g, 7, none⟩ = false := bk_free hX 7
          have hXg : g < wc.heap.size := snB.lt hX
          have HX : Hid _ := And.intro hX (And.intro hXA hXc)
          clear hX hXA hXc
          go_upto_region 6 with fail
          go_region
          go_wp2_with fail
          go_roundg (n - (k + 1))
          case measure => omega
          case rel =>
            obtain ⟨-, -, -, hnx, hcnt, e0, e1, e2, e3⟩ := H2.out
            have t0 : q0 = (((Wk.set (a + k) 3).count 0 : Nat) : Int) := by have t := hcnt 0; (repeat' split at t) <;> omega
            have t1 : q1 = (((Wk.set (a + k) 3).count 1 : Nat) : Int) := by have t := hcnt 1; (repeat' split at t) <;> omega
            have t2 : q2 = (((Wk.set (a + k) 3).count 2 : Nat) : Int) := by have t := hcnt 2; (repeat' split at t) <;> omega
            have t3 : q3 = (((Wk.set (a + k) 3).count 3 : Nat) : Int) := by have t := hcnt 3; (repeat' split at t) <;> omega
            refine ⟨k + 1, by omega, rfl, by go_num, ?_, ?_, (HX.out.2.2.setD g 7 _ (Or.inl HX.out.2.1.dg)).drewD 1⟩
            · rw [← Nat.add_assoc, hnx]
              unfold snF
              rw [← t0, ← t1, ← t2, ← t3]
              exact bk_set HX.out.1 7 _
            · rw [← Nat.add_assoc, hnx]
              exact (HX.out.2.1.setG (own_gt HX.out.2.1.oh HX.out.1 (by decide)) (own_gt HX.out.2.1.od HX.out.1 (by decide)) 7 _).drewM 1
      exfalso
      omega
    · obtain rfl : k = n := by omega
      have H2 : Hid _ := And.intro hb (And.intro hA hc)
      clear hb hA hc
      go_wp2
      rw [show a + k = b by omega] at H2
      go_end0
      exact ⟨rfl, H2.out.1, H2.out.2.1, H2.out.2.2⟩
/-- What settle does. -/
theorem settleP (g base a b x : Nat) (m : SS) (D : Nat → Prop) (w : World) (hR : PRep w D g base m) (hl : m.W.length ≤ 65536) (hab : a ≤ b) (hbl : b ≤ m.W.length) (hx : x = 1 ∨ x = 2 ∨ x = 3) (h3 : ∀ p, m.W.getD p 0 ≤ 3) :
    Calls Tryd.prog 35 #[.pointer (some ⟨g, 0, none⟩), .int .i64 (a : Int), .int .i64 (b : Int), .int .u8 (x : Int)] w fun e w' => e = .returned (.tuple #[]) ∧ PRep w' D g base { m with W := setN m.W a b x } ∧ Chg D w w' := by
  obtain ⟨vd, vh, hb, hA⟩ := hR
  by_cases e : a = b
  · subst e
    rw [setN_empty]
    have key : ∃ ao cap, vh = .slice ao m.W.length cap ∧ m.W.length ≤ cap ∧ (ao = none → cap = 0) ∧ (∀ p, ao = some p → p.off = 0 ∧ p.spot = none) := by
      rcases hA.oh.2 with ⟨rfl, h1⟩ | ⟨g', cap, cur, rfl, _, _, hnc, _⟩
      · exact ⟨none, 0, by rw [h1], by omega, fun _ => rfl, (fun p hp => nomatch hp)⟩
      · exact ⟨_, cap, rfl, hnc, (fun h => nomatch h), fun p hp => by cases hp; exact ⟨rfl, rfl⟩⟩
    obtain ⟨ao, cap, rfl, k1, k2, k3⟩ := key
    refine (settle0 g m.st a x m.W.length cap m.fin ao vd _ _ _ _ m.credit m.finish w hb hl hbl k1 k2 k3).mono ?_
    rintro e w' ⟨rfl, hw⟩
    rw [hw]
    exact ⟨rfl, ⟨vd, _, hb, hA⟩, chg_of_eq _⟩
  · have key : ∃ tb tc, vh = .slice (some ⟨tb, 0, none⟩) m.W.length tc ∧ m.W.length ≤ tc := by
      rcases hA.oh.2 with ⟨rfl, h1⟩ | ⟨g', cap, cur, rfl, _, _, hnc, _⟩
      · omega
      · exact ⟨g', cap, rfl, hnc⟩
    obtain ⟨tb, tc, rfl, k1⟩ := key
    rcases hx with rfl | rfl | rfl
    · refine (settle1 g base m.st a b m.fin m.W.length tb tc m.B m.W vd m.finish m.credit D w hb hA rfl hl (by omega) hbl k1 h3).mono ?_
      rintro e w' ⟨rfl, h1, h2, h3⟩
      exact ⟨rfl, ⟨vd, _, h1, h2⟩, h3⟩
    · refine (settle2 g base m.st a b m.fin m.W.length tb tc m.B m.W vd m.finish m.credit D w hb hA rfl hl (by omega) hbl k1 h3).mono ?_
      rintro e w' ⟨rfl, h1, h2, h3⟩
      exact ⟨rfl, ⟨vd, _, h1, h2⟩, h3⟩
    · refine (settle3 g base m.st a b m.fin m.W.length tb tc m.B m.W vd m.finish m.credit D w hb hA rfl hl (by omega) hbl k1 h3).mono ?_
      rintro e w' ⟨rfl, h1, h2, h3⟩
      exact ⟨rfl, ⟨vd, _, h1, h2⟩, h3⟩
end Go.Proofs.YtpdclbfjngmppaaDoor

namespace Go.Proofs.YtpdclbfjngmppaaDoor
open Go.RowKit
set_option linter.unusedVariables false
set_option linter.unusedSimpArgs false

set_option maxRecDepth 20000 in
theorem indexF (tb L tc A : Nat) (W : List Nat) (w : World) (hc : ∀ p, p < L → w.cell? ⟨tb, p, none⟩ = some (.int .u8 ((W.getD p 0 : Nat) : Int))) (hA : A < L) (hL : L ≤ 65536) (h1 : ∀ p, p < A → W.getD p 0 ≠ 3) (h2 : W.getD A 0 = 3) :
    Calls Tryd.prog 40 #[.slice (some ⟨tb, 0, none⟩) L tc, .int .u8 3] w fun e w' => e = .returned (.int .i64 (A : Int)) ∧ w' = w := by
  have H0 : Hid _ := And.intro hc (And.intro h1 h2)
  clear hc h1 h2
  go_enter Tryd.func40, Tryd.ntmps40
  go_wp2
  go_loop [8] (fun i => ∃ k : Nat, k ≤ A ∧ i = .int .i64 k) (fun i => A + 1 - (intOf i).toNat)
  case atStart => exact ⟨0, Nat.zero_le _, rfl⟩
  case round =>
    obtain ⟨k, hk, rfl⟩ := hrel
    by_cases hkA : k = A
    · subst hkA
      have ck : w.cell? ⟨tb, k, none⟩ = some (.int .u8 3) := by rw [H0.out.1 k (by omega), H0.out.2.2]; rfl
      go_wp2
      go_ret
      exact ⟨rfl, rfl⟩
    · have cj := H0.out.1 k (by omega)
      have e3 := H0.out.2.1 k (by omega)
      have ne : ((3 : Int) == ((W.getD k 0 : Nat) : Int)) = false := by rw [beq_eq_false_iff_ne]; intro q; exact e3 (by omega)
      obtain ⟨x, ex⟩ : ∃ x : Int, x = ((W.getD k 0 : Nat) : Int) := ⟨_, rfl⟩
      rw [← ex] at cj ne
      clear ex e3
      go_wp2
      go_round
      case rel => exact ⟨k + 1, by omega, by go_num⟩
      case measure => simp [intOf]; omega
set_option maxRecDepth 20000 in
set_option maxHeartbeats 4000000 in
theorem np_lost (g st L A K n tb tc : Nat) (vd : Value) (c0 c1 c2 c3 cr : Int) (fin : Nat) (fi : Bool) (W : List Nat) (w : World) (hb : snB w g st vd (.slice (some ⟨tb, 0, none⟩) L tc) c0 c1 c2 c3 fin fi cr) (h0 : 0 < c3)
    (hc : ∀ p, p < L → w.cell? ⟨tb, p, none⟩ = some (.int .u8 ((W.getD p 0 : Nat) : Int))) (hL : L ≤ 65536) (hA : A < L) (h1 : ∀ p, p < A → W.getD p 0 ≠ 3) (h2 : W.getD A 0 = 3)
    (hK : K ≤ n) (hn : n ≤ 1500) (h3 : ∀ i, i < K → W.getD (A + i) 0 = 3) (h4 : K = n ∨ W.getD (A + K) 0 ≠ 3) (h5 : A + K ≤ L) :
    Calls Tryd.prog 34 #[.pointer (some ⟨g, 0, none⟩), .int .i64 (n : Int)] w fun e w' => e = .returned (.tuple #[.int .i64 (A : Int), .int .i64 ((A + K : Nat) : Int), .bool true]) ∧ w' = w := by
  have C := indexF tb L tc A W w hc hA hL h1 h2
  have d3 : w.cell? ⟨g, 3, none⟩ = some (.slice (some ⟨tb, 0, none⟩) L tc) := (bk_cell hb 3).trans rfl
  have d7 : w.cell? ⟨g, 7, none⟩ = some (.int .i64 c3) := (bk_cell hb 7).trans rfl
  have H0 : Hid _ := And.intro C (And.intro hc (And.intro h3 h4))
  clear C hb hc h1 h2 h3 h4
  go_enter Tryd.func34, Tryd.ntmps34
  go_wp2_with (go_at_call 40; refine H0.out.1.mono ?_; rintro e w' ⟨rfl, hw⟩; subst w')
  go_loop [8] (fun q => ∃ j : Nat, j ≤ K ∧ q = .int .i64 ((A + j : Nat) : Int)) (fun q => A + K + 1 - (intOf q).toNat)
  case atStart => exact ⟨0, Nat.zero_le _, rfl⟩
  case round =>
    obtain ⟨j, hj, rfl⟩ := hrel
    by_cases hjK : j < K
    · have cj : w.cell? ⟨tb, A + j, none⟩ = some (.int .u8 3) := by rw [H0.out.2.1 (A + j) (by omega), H0.out.2.2.1 j hjK]; rfl
      go_wp2
      go_round
      case rel => exact ⟨j + 1, by omega, by go_num⟩
      case measure => simp [intOf]; omega
    · obtain rfl : j = K := by omega
      by_cases e1 : A + j < L
      · by_cases e2 : j < n
        · have e3 : W.getD (A + j) 0 ≠ 3 := H0.out.2.2.2.resolve_left (by omega)
          have cj := H0.out.2.1 (A + j) (by omega)
          have ne : (((W.getD (A + j) 0 : Nat) : Int) == 3) = false := by rw [beq_eq_false_iff_ne]; intro q; exact e3 (by omega)
          obtain ⟨x, ex⟩ : ∃ x : Int, x = ((W.getD (A + j) 0 : Nat) : Int) := ⟨_, rfl⟩
          rw [← ex] at cj ne
          clear ex e3
          go_wp2
          go_ret3
          exact ⟨rfl, rfl⟩
        · go_wp2
          go_ret3
          exact ⟨rfl, rfl⟩
      · go_wp2
        go_ret3
        exact ⟨rfl, rfl⟩
theorem drewsD {w : World} (n : Nat) : ∃ q, w.drew.drewN n = w.drewN q := ⟨n + 1, by induction n with
  | zero => rfl
  | succ n ih => show (w.drew.drewN n).drew = (w.drewN (n + 1)).drew; rw [ih]⟩
theorem drewsE {w : World} (n m : Nat) : ∃ q, (w.drewN n).drewN m = w.drewN q := ⟨n + m, by induction m with
  | zero => rfl
  | succ m ih => show ((w.drewN n).drewN m).drew = (w.drewN (n + m)).drew; rw [ih]⟩
theorem drewsT {w x : World} (h : ∃ q, x = w.drewN q) (m : Nat) : ∃ q, x.drewN m = w.drewN q := by
  obtain ⟨n, rfl⟩ := h
  exact drewsE n m
set_option maxRecDepth 20000 in
set_option maxHeartbeats 4000000 in
/-- Where none is lost: what nextPiece answers. -/
theorem np_rest (g st L N n : Nat) (da : Option Addr) (dc : Nat) (vh : Value) (c0 c1 c2 cr : Int) (fin : Nat) (fi : Bool) (w : World) (hb : snB w g st (.slice da L dc) vh c0 c1 c2 0 fin fi cr) (hL : L ≤ 65536) (hN : N ≤ L) (hc0 : c0 = (L : Int) - N) (hn : n ≤ 1500) (h0 : 0 ≤ cr) (hcr : cr ≤ 9223372036854775807) (hf : fin ≤ 3) :
    Calls Tryd.prog 34 #[.pointer (some ⟨g, 0, none⟩), .int .i64 (n : Int)] w fun e w' => e = .returned (if (N : Int) < min cr L then .tuple #[.int .i64 (N : Int), .int .i64 (min (min cr L) ((N + n : Nat) : Int)), .bool true] else .tuple #[.int .i64 (L : Int), .int .i64 (L : Int), .bool (decide (fi = true ∧ N = L ∧ (fin = 0 ∨ fin = 3)))]) ∧ ∃ q, w' = w.drewN q := by
  have C : ∀ u : World, snB u g st (.slice da L dc) vh c0 c1 c2 0 fin fi cr → Calls Tryd.prog 38 #[.pointer (some ⟨g, 0, none⟩)] u fun e w' => e = .returned (.int .i64 (N : Int)) ∧ ∃ q, w' = u.drewN q := fun u hu => (begunI g st L dc da vh c0 c1 c2 0 cr fin fi u hu hL (by omega) (by omega)).mono (by rintro e w' ⟨rfl, hq⟩; exact ⟨by rw [hc0]; congr 2; omega, hq⟩)
  have d2 : w.cell? ⟨g, 2, none⟩ = some (.slice da L dc) := (bk_cell hb 2).trans rfl
  have d7 : w.cell? ⟨g, 7, none⟩ = some (.int .i64 0) := (bk_cell hb 7).trans rfl
  have d10 : w.cell? ⟨g, 10, none⟩ = some (.int .i64 cr) := (bk_cell hb 10).trans rfl
  have d2d : w.drew.cell? ⟨g, 2, none⟩ = some (.slice da L dc) := d2
  obtain ⟨M, eM⟩ : ∃ M, M = min cr (L : Int) := ⟨_, rfl⟩
  have H0 : Hid _ := And.intro C hb
  rw [← eM]
  obtain ⟨R, eR⟩ : ∃ R, R = (if (N : Int) < M then Value.tuple #[.int .i64 (N : Int), .int .i64 (min M ((N + n : Nat) : Int)), .bool true] else .tuple #[.int .i64 (L : Int), .int .i64 (L : Int), .bool (decide (fi = true ∧ N = L ∧ (fin = 0 ∨ fin = 3)))]) := ⟨_, rfl⟩
  rw [← eR]
  have ER : Hid _ := And.intro eR True.intro
  clear C hb hc0 eR
  go_enter Tryd.func34, Tryd.ntmps34
  go_upto_region 7 with fail
  go_cut [9, 10] from 52 to 63 (fun v9 v10 wx => v9 = .int .i64 (N : Int) ∧ v10 = .int .i64 M ∧ ∃ q, wx = w.drewN q)
  case first =>
    have CD : ∀ q, Calls Tryd.prog 38 #[.pointer (some ⟨g, 0, none⟩)] (w.drewN q) fun e w' => e = .returned (.int .i64 (N : Int)) ∧ ∃ m, w' = (w.drewN q).drewN m := fun q => H0.out.1 (w.drewN q) H0.out.2
    have HC : Hid _ := And.intro CD True.intro
    have eM' : Hid _ := And.intro eM True.intro
    clear CD d7 eM
    go_quiet (first | (go_at_call 38; exact Calls.quiet_of (HC.out.1 _)))
    go_wp2_with fail
    go_meet
    exact ⟨rfl, by rw [eM'.out.1, Int.min_comm], _, rfl⟩
  case rest =>
  obtain ⟨rfl, rfl, hw⟩ := hcut
  have hw' : Hid _ := And.intro hw True.intro
  have f2 : wc.cell? ⟨g, 2, none⟩ = some (.slice da L dc) := by obtain ⟨q, rfl⟩ := hw; exact d2
  have hbc : snB wc g st (.slice da L dc) vh c0 c1 c2 0 fin fi cr := by obtain ⟨q, rfl⟩ := hw; exact H0.out.2
  clear hw d2 d7 d10 d2d eM
  by_cases c : (N : Int) < M
  · have eR := ER.out.1
    rw [if_pos c] at eR
    have EP : Hid _ := And.intro eR True.intro
    clear hbc ER eR
    have e : min M ((N + n : Nat) : Int) = min ((N : Int) + n) M := by omega
    rw [e] at EP
    clear e
    go_wp2
    go_ret3
    exact ⟨by rw [EP.out.1]; rfl, hw'.out.1⟩
  · have eR := ER.out.1
    rw [if_neg c] at eR
    have EP : Hid _ := And.intro eR True.intro
    have g9 : wc.cell? ⟨g, 9, none⟩ = some (.bool fi) := (bk_cell hbc 9).trans rfl
    have g8 : wc.cell? ⟨g, 8, none⟩ = some (.int .u8 (fin : Int)) := (bk_cell hbc 8).trans rfl
    have CD : ∀ q, Calls Tryd.prog 38 #[.pointer (some ⟨g, 0, none⟩)] (wc.drewN q) fun e w' => e = .returned (.int .i64 (N : Int)) ∧ ∃ m, w' = (wc.drewN q).drewN m := fun q => H0.out.1 (wc.drewN q) hbc
    have HC : Hid _ := And.intro CD hbc
    clear CD hbc ER eR
    go_upto_region 11 with fail
    cases fi
    · rw [decide_eq_false (by simp)] at EP
      go_quiet (fail)
      go_wp2_with fail
      go_ret3
      exact ⟨by rw [EP.out.1]; rfl, drewsT hw'.out.1 _⟩
    · by_cases e1 : N = L
      · subst e1
        by_cases e2 : fin = 0
        · subst e2
          rw [decide_eq_true ⟨rfl, rfl, Or.inl rfl⟩] at EP
          go_quiet (first | (go_at_call 38; exact Calls.quiet_of (HC.out.1 _)))
          go_wp2_with fail
          go_ret3
          exact ⟨by rw [EP.out.1]; rfl, drewsT hw'.out.1 _⟩
        · by_cases e3 : fin = 3
          · subst e3
            rw [decide_eq_true ⟨rfl, rfl, Or.inr rfl⟩] at EP
            go_quiet (first | (go_at_call 38; exact Calls.quiet_of (HC.out.1 _)))
            go_wp2_with fail
            go_ret3
            exact ⟨by rw [EP.out.1]; rfl, drewsT hw'.out.1 _⟩
          · rw [decide_eq_false (by rintro ⟨_, _, h | h⟩ <;> contradiction)] at EP
            have z0 : ((fin : Int) == 0) = false := by simp; omega
            have z3 : ((fin : Int) == 3) = false := by simp; omega
            go_quiet (first | (go_at_call 38; exact Calls.quiet_of (HC.out.1 _)))
            go_wp2_with fail
            go_ret3
            exact ⟨by rw [EP.out.1]; rfl, drewsT hw'.out.1 _⟩
      · rw [decide_eq_false (fun h => e1 h.2.1)] at EP
        have z1 : ((N : Int) == (L : Int)) = false := by simp; omega
        go_quiet (first | (go_at_call 38; exact Calls.quiet_of (HC.out.1 _)))
        go_wp2_with fail
        go_ret3
        exact ⟨by rw [EP.out.1]; rfl, drewsT hw'.out.1 _⟩
end Go.Proofs.YtpdclbfjngmppaaDoor

namespace Go.Proofs.YtpdclbfjngmppaaDoor
open Go.RowKit
set_option linter.unusedVariables false
set_option linter.unusedSimpArgs false

theorem infoFate : (Tryd.prog.info? 59).map (fun i => (i.zero, i.size, i.bytes)) = some (some (.int .u8 0), 1, 1) := by kernel_rfl
/-- The data grown. -/
theorem NA.growD {w w1 : World} {D : Nat → Prop} {g base n : Nat} {st fin : Nat} {q0 q1 q2 q3 cr : Int} {fi : Bool} {B X : List Int} {W : List Nat} {vd vd' vh : Value} (hb : snB w g st vd vh q0 q1 q2 q3 fin fi cr) (hA : NA w D g base B W vd vh)
    (o1 : w1.ownsRow base 5 1 vd' n (B.map (Value.int .u8) ++ X.map (Value.int .u8))) (hn : n = B.length + X.length) (c1 : Chg (fun k => some k = vd.ownBlock) w w1) (a1 : vd'.ownBlock = vd.ownBlock ∨ ∃ k, vd'.ownBlock = some k ∧ w.heap.size ≤ k) :
    snB (w1.setCell ⟨g, 2, none⟩ vd') g st vd' vh q0 q1 q2 q3 fin fi cr ∧ NA (w1.setCell ⟨g, 2, none⟩ vd') (DU D w (w1.setCell ⟨g, 2, none⟩ vd')) g base (B ++ X) W vd' vh ∧ Chg D w (w1.setCell ⟨g, 2, none⟩ vd') := by
  have hgl := snB.lt hb
  have n1 : ∀ k, vh.ownBlock = some k → k ≠ g := own_gt hA.oh hb (by decide)
  have n2 : ∀ k, vd.ownBlock = some k → k ≠ g := own_gt hA.od hb (by decide)
  have b1 : snB w1 g st vd vh q0 q1 q2 q3 fin fi cr := (c1.block g hgl (fun e => n2 g e.symm rfl)).trans hb
  have z1 := c1.size
  have m2 : ∀ k, vd'.ownBlock = some k → k ≠ g := own_gt o1 b1 (by decide)
  have oh1 : w1.ownsRow base 59 1 vh W.length (fv W) := ownsChg c1 hA.oh (fun k hk e => own_two (by decide) hA.oh hA.od k hk e)
  refine ⟨bk_set b1 2 vd', ⟨?_, ?_, Or.inl hA.dg, fun k hk => ?_, fun k hk => Or.inl (hA.dh k hk), fun k hk => ?_, hA.gb⟩, ?_⟩
  · rw [List.length_append, List.map_append, ← hn]
    exact (Only.setCell (w := w1) ⟨g, 2, none⟩ vd').owns o1 (fun k hk e => m2 k hk (Option.some.inj e))
  · exact (Only.setCell (w := w1) ⟨g, 2, none⟩ vd').owns oh1 (fun k hk e => n1 k hk (Option.some.inj e))
  · rcases a1 with e | ⟨k', e, hk'⟩
    · exact Or.inl (hA.dd k (by rw [← e]; exact hk))
    · have : k = k' := Option.some.inj (hk.symm.trans e)
      subst this
      exact Or.inr ⟨hk', by rw [size_setC]; exact (o1.lt k hk).2⟩
  · rcases hk with h | h
    · have := hA.lt k h; rw [size_setC]; omega
    · exact h.2
  · exact Chg.setD (c1.mono' (fun k hk e => hA.dd k e.symm)) g 2 _ (Or.inl hA.dg)
/-- How they stand, grown. -/
theorem NA.growH {w wr w1 : World} {D : Nat → Prop} {g base n z : Nat} {st fin : Nat} {q0 q1 q2 q3 cr : Int} {fi : Bool} {B : List Int} {W : List Nat} {vd vh vh' : Value} (hb : snB wr g st vd vh q0 q1 q2 q3 fin fi cr) (hA : NA wr (DU D w wr) g base B W vd vh) (hc : Chg D w wr)
    (o1 : w1.ownsRow base 59 1 vh' n (fv W ++ List.replicate z (.int .u8 0))) (hn : n = W.length + z) (c1 : Chg (fun k => some k = vh.ownBlock) wr w1) (a1 : vh'.ownBlock = vh.ownBlock ∨ ∃ k, vh'.ownBlock = some k ∧ wr.heap.size ≤ k) :
    snB (w1.setCell ⟨g, 3, none⟩ vh') g st vd vh' q0 q1 q2 q3 fin fi cr ∧ NA (w1.setCell ⟨g, 3, none⟩ vh') (DU D w (w1.setCell ⟨g, 3, none⟩ vh')) g base B (W ++ List.replicate z 0) vd vh' ∧ Chg D w (w1.setCell ⟨g, 3, none⟩ vh') := by
  have hgl := snB.lt hb
  have n1 : ∀ k, vh.ownBlock = some k → k ≠ g := own_gt hA.oh hb (by decide)
  have n2 : ∀ k, vd.ownBlock = some k → k ≠ g := own_gt hA.od hb (by decide)
  have b1 : snB w1 g st vd vh q0 q1 q2 q3 fin fi cr := (c1.block g hgl (fun e => n1 g e.symm rfl)).trans hb
  have z1 := c1.size
  have zc := hc.size
  have zz : (w1.setCell ⟨g, 3, none⟩ vh').heap.size = w1.heap.size := size_setC _ _ _
  have m2 : ∀ k, vh'.ownBlock = some k → k ≠ g := own_gt o1 b1 (by decide)
  have od1 : w1.ownsRow base 5 1 vd B.length (B.map (Value.int .u8)) := ownsChg c1 hA.od (fun k hk e => own_two (by decide) hA.od hA.oh k hk e)
  have DUm : ∀ k, DU D w wr k → DU D w (w1.setCell ⟨g, 3, none⟩ vh') k := fun k hk => hk.imp id (fun h => ⟨h.1, by omega⟩)
  refine ⟨bk_set b1 3 vh', ⟨?_, ?_, DUm g hA.dg, fun k hk => DUm k (hA.dd k hk), fun k hk => ?_, fun k hk => ?_, hA.gb⟩, ?_⟩
  · exact (Only.setCell (w := w1) ⟨g, 3, none⟩ vh').owns od1 (fun k hk e => n2 k hk (Option.some.inj e))
  · have e : fv (W ++ List.replicate z 0) = fv W ++ List.replicate z (.int .u8 0) := by simp [fv]
    rw [List.length_append, List.length_replicate, e]
    exact (Only.setCell (w := w1) ⟨g, 3, none⟩ vh').owns (by rw [hn] at o1; exact o1) (fun k hk e => m2 k hk (Option.some.inj e))
  · rcases a1 with e | ⟨k', e, hk'⟩
    · exact DUm k (hA.dh k (by rw [← e]; exact hk))
    · have : k = k' := Option.some.inj (hk.symm.trans e)
      subst this
      exact Or.inr ⟨by omega, by rw [zz]; exact (o1.lt k hk).2⟩
  · rcases hk with h | h
    · have := hA.lt k (Or.inl h); omega
    · exact h.2
  · have h2 : Chg (DU D w wr) wr (w1.setCell ⟨g, 3, none⟩ vh') := Chg.setD (c1.mono' (fun k hk e => hA.dh k e.symm)) g 3 _ (Or.inl hA.dg)
    exact hc.trDU h2
set_option maxRecDepth 20000 in
set_option maxHeartbeats 2000000 in
theorem writeP_no (g base : Nat) (m : SS) (aa : Option Addr) (n ac : Nat) (D : Nat → Prop) (w : World) (hE : NE w D) (I : SI m) (hR : PRep w D g base m) (hn : n ≤ 140737488355328) (h : (m.live = false ∨ m.finish = true) ∨ 65536 < m.B.length + n) :
    Calls Tryd.prog 24 #[.pointer (some ⟨g, 0, none⟩), .slice aa n ac] w fun e w' => e = .returned (.int .i64 (if m.live = false ∨ m.finish = true then 7 else 4)) ∧ Below w.heap.size w w' := by
  have C := goingP g base m D w hE I hR
  have key : ∀ w1, Below w.heap.size w w1 → w1.cell? ⟨g, 9, none⟩ = some (.bool m.finish) ∧ ∃ da dc, w1.cell? ⟨g, 2, none⟩ = some (.slice da m.B.length dc) := by
    intro w1 b1
    obtain ⟨vd, vh, hb, hA⟩ := hR.below b1
    obtain ⟨⟨da, dc, rfl⟩, _⟩ := hA.shape
    exact ⟨(bk_cell hb 9).trans rfl, da, dc, (bk_cell hb 2).trans rfl⟩
  have hbig := I.big
  have H0 : Hid _ := And.intro C key
  clear C key hE I hR
  cases hl : m.live
  · rw [if_pos (Or.inl rfl)]
    rw [hl] at H0
    clear h
    go_enter Tryd.func24, Tryd.ntmps24
    go_wp2_with (go_at_call 33; refine H0.out.1.mono ?_; rintro e w1 ⟨rfl, b1⟩)
    go_ret
    exact ⟨rfl, b1⟩
  · rw [hl] at H0 h
    cases hf : m.finish
    · rw [if_neg (by simp)]
      rw [hf] at H0 h
      have hbg : 65536 < m.B.length + n := h.resolve_left (by simp)
      obtain ⟨L, eL⟩ : ∃ L, L = m.B.length := ⟨_, rfl⟩
      rw [← eL] at H0 hbg hbig
      clear h eL
      go_enter Tryd.func24, Tryd.ntmps24
      go_wp2_with (go_at_call 33; refine H0.out.1.mono ?_; rintro e w1 ⟨rfl, b1⟩; have d9 := (H0.out.2 _ b1).1; obtain ⟨da, dc, d2⟩ := (H0.out.2 _ b1).2)
      go_ret
      exact ⟨rfl, b1⟩
    · rw [if_pos (Or.inr rfl)]
      rw [hf] at H0
      clear h
      go_enter Tryd.func24, Tryd.ntmps24
      go_wp2_with (go_at_call 33; refine H0.out.1.mono ?_; rintro e w1 ⟨rfl, b1⟩; have d9 := (H0.out.2 _ b1).1)
      go_ret
      exact ⟨rfl, b1⟩
set_option maxRecDepth 20000 in
set_option maxHeartbeats 4000000 in
theorem writeP_do (g base : Nat) (m : SS) (av : Value) (X : List Int) (D : Nat → Prop) (w : World) (hE : NE w D) (I : SI m) (hR : PRep w D g base m) (hrow : Row w .u8 av X) (hL : m.B.length + X.length ≤ 65536) (hl : m.live = true) (hf : m.finish = false) (hbase : base ≤ w.heap.size) :
    Calls Tryd.prog 24 #[.pointer (some ⟨g, 0, none⟩), av] w fun e w' => e = .returned (.int .i64 0) ∧ PRep w' (DU D w w') g base { m with B := m.B ++ X, W := m.W ++ List.replicate X.length 0 } ∧ Chg D w w' := by
  have C := goingP g base m D w hE I hR
  rw [hl] at C
  obtain ⟨aa, ac, ev⟩ := hrow.form
  obtain ⟨n, en⟩ : ∃ n, n = X.length := ⟨_, rfl⟩
  obtain ⟨L, eL⟩ : ∃ L, L = m.B.length := ⟨_, rfl⟩
  have eW : m.W.length = L := by rw [eL]; exact I.len
  have key : ∀ w1, Below w.heap.size w w1 → ∃ vd vh, snB w1 g m.st vd vh (m.W.count 0 : Nat) (m.W.count 1 : Nat) (m.W.count 2 : Nat) (m.W.count 3 : Nat) m.fin false m.credit ∧ NA w1 D g base m.B m.W vd vh ∧ Row w1 .u8 av X ∧ (∃ da dc, vd = .slice da L dc) ∧ (∃ ta tc, vh = .slice ta L tc) := by
    intro w1 b1
    obtain ⟨vd, vh, hb, hA⟩ := hR.below b1
    obtain ⟨s1, s2⟩ := hA.shape
    rw [← eL] at s1
    rw [eW] at s2
    exact ⟨vd, vh, by unfold snW at hb; rw [hf] at hb; exact hb, hA, hrow.below b1, s1, s2⟩
  rw [← en, ← eL] at hL
  rw [← en] at ev
  have hcnt := count_le m.W 0
  rw [eW] at hcnt
  have H0 : Hid _ := And.intro C (And.intro key (And.intro en (And.intro eL (And.intro eW hf))))
  clear C key hE I hR hrow en eL eW hl hf
  subst ev
  go_enter Tryd.func24, Tryd.ntmps24
  go_upto_region 5 with (go_at_call 33; refine H0.out.1.mono ?_; rintro e w1 ⟨rfl, b1⟩; obtain ⟨vd, vh, hb1, hA1, hr1, ⟨da, dc, rfl⟩, ⟨ta, tc, rfl⟩⟩ := H0.out.2.1 w1 b1; have d9 : w1.cell? ⟨g, 9, none⟩ = some (.bool false) := (bk_cell hb1 9).trans rfl; have d2 : w1.cell? ⟨g, 2, none⟩ = some (.slice da L dc) := (bk_cell hb1 2).trans rfl; have hgl : g < w1.heap.size := snB.lt hb1; have H1 : Hid _ := And.intro b1 (And.intro hb1 (And.intro hA1 hr1)); clear b1 hb1 hA1 hr1)
  go_cut [0] from 23 to 31 (fun v0 wx => v0 = .pointer (some ⟨g, 0, none⟩) ∧ ∃ vd', snB wx g m.st vd' (.slice ta L tc) (m.W.count 0 : Nat) (m.W.count 1 : Nat) (m.W.count 2 : Nat) (m.W.count 3 : Nat) m.fin false m.credit ∧ NA wx (DU D w1 wx) g base (m.B ++ X) m.W vd' (.slice ta L tc) ∧ Chg D w1 wx)
  case first =>
    have od := H1.out.2.2.1.od
    rw [← H0.out.2.2.2.1] at od
    have n2 : ∀ t, (Value.slice da L dc).ownBlock = some t → t ≠ g := own_gt H1.out.2.2.1.od H1.out.2.1 (by decide)
    have hz1 := H1.out.1.size
    have hbw : base ≤ w1.heap.size := by omega
    have H2 : Hid _ := And.intro od n2
    clear od n2
    go_wp2_with (at_builtin; refine wpList_append_rowT rfl (.tmp 27) (.tmp 28) rfl base (.slice da L dc) L (m.B.map (Value.int .u8)) rfl H2.out.1 (.slice aa n ac) X rfl H1.out.2.2.2 (by rw [← H0.out.2.2.1]; omega) hbw ?_; intro vd' w2 o2 g2 at2; rw [← H0.out.2.2.1] at o2; obtain ⟨da', dc', ed'⟩ := own_form o2; have C2 : Chg (fun k => some k = (Value.slice da L dc).ownBlock) w1 w2 := grown_chg g2; have b2 : snB w2 g m.st (.slice da L dc) (.slice ta L tc) (m.W.count 0 : Nat) (m.W.count 1 : Nat) (m.W.count 2 : Nat) (m.W.count 3 : Nat) m.fin false m.credit := (C2.block g hgl (fun e => H2.out.2 g e.symm rfl)).trans H1.out.2.1; have e2 : w2.cell? ⟨g, 2, none⟩ = some (.slice da L dc) := (bk_cell b2 2).trans rfl; have f2 : w2.frozen? ⟨g, 2, none⟩ = false := bk_free b2 2; have z2 := C2.size; have H3 : Hid _ := And.intro C2 (And.intro o2 at2); subst ed'; clear C2 b2 o2 g2 at2)
    go_meet
    obtain ⟨k1, k2, k3⟩ := NA.growD H1.out.2.1 H1.out.2.2.1 H3.out.2.1 (by rw [← H0.out.2.2.2.1, ← H0.out.2.2.1]) H3.out.1 (H3.out.2.2.imp id (fun e => ⟨_, e, Nat.le_refl _⟩))
    exact ⟨rfl, _, k1, k2, k3⟩
  case rest =>
  obtain ⟨rfl, vd', hb2, hA2, hc2⟩ := hcut
  have d3 : wc.cell? ⟨g, 3, none⟩ = some (.slice ta L tc) := (bk_cell hb2 3).trans rfl
  have hgl2 : g < wc.heap.size := snB.lt hb2
  have hz1 := H1.out.1.size
  have hz2 := hc2.size
  have H2 : Hid _ := And.intro hb2 (And.intro hA2 hc2)
  clear hb2 hA2 hc2 d2 d9 hgl
  go_upto_region 6 with fail
  go_cut [0] from 32 to 41 (fun v0 wx => v0 = .pointer (some ⟨g, 0, none⟩) ∧ ∃ vh', snB wx g m.st vd' vh' (m.W.count 0 : Nat) (m.W.count 1 : Nat) (m.W.count 2 : Nat) (m.W.count 3 : Nat) m.fin false m.credit ∧ NA wx (DU D w1 wx) g base (m.B ++ X) (m.W ++ List.replicate n 0) vd' vh' ∧ Chg D w1 wx)
  case first =>
    have oh := H2.out.2.1.oh
    rw [H0.out.2.2.2.2.1] at oh
    have n1 : ∀ t, (Value.slice ta L tc).ownBlock = some t → t ≠ g := own_gt H2.out.2.1.oh H2.out.1 (by decide)
    have hbw : base ≤ wc.heap.size := by omega
    have H3 : Hid _ := And.intro oh n1
    clear oh n1
    go_wp2_with (at_builtin; refine wpList_append_zeros rfl (.tmp 36) (.tmp 38) 57 3 59 (.int .u8 0) .i64 .i64 rfl Tryd.underlying57 Tryd.underlying3 infoFate rfl rfl base (.slice ta L tc) L (fv m.W) rfl H3.out.1 n rfl (by omega) hbw ?_; intro vh' w2 o2 g2 at2; obtain ⟨ta', tc', et'⟩ := own_form o2; have C2 : Chg (fun k => some k = (Value.slice ta L tc).ownBlock) wc w2 := grown_chg g2; have b2 : snB w2 g m.st vd' (.slice ta L tc) (m.W.count 0 : Nat) (m.W.count 1 : Nat) (m.W.count 2 : Nat) (m.W.count 3 : Nat) m.fin false m.credit := (C2.block g hgl2 (fun e => H3.out.2 g e.symm rfl)).trans H2.out.1; have e3 : w2.cell? ⟨g, 3, none⟩ = some (.slice ta L tc) := (bk_cell b2 3).trans rfl; have f3 : w2.frozen? ⟨g, 3, none⟩ = false := bk_free b2 3; have z2 := C2.size; have H4 : Hid _ := And.intro C2 (And.intro o2 at2); subst et'; clear C2 b2 o2 g2 at2)
    go_meet
    obtain ⟨k1, k2, k3⟩ := NA.growH H2.out.1 H2.out.2.1 H2.out.2.2 H4.out.2.1 (by rw [H0.out.2.2.2.2.1]) H4.out.1 (H4.out.2.2.imp id (fun e => ⟨_, e, Nat.le_refl _⟩))
    exact ⟨rfl, _, k1, k2, k3⟩
  case rest =>
  obtain ⟨rfl, vh', hb3, hA3, hc3⟩ := hcut
  obtain ⟨q0, e0⟩ : ∃ q : Int, q = ((m.W.count 0 : Nat) : Int) := ⟨_, rfl⟩
  rw [← e0] at hb3
  have r0 : 0 ≤ q0 ∧ q0 ≤ 65536 := by omega
  have d4 : wc.cell? ⟨g, 4, none⟩ = some (.int .i64 q0) := (bk_cell hb3 4).trans rfl
  have d4d : wc.drew.cell? ⟨g, 4, none⟩ = some (.int .i64 q0) := d4
  have f4 : wc.drew.frozen? ⟨g, 4, none⟩ = false := bk_free hb3 4
  have hgl3 : g < wc.heap.size := snB.lt hb3
  have H3 : Hid _ := And.intro hb3 (And.intro hA3 (And.intro hc3 e0))
  clear hb3 hA3 hc3 e0 d3 hgl2
  go_upto_region 7 with fail
  go_region
  go_wp2
  go_ret
  obtain ⟨hb3, hA3, hc3, e0⟩ := H3.out
  have hcw : Chg D w (wc.setCell ⟨g, 4, none⟩ (.int .i64 (q0 + n))).drew := ((Chg.of_below H1.out.1).trans (hc3.mono' (fun k hk e => e))).setD g 4 _ (Or.inl H1.out.2.2.1.dg) |>.drewD 1
  refine ⟨rfl, ⟨vd', vh', ?_, ?_⟩, hcw⟩
  · have t0 : q0 + n = (((m.W ++ List.replicate X.length 0).count 0 : Nat) : Int) := by rw [List.count_append, List.count_replicate, e0, H0.out.2.2.1]; simp
    have t1 : (((m.W ++ List.replicate X.length 0).count 1 : Nat) : Int) = ((m.W.count 1 : Nat) : Int) := by rw [List.count_append, List.count_replicate]; simp
    have t2 : (((m.W ++ List.replicate X.length 0).count 2 : Nat) : Int) = ((m.W.count 2 : Nat) : Int) := by rw [List.count_append, List.count_replicate]; simp
    have t3 : (((m.W ++ List.replicate X.length 0).count 3 : Nat) : Int) = ((m.W.count 3 : Nat) : Int) := by rw [List.count_append, List.count_replicate]; simp
    unfold snW
    show snB _ g m.st vd' vh' _ _ _ _ m.fin m.finish m.credit
    rw [← t0, t1, t2, t3, H0.out.2.2.2.2.2]
    exact bk_set hb3 4 _
  · have hA4 := (hA3.setG (own_gt hA3.oh hb3 (by decide)) (own_gt hA3.od hb3 (by decide)) 4 (.int .i64 (q0 + n))).drewM 1
    rw [← H0.out.2.2.1]
    refine hA4.wide (fun k hk => ?_) (fun k hk => ?_)
    · rcases hk with h | h
      · exact Or.inl h
      · refine Or.inr ⟨by omega, ?_⟩
        have := h.2
        simpa [World.setCell] using this
    · rcases hk with h | h
      · have := hA4.lt k (Or.inl h)
        exact this
      · exact h.2
theorem writeP (g base : Nat) (m : SS) (av : Value) (X : List Int) (D : Nat → Prop) (w : World) (hE : NE w D) (I : SI m) (hR : PRep w D g base m) (hrow : Row w .u8 av X) (hX : X.length ≤ 140737488355328) (hbase : base ≤ w.heap.size) :
    Calls Tryd.prog 24 #[.pointer (some ⟨g, 0, none⟩), av] w fun e w' => e = .returned (.int .i64 (swrite m X).2) ∧ PRep w' (DU D w w') g base (swrite m X).1 ∧ Chg D w w' := by
  have no : ((m.live = false ∨ m.finish = true) ∨ 65536 < m.B.length + X.length) → Calls Tryd.prog 24 #[.pointer (some ⟨g, 0, none⟩), av] w fun e w' => e = .returned (.int .i64 (if m.live = false ∨ m.finish = true then 7 else 4)) ∧ Below w.heap.size w w' := by
    intro h
    obtain ⟨aa, ac, ev⟩ := hrow.form
    subst ev
    exact writeP_no g base m aa X.length ac D w hE I hR hX h
  have same : ∀ w', Below w.heap.size w w' → PRep w' (DU D w w') g base m := fun w' b => by
    obtain ⟨vd, vh, h1, h2⟩ := hR.below b
    exact ⟨vd, vh, h1, h2.wide (fun k hk => Or.inl hk) (fun k hk => hk.elim (fun h => h2.lt k h) (fun h => h.2))⟩
  by_cases c : m.live = false ∨ m.finish = true
  · have e : swrite m X = (m, 7) := by unfold swrite; rw [if_pos c]
    rw [e]
    refine (no (Or.inl c)).mono ?_
    rintro e w' ⟨rfl, hw⟩
    exact ⟨by rw [if_pos c], same _ hw, Chg.of_below hw⟩
  · by_cases d : 65536 < m.B.length + X.length
    · have e : swrite m X = (m, 4) := by unfold swrite; rw [if_neg c, if_pos d]
      rw [e]
      refine (no (Or.inr d)).mono ?_
      rintro e w' ⟨rfl, hw⟩
      exact ⟨by rw [if_neg c], same _ hw, Chg.of_below hw⟩
    · have e : swrite m X = ({ m with B := m.B ++ X, W := m.W ++ List.replicate X.length 0 }, 0) := by unfold swrite; rw [if_neg c, if_neg d]
      rw [e]
      exact writeP_do g base m av X D w hE I hR hrow (by omega) (by cases q : m.live; exact absurd (Or.inl q) c; rfl) (by cases q : m.finish; rfl; exact absurd (Or.inr q) c) hbase
end Go.Proofs.YtpdclbfjngmppaaDoor

namespace Go.Proofs.YtpdclbfjngmppaaDoor
open Go.RowKit
set_option linter.unusedVariables false
set_option linter.unusedSimpArgs false

/-- What nextPiece answers. -/
def nV (m : SS) : Option (Nat × Nat) → Value
  | none => .tuple #[.int .i64 (m.B.length : Int), .int .i64 (m.B.length : Int), .bool false]
  | some z => .tuple #[.int .i64 (z.1 : Int), .int .i64 (z.2 : Int), .bool true]
theorem nextPieceP (g base : Nat) (m : SS) (n : Nat) (D : Nat → Prop) (w : World) (I : SI m) (hR : PRep w D g base m) (hn : n ≤ 1500) (hcr : m.credit ≤ 9223372036854775807) :
    Calls Tryd.prog 34 #[.pointer (some ⟨g, 0, none⟩), .int .i64 (n : Int)] w fun e w' => e = .returned (nV m (spiece m n)) ∧ ∃ q, w' = w.drewN q := by
  obtain ⟨vd, vh, hb, hA⟩ := id hR
  have hbig := I.big
  have hlen := I.len
  have hnx := I.nx
  unfold spiece
  by_cases c : fst3 m.W < m.W.length
  · rw [if_pos c]
    have h3 := fst3_lost m.W c
    have hA0 := I.lost_lt h3
    obtain ⟨b, cap, ev, _, _⟩ := row_fate hA.oh rfl (fst3 m.W) c
    rw [hlen] at ev
    subst ev
    have hc : ∀ p, p < m.B.length → w.cell? ⟨b, p, none⟩ = some (.int .u8 ((m.W.getD p 0 : Nat) : Int)) := fun p hp => by
      obtain ⟨b', cap', e', h', _⟩ := row_fate hA.oh rfl p (by omega)
      rw [hlen] at e'
      cases e'
      exact h'
    have hall : ∀ i, i < rdk (L3 m.W) (fst3 m.W) n → m.W.getD (fst3 m.W + i) 0 = 3 := fun i hi => by
      have := rdk_all _ _ _ i hi; rw [L3_g] at this; simpa using this
    have hend : rdk (L3 m.W) (fst3 m.W) n = n ∨ m.W.getD (fst3 m.W + rdk (L3 m.W) (fst3 m.W) n) 0 ≠ 3 := by
      rcases rdk_end (L3 m.W) (fst3 m.W) n with h | h
      · exact Or.inl h
      · right; rw [L3_g] at h; simpa using h
    have hK : fst3 m.W + rdk (L3 m.W) (fst3 m.W) n ≤ m.next := by
      by_cases z : rdk (L3 m.W) (fst3 m.W) n = 0
      · omega
      · have := I.lost_lt (hall (rdk (L3 m.W) (fst3 m.W) n - 1) (by omega)); omega
    have hc3 : (0 : Int) < ((m.W.count 3 : Nat) : Int) := by have := (cnt3 m.W).2 c; omega
    refine (np_lost g m.st m.B.length (fst3 m.W) (rdk (L3 m.W) (fst3 m.W) n) n b cap vd _ _ _ _ m.credit m.fin m.finish m.W w hb hc3 hc hbig (by omega) (fun p hp => fst3_first m.W p hp) h3 (rdk_le _ _ _) hn hall hend (by omega)).mono ?_
    rintro e w' ⟨rfl, hw⟩
    exact ⟨rfl, 0, by rw [hw]; rfl⟩
  · rw [if_neg c]
    obtain ⟨⟨da, dc, ed⟩, _⟩ := hA.shape
    subst ed
    have hc3 : m.W.count 3 = 0 := by have : ¬ 0 < m.W.count 3 := fun h => c ((cnt3 m.W).1 h); omega
    unfold snW at hb
    rw [hc3] at hb
    have h3 := I.fin3
    refine (np_rest g m.st m.B.length m.next n da dc vh _ _ _ m.credit m.fin m.finish w hb hbig hnx I.cnt0 hn I.cr hcr h3).mono ?_
    rintro e w' ⟨rfl, hq⟩
    refine ⟨?_, hq⟩
    by_cases d : (m.next : Int) < min m.credit m.B.length
    · rw [if_pos d, if_pos d]
      have : 0 ≤ min (min m.credit m.B.length) ((m.next + n : Nat) : Int) := by have := I.cr; omega
      show _ = Ending.returned (Value.tuple #[_, .int .i64 (((min (min m.credit m.B.length) ((m.next + n : Nat) : Int)).toNat : Nat) : Int), _])
      rw [Int.toNat_of_nonneg this]
    · rw [if_neg d, if_neg d]
      by_cases f : m.finish = true ∧ m.next = m.B.length ∧ (m.fin = 0 ∨ m.fin = 3)
      · rw [if_pos f, decide_eq_true f]
        show _ = Ending.returned (Value.tuple #[.int .i64 (m.next : Int), .int .i64 (m.next : Int), _])
        rw [f.2.1]
      · rw [if_neg f, decide_eq_false f]; rfl
end Go.Proofs.YtpdclbfjngmppaaDoor

namespace Go.Proofs.YtpdclbfjngmppaaDoor
open Go.RowKit
set_option linter.unusedVariables false
set_option linter.unusedSimpArgs false

theorem chg_only {w w' : World} {k : Nat} (o : Only (some k) w w') : Chg (· = k) w w' := ⟨o.os, o.tape, o.output, by rw [o.size]; exact Nat.le_refl _, fun j hj hs => o.block j (fun e => hs (Option.some.inj e))⟩
theorem NA.chgS {w w' : World} {D S : Nat → Prop} {g base : Nat} {B : List Int} {W : List Nat} {vd vh : Value} (hA : NA w D g base B W vd vh) (C : Chg S w w') (hs : ∀ t, D t → ¬ S t) : NA w' D g base B W vd vh :=
  ⟨ownsChg C hA.od (fun t ht => hs t (hA.dd t ht)), ownsChg C hA.oh (fun t ht => hs t (hA.dh t ht)), hA.dg, hA.dd, hA.dh, fun k hk => Nat.lt_of_lt_of_le (hA.lt k hk) C.size, hA.gb⟩
theorem PRep.chg {w w' : World} {D S : Nat → Prop} {g base : Nat} {m : SS} (h : PRep w D g base m) (C : Chg S w w') (hs : ∀ t, D t → ¬ S t) : PRep w' D g base m := by
  obtain ⟨vd, vh, hb, hA⟩ := h
  exact ⟨vd, vh, (C.block g (snB.lt hb) (hs g hA.dg)).trans hb, hA.chgS C hs⟩
theorem PRep.lt {w : World} {D : Nat → Prop} {g base : Nat} {m : SS} (h : PRep w D g base m) : ∀ t, D t → t < w.heap.size := by
  obtain ⟨vd, vh, hb, hA⟩ := h
  exact hA.lt
theorem PRep.dg {w : World} {D : Nat → Prop} {g base : Nat} {m : SS} (h : PRep w D g base m) : D g := by
  obtain ⟨vd, vh, hb, hA⟩ := h
  exact hA.dg
abbrev so7c (c off : Int) (vd : Value) (s f b : Bool) : Array Value := #[.int .i64 c, .int .i64 0, .int .i64 off, vd, .bool s, .bool f, .bool b]
/-- A whole observation put into its block. -/
abbrev put7 (w : World) (N : Nat) (c off : Int) (vd : Value) (s f b : Bool) : World := ((((((w.setCell ⟨N, 0, none⟩ (.int .i64 c)).setCell ⟨N, 1, none⟩ (.int .i64 0)).setCell ⟨N, 2, none⟩ (.int .i64 off)).setCell ⟨N, 3, none⟩ vd).setCell ⟨N, 4, none⟩ (.bool s)).setCell ⟨N, 5, none⟩ (.bool f)).setCell ⟨N, 6, none⟩ (.bool b)
theorem put7_blk {w : World} {N : Nat} {T : TypeId} {v0 v1 v2 v3 v4 v5 v6 : Value} (h : w.heap[N]? = some (.cells #[v0, v1, v2, v3, v4, v5, v6] T (0, 0))) (c off : Int) (vd : Value) (s f b : Bool) : (put7 w N c off vd s f b).heap[N]? = some (.cells (so7c c off vd s f b) T (0, 0)) := by
  have h0 : (w.setCell ⟨N, 0, none⟩ (.int .i64 c)).heap[N]? = some (.cells #[.int .i64 c, v1, v2, v3, v4, v5, v6] T (0, 0)) := bk_set h 0 _
  have h1 : ((w.setCell ⟨N, 0, none⟩ (.int .i64 c)).setCell ⟨N, 1, none⟩ (.int .i64 0)).heap[N]? = some (.cells #[.int .i64 c, .int .i64 0, v2, v3, v4, v5, v6] T (0, 0)) := bk_set h0 1 _
  have h2 : (((w.setCell ⟨N, 0, none⟩ (.int .i64 c)).setCell ⟨N, 1, none⟩ (.int .i64 0)).setCell ⟨N, 2, none⟩ (.int .i64 off)).heap[N]? = some (.cells #[.int .i64 c, .int .i64 0, .int .i64 off, v3, v4, v5, v6] T (0, 0)) := bk_set h1 2 _
  have h3 : ((((w.setCell ⟨N, 0, none⟩ (.int .i64 c)).setCell ⟨N, 1, none⟩ (.int .i64 0)).setCell ⟨N, 2, none⟩ (.int .i64 off)).setCell ⟨N, 3, none⟩ vd).heap[N]? = some (.cells #[.int .i64 c, .int .i64 0, .int .i64 off, vd, v4, v5, v6] T (0, 0)) := bk_set h2 3 _
  have h4 : (((((w.setCell ⟨N, 0, none⟩ (.int .i64 c)).setCell ⟨N, 1, none⟩ (.int .i64 0)).setCell ⟨N, 2, none⟩ (.int .i64 off)).setCell ⟨N, 3, none⟩ vd).setCell ⟨N, 4, none⟩ (.bool s)).heap[N]? = some (.cells #[.int .i64 c, .int .i64 0, .int .i64 off, vd, .bool s, v5, v6] T (0, 0)) := bk_set h3 4 _
  have h5 : ((((((w.setCell ⟨N, 0, none⟩ (.int .i64 c)).setCell ⟨N, 1, none⟩ (.int .i64 0)).setCell ⟨N, 2, none⟩ (.int .i64 off)).setCell ⟨N, 3, none⟩ vd).setCell ⟨N, 4, none⟩ (.bool s)).setCell ⟨N, 5, none⟩ (.bool f)).heap[N]? = some (.cells #[.int .i64 c, .int .i64 0, .int .i64 off, vd, .bool s, .bool f, v6] T (0, 0)) := bk_set h4 5 _
  have h6 : (((((((w.setCell ⟨N, 0, none⟩ (.int .i64 c)).setCell ⟨N, 1, none⟩ (.int .i64 0)).setCell ⟨N, 2, none⟩ (.int .i64 off)).setCell ⟨N, 3, none⟩ vd).setCell ⟨N, 4, none⟩ (.bool s)).setCell ⟨N, 5, none⟩ (.bool f)).setCell ⟨N, 6, none⟩ (.bool b)).heap[N]? = some (.cells #[.int .i64 c, .int .i64 0, .int .i64 off, vd, .bool s, .bool f, .bool b] T (0, 0)) := bk_set h5 6 _
  exact h6
theorem put7_chg (w : World) (N : Nat) (c off : Int) (vd : Value) (s f b : Bool) : Chg (· = N) w (put7 w N c off vd s f b) :=
  have h0 : Chg (fun k => k = N) w w := chg_of_eq w
  ((((((h0.set' N 0 _ rfl).set' N 1 _ rfl).set' N 2 _ rfl).set' N 3 _ rfl).set' N 4 _ rfl).set' N 5 _ rfl).set' N 6 _ rfl
theorem Chg.new {S : Nat → Prop} {w w1 w' : World} {k : Nat} (h : Chg S w w1) (o : Chg (· = k) w1 w') (hk : w.heap.size ≤ k) : Chg S w w' :=
  ⟨o.os.trans h.os, o.tape.trans h.tape, o.output.trans h.output, Nat.le_trans h.size o.size, fun j hj hs => (o.block j (Nat.lt_of_lt_of_le hj h.size) (fun e => by have : j = k := e; omega)).trans (h.block j hj hs)⟩
set_option maxRecDepth 20000 in
set_option maxHeartbeats 2000000 in
/-- A pull of no number, or of too many. -/
theorem pullI_bad (g : Nat) (n : Int) (w : World) (h : n < 1 ∨ 1500 < n) :
    Calls Tryd.prog 27 #[.pointer (some ⟨g, 0, none⟩), .int .i64 n] w fun e w' => e = .returned (.agg (so7c 1 0 (.slice none 0 0) false false false)) ∧ Below w.heap.size w w' := by
  rcases h with h | h
  · go_enter Tryd.func27, Tryd.ntmps27
    go_wp2
    exact bodyPost_ret (v := .agg (so7c 1 0 (.slice none 0 0) false false false)) (results_cell_row (t := 30) rfl _ _ w.heap.size _ (fr := (0, 0)) _ rfl (heap_alloc_new w _) Tryd.underlying30 rfl infoSObs) rfl ⟨rfl, (Below.refl _ _).alloc (Nat.le_refl _) _⟩
  · have h1 : ¬ n < 1 := by omega
    go_enter Tryd.func27, Tryd.ntmps27
    go_wp2
    exact bodyPost_ret (v := .agg (so7c 1 0 (.slice none 0 0) false false false)) (results_cell_row (t := 30) rfl _ _ w.heap.size _ (fr := (0, 0)) _ rfl (heap_alloc_new w _) Tryd.underlying30 rfl infoSObs) rfl ⟨rfl, (Below.refl _ _).alloc (Nat.le_refl _) _⟩
/-- What pull answers, where the run stands behind it. -/
def PullI (g base : Nat) (m : SS) (n : Nat) (D : Nat → Prop) (w : World) (e : Ending) (w' : World) : Prop :=
  ∃ vd, e = .returned (.agg (so7c 0 ((spull m n).2.1 : Int) vd (spull m n).2.2.2.1 (spull m n).2.2.2.2.1 (spull m n).2.2.2.2.2)) ∧ w'.ownsRow w.heap.size 5 1 vd (spull m n).2.2.1.length ((spull m n).2.2.1.map (Value.int .u8)) ∧ PRep w' D g base (spull m n).1 ∧ Chg D w w'
abbrev so0 : Obj := .cells (so7c 0 0 (.slice none 0 0) false false false) 30
set_option maxRecDepth 20000 in
set_option maxHeartbeats 2000000 in
theorem pullI_dead (g base n : Nat) (m : SS) (D : Nat → Prop) (w : World) (hE : NE w D) (I : SI m) (hR : PRep w D g base m) (h1 : 1 ≤ n) (h5 : n ≤ 1500) (hl : m.live = false) :
    Calls Tryd.prog 27 #[.pointer (some ⟨g, 0, none⟩), .int .i64 (n : Int)] w fun e w' => PullI g base m n D w e w' := by
  have e : spull m n = (m, 0, [], false, false, false) := by unfold spull; rw [if_pos hl]
  unfold PullI
  rw [e]
  have BA : Below w.heap.size w (w.alloc so0) := (Below.refl _ _).alloc (Nat.le_refl _) _
  have C := goingP g base m D _ (hE.below BA) I (hR.below BA)
  rw [hl] at C
  have hlt := hR.lt
  have hsz : w.heap.size < (w.alloc so0).heap.size := by simp
  have key : ∀ w1, Below (w.alloc so0).heap.size (w.alloc so0) w1 → w1.heap[w.heap.size]? = some so0 ∧ Below w.heap.size w w1 := fun w1 b1 => ⟨(b1.block _ hsz).trans (heap_alloc_new w _), BA.trans (b1.mono (by simp))⟩
  have H0 : Hid _ := And.intro C (And.intro key (And.intro hR hlt))
  clear C BA hR hE I hl e hlt hsz key
  go_enter Tryd.func27, Tryd.ntmps27
  go_wp2_with (go_at_call 33; refine H0.out.1.mono ?_; rintro e w1 ⟨rfl, b1⟩; obtain ⟨k1, B1⟩ := H0.out.2.1 w1 b1; have zc0 : w1.cell? ⟨w.heap.size, 0, none⟩ = some (.int .i64 0) := (bk_cell k1 0).trans rfl; have zf0 : w1.frozen? ⟨w.heap.size, 0, none⟩ = false := bk_free k1 0; have zc1 : w1.cell? ⟨w.heap.size, 1, none⟩ = some (.int .i64 0) := (bk_cell k1 1).trans rfl; have zf1 : w1.frozen? ⟨w.heap.size, 1, none⟩ = false := bk_free k1 1; have zc2 : w1.cell? ⟨w.heap.size, 2, none⟩ = some (.int .i64 0) := (bk_cell k1 2).trans rfl; have zf2 : w1.frozen? ⟨w.heap.size, 2, none⟩ = false := bk_free k1 2; have zc3 : w1.cell? ⟨w.heap.size, 3, none⟩ = some (.slice none 0 0) := (bk_cell k1 3).trans rfl; have zf3 : w1.frozen? ⟨w.heap.size, 3, none⟩ = false := bk_free k1 3; have zc4 : w1.cell? ⟨w.heap.size, 4, none⟩ = some (.bool false) := (bk_cell k1 4).trans rfl; have zf4 : w1.frozen? ⟨w.heap.size, 4, none⟩ = false := bk_free k1 4; have zc5 : w1.cell? ⟨w.heap.size, 5, none⟩ = some (.bool false) := (bk_cell k1 5).trans rfl; have zf5 : w1.frozen? ⟨w.heap.size, 5, none⟩ = false := bk_free k1 5; have zc6 : w1.cell? ⟨w.heap.size, 6, none⟩ = some (.bool false) := (bk_cell k1 6).trans rfl; have zf6 : w1.frozen? ⟨w.heap.size, 6, none⟩ = false := bk_free k1 6; have hsz : w.heap.size < w1.heap.size := (Array.getElem?_eq_some_iff.1 k1).1; have H1 : Hid _ := And.intro k1 B1; clear b1 k1 B1)
  exact bodyPost_ret (v := .agg (so7c 0 0 (.slice none 0 0) false false false)) (results_cell_row (t := 30) rfl _ _ w.heap.size _ (fr := (0, 0)) _ rfl (put7_blk H1.out.1 0 0 (.slice none 0 0) false false false) Tryd.underlying30 rfl infoSObs) rfl ⟨_, rfl, World.ownsRow_nil _ _ _ _, (H0.out.2.2.1.below H1.out.2).chg (put7_chg w1 w.heap.size 0 0 (.slice none 0 0) false false false) (fun t ht e => by have := H0.out.2.2.2 t ht; omega), (Chg.of_below H1.out.2).new (put7_chg w1 w.heap.size 0 0 (.slice none 0 0) false false false) (Nat.le_refl _)⟩
set_option maxRecDepth 20000 in
set_option maxHeartbeats 2000000 in
theorem pullI_none (g base n : Nat) (m : SS) (D : Nat → Prop) (w : World) (hE : NE w D) (I : SI m) (hR : PRep w D g base m) (h1 : 1 ≤ n) (h5 : n ≤ 1500) (hcr : m.credit ≤ 9223372036854775807) (hl : m.live = true) (hp : spiece m n = none) :
    Calls Tryd.prog 27 #[.pointer (some ⟨g, 0, none⟩), .int .i64 (n : Int)] w fun e w' => PullI g base m n D w e w' := by
  have e : spull m n = (m, 0, [], false, false, decide (m.next < m.B.length)) := by unfold spull; rw [if_neg (by rw [hl]; decide), hp]
  unfold PullI
  rw [e]
  have BA : Below w.heap.size w (w.alloc so0) := (Below.refl _ _).alloc (Nat.le_refl _) _
  have C := goingP g base m D _ (hE.below BA) I (hR.below BA)
  rw [hl] at C
  have hlt := hR.lt
  have hsz : w.heap.size < (w.alloc so0).heap.size := by simp
  obtain ⟨q0, eq0⟩ : ∃ q : Int, q = ((m.W.count 0 : Nat) : Int) := ⟨_, rfl⟩
  have key : ∀ w1, Below (w.alloc so0).heap.size (w.alloc so0) w1 → w1.heap[w.heap.size]? = some so0 ∧ Below w.heap.size w w1 := fun w1 b1 => ⟨(b1.block _ hsz).trans (heap_alloc_new w _), BA.trans (b1.mono (by simp))⟩
  have CN : ∀ w1, Below w.heap.size w w1 → Calls Tryd.prog 34 #[.pointer (some ⟨g, 0, none⟩), .int .i64 (n : Int)] w1 fun e w' => e = .returned (nV m none) ∧ ∃ q, w' = w1.drewN q := fun w1 b1 => by
    have := nextPieceP g base m n D w1 I (hR.below b1) h5 hcr
    rw [hp] at this
    exact this
  have c4 : ∀ w1, Below w.heap.size w w1 → w1.cell? ⟨g, 4, none⟩ = some (.int .i64 q0) := fun w1 b1 => by
    obtain ⟨vd, vh, hb, hA⟩ := hR.below b1
    rw [eq0]
    exact (bk_cell hb 4).trans rfl
  have hbb : decide (0 < q0) = decide (m.next < m.B.length) := by
    have := I.cnt0
    rw [eq0, this]
    exact decide_eq_decide.2 (by omega)
  have hgl : g < w.heap.size := hlt g hR.dg
  rw [← hbb]
  have H0 : Hid _ := And.intro C (And.intro key (And.intro hR (And.intro hlt (And.intro CN c4))))
  clear C BA hR hE I hl e hlt hsz key CN c4 hbb eq0 hp hcr
  unfold nV at H0
  go_enter Tryd.func27, Tryd.ntmps27
  go_wp2_with (first
    | (go_at_call 33; refine H0.out.1.mono ?_; rintro e w1 ⟨rfl, b1⟩; obtain ⟨k1, B1⟩ := H0.out.2.1 w1 b1; have H1 : Hid _ := And.intro k1 B1; clear b1 k1 B1)
    | (go_at_call 34; refine (H0.out.2.2.2.2.1 w1 H1.out.2).mono ?_; rintro e w2 ⟨rfl, q, hq⟩; have B2 : Below w.heap.size w w2 := by (rw [hq]; exact below_drewN H1.out.2 q)
       have k2 : w2.heap[w.heap.size]? = some so0 := by (rw [hq]; exact H1.out.1)
       have d4 := H0.out.2.2.2.2.2 w2 B2; have zc0 : w2.cell? ⟨w.heap.size, 0, none⟩ = some (.int .i64 0) := (bk_cell k2 0).trans rfl; have zf0 : w2.frozen? ⟨w.heap.size, 0, none⟩ = false := bk_free k2 0; have zc1 : w2.cell? ⟨w.heap.size, 1, none⟩ = some (.int .i64 0) := (bk_cell k2 1).trans rfl; have zf1 : w2.frozen? ⟨w.heap.size, 1, none⟩ = false := bk_free k2 1; have zc2 : w2.cell? ⟨w.heap.size, 2, none⟩ = some (.int .i64 0) := (bk_cell k2 2).trans rfl; have zf2 : w2.frozen? ⟨w.heap.size, 2, none⟩ = false := bk_free k2 2; have zc3 : w2.cell? ⟨w.heap.size, 3, none⟩ = some (.slice none 0 0) := (bk_cell k2 3).trans rfl; have zf3 : w2.frozen? ⟨w.heap.size, 3, none⟩ = false := bk_free k2 3; have zc4 : w2.cell? ⟨w.heap.size, 4, none⟩ = some (.bool false) := (bk_cell k2 4).trans rfl; have zf4 : w2.frozen? ⟨w.heap.size, 4, none⟩ = false := bk_free k2 4; have zc5 : w2.cell? ⟨w.heap.size, 5, none⟩ = some (.bool false) := (bk_cell k2 5).trans rfl; have zf5 : w2.frozen? ⟨w.heap.size, 5, none⟩ = false := bk_free k2 5; have zc6 : w2.cell? ⟨w.heap.size, 6, none⟩ = some (.bool false) := (bk_cell k2 6).trans rfl; have zf6 : w2.frozen? ⟨w.heap.size, 6, none⟩ = false := bk_free k2 6; have hsz : w.heap.size < w2.heap.size := (Array.getElem?_eq_some_iff.1 k2).1; have H2 : Hid _ := And.intro k2 B2; clear k2 B2 hq))
  exact bodyPost_ret (v := .agg (so7c 0 0 (.slice none 0 0) false false (decide (0 < q0)))) (results_cell_row (t := 30) rfl _ _ w.heap.size _ (fr := (0, 0)) _ rfl (put7_blk H2.out.1 0 0 (.slice none 0 0) false false (decide (0 < q0))) Tryd.underlying30 rfl infoSObs) rfl ⟨_, rfl, World.ownsRow_nil _ _ _ _, (H0.out.2.2.1.below H2.out.2).chg (put7_chg w2 w.heap.size 0 0 (.slice none 0 0) false false (decide (0 < q0))) (fun t ht e => by have := H0.out.2.2.2.1 t ht; omega), (Chg.of_below H2.out.2).new (put7_chg w2 w.heap.size 0 0 (.slice none 0 0) false false (decide (0 < q0))) (Nat.le_refl _)⟩
theorem eqnilZ (b off n cp : Nat) (w : World) : (binOp .eql 22 (.slice (some ⟨b, off, none⟩) n cp) (.slice none 0 0)).run Tryd.prog w = .ok (.bool false) w := by kernel_rfl
set_option maxRecDepth 20000 in
set_option maxHeartbeats 1000000 in
theorem cloneZ (b off n cap : Nat) (xs : List Int) (w : World) (hr : Row w .u8 (.slice (some ⟨b, off, none⟩) n cap) xs) (hl : xs.length ≤ 1048576) :
    Calls Tryd.prog 37 #[.slice (some ⟨b, off, none⟩) n cap] w fun e w' => ∃ r, e = .returned r ∧ w'.ownsRow w.heap.size 5 1 r xs.length (xs.map (Value.int .u8)) ∧ Below w.heap.size w w' := by
  have ba : Below w.heap.size w (w.alloc (.cells #[] 5)) := (Below.refl _ _).alloc (Nat.le_refl _) _
  have HN : Hid _ := And.intro (hr.below ba) (And.intro ba hl)
  have hnil := eqnilZ b off n cap w
  clear hr ba hl
  go_enter Tryd.func37, Tryd.ntmps37
  go_wp2_with (at_builtin; refine wpList_append_rowT rfl _ _ rfl w.heap.size (.slice (some ⟨w.heap.size, 0, none⟩) 0 0) 0 [] rfl (World.ownsRow_lit w #[] 0 (Nat.le_refl _) (by decide) rfl) _ xs rfl HN.out.1 (by have := HN.out.2.2; omega) (by simp) ?_; intro v' w2 hown2 hgrow at2)
  have R : w2.ownsRow w.heap.size 5 1 v' xs.length (xs.map (Value.int .u8)) := by simpa using hown2
  have B : Below w.heap.size w w2 := HN.out.2.1.grown hgrow (by simp) (by intro k hk; simp [Value.ownBlock] at hk; omega)
  have HR : Hid _ := And.intro R B
  clear R B hown2 hgrow at2
  go_wp2
  go_ret
  exact ⟨_, rfl, HR.out.1, HR.out.2⟩
set_option maxRecDepth 20000 in
theorem cloneN (w : World) :
    Calls Tryd.prog 37 #[.slice none 0 0] w fun e w' => e = .returned (.slice none 0 0) ∧ w' = w := by
  have hnil : (binOp .eql 22 (.slice none 0 0) (.slice none 0 0)).run Tryd.prog w = .ok (.bool true) w := by kernel_rfl
  go_enter Tryd.func37, Tryd.ntmps37
  go_wp2
  go_ret
  exact ⟨rfl, rfl⟩
end Go.Proofs.YtpdclbfjngmppaaDoor

namespace Go.Proofs.YtpdclbfjngmppaaDoor
open Go.RowKit
set_option linter.unusedVariables false
set_option linter.unusedSimpArgs false

theorem mtS2 (st : Nat) (hs : st < 3) : (if mtV 1 st 2 = true then 2 else st) = 2 := by
  have : st = 0 ∨ st = 1 ∨ st = 2 := by omega
  rcases this with rfl | rfl | rfl <;> rfl
theorem mtS1 (st : Nat) (hs : st < 3) : (if mtV 1 st 1 = true then 1 else st) = if st = 0 then 1 else st := by
  have : st = 0 ∨ st = 1 ∨ st = 2 := by omega
  rcases this with rfl | rfl | rfl <;> rfl
theorem SI.le3 {m : SS} (I : SI m) (p : Nat) : m.W.getD p 0 ≤ 3 := by
  by_cases h : p < m.next
  · exact (I.old p h).2
  · have := I.new p (by omega); omega
theorem PRep.cells {w : World} {D : Nat → Prop} {g base : Nat} {m : SS} (h : PRep w D g base m) : w.cell? ⟨g, 9, none⟩ = some (.bool m.finish) ∧ w.cell? ⟨g, 8, none⟩ = some (.int .u8 (m.fin : Int)) ∧ w.frozen? ⟨g, 8, none⟩ = false ∧ ∃ da dc, w.cell? ⟨g, 2, none⟩ = some (.slice da m.B.length dc) := by
  obtain ⟨vd, vh, hb, hA⟩ := h
  obtain ⟨⟨da, dc, rfl⟩, _⟩ := hA.shape
  exact ⟨(bk_cell hb 9).trans rfl, (bk_cell hb 8).trans rfl, bk_free hb 8, da, dc, (bk_cell hb 2).trans rfl⟩
theorem PRep.setFin {w : World} {D : Nat → Prop} {g base : Nat} {m : SS} (h : PRep w D g base m) (x : Nat) : PRep (w.setCell ⟨g, 8, none⟩ (.int .u8 (x : Int))) D g base { m with fin := x } ∧ Chg D w (w.setCell ⟨g, 8, none⟩ (.int .u8 (x : Int))) := by
  obtain ⟨vd, vh, hb, hA⟩ := h
  exact ⟨⟨vd, vh, bk_set hb 8 _, hA.setG (own_gt hA.oh hb (by decide)) (own_gt hA.od hb (by decide)) 8 _⟩, (chg_of_eq w).setD g 8 _ (Or.inl hA.dg)⟩
theorem turnPs (g base x : Nat) (m : SS) (D : Nat → Prop) (h1 : 1 ≤ x) (h5 : x ≤ 5) (w : World) (hE : NE w D) (hs : m.st < 6) (hR : PRep w D g base m) :
    Calls Tryd.prog 36 #[.pointer (some ⟨g, 0, none⟩), .int .i64 (x : Int)] w fun e w' => e = .returned (.bool (mtV 1 m.st x)) ∧ PRep w' D g base { m with st := if mtV 1 m.st x then x else m.st } ∧ Chg D w w' := by
  obtain ⟨vd, vh, hb, hA⟩ := hR
  refine (turnS g m.st x vd vh _ _ _ _ m.credit m.fin m.finish hs h1 h5 w hE.tab hE.t0 hb).mono ?_
  rintro e w' ⟨rfl, h2, h3⟩
  exact ⟨rfl, ⟨vd, vh, h2, hA.chgG hb h3⟩, h3.mono' (fun k _ e => by rw [e]; exact hA.dg)⟩
theorem PRep.nextTo {w : World} {D : Nat → Prop} {g base : Nat} {m : SS} (h : PRep w D g base m) (k : Nat) : PRep w D g base { m with next := k } := h
/-- A piece of what was written. -/
theorem PRep.part {w : World} {D : Nat → Prop} {g base a b : Nat} {m : SS} (h : PRep w D g base m) (hab : a ≤ b) (hb : b ≤ m.B.length) :
    (w.cell? ⟨g, 2, none⟩ = some (.slice none 0 0) ∧ m.B.length = 0) ∨ ∃ d dc, w.cell? ⟨g, 2, none⟩ = some (.slice (some ⟨d, 0, none⟩) m.B.length dc) ∧ m.B.length ≤ dc ∧ (∀ o, a = b → Row w .u8 (.slice (some ⟨d, o, none⟩) (b - a) (dc - a)) ((m.B.drop a).take (b - a))) ∧ Row w .u8 (.slice (some ⟨d, a, none⟩) (b - a) (dc - a)) ((m.B.drop a).take (b - a)) := by
  obtain ⟨vd, vh, hbb, hA⟩ := h
  rcases hA.od.2 with ⟨rfl, h1⟩ | ⟨d, dc, cur, rfl, hg, hh, hnc, hr⟩
  · exact Or.inl ⟨(bk_cell hbb 2).trans rfl, h1⟩
  · refine Or.inr ⟨d, dc, (bk_cell hbb 2).trans rfl, hnc, ?_, ?_⟩
    · intro o e
      subst e
      rw [Nat.sub_self]
      exact Or.inl ⟨by simp, _, _, rfl⟩
    · by_cases e : a = b
      · subst e
        rw [Nat.sub_self]
        exact Or.inl ⟨by simp, _, _, rfl⟩
      · have hc : ∀ j, j < m.B.length → w.cell? ⟨d, 0 + j, none⟩ = some (.int .u8 (m.B.getD j 0)) := fun j hj => by
          rw [Nat.zero_add, hA.od.cellAt j (by omega)]
          simp [List.getD, hj]
        have := row_cut (w := w) (k := .u8) (xs := m.B) (b := d) (off := 0) (at' := a) (n := b - a) (cap' := dc - a) (cap := dc) (Array.getElem?_eq_some_iff.1 hh).1 hc (by omega) (by omega)
        rw [Nat.zero_add] at this
        exact this
set_option maxRecDepth 20000 in
set_option maxHeartbeats 8000000 in
theorem pullI_some (g base n a b : Nat) (m : SS) (D : Nat → Prop) (w : World) (hE : NE w D) (I : SI m) (hR : PRep w D g base m) (h1 : 1 ≤ n) (h5 : n ≤ 1500) (hcr : m.credit ≤ 9223372036854775807) (hl : m.live = true) (hp : spiece m n = some (a, b)) :
    Calls Tryd.prog 27 #[.pointer (some ⟨g, 0, none⟩), .int .i64 (n : Int)] w fun e w' => PullI g base m n D w e w' := by
  obtain ⟨hab, han, hbB, hban, -, -⟩ := spiece_ok I hp
  have hst : m.st < 3 := by simpa [SS.live] using hl
  obtain ⟨f, ef⟩ : ∃ f, f = (m.finish && decide (b = m.B.length) && decide (m.fin ≠ 2)) := ⟨_, rfl⟩
  have e : spull m n = ({ m with W := setN m.W a b 1, next := max m.next b, fin := if f then 1 else m.fin, st := if f then 2 else if m.st = 0 then 1 else m.st }, a, (m.B.drop a).take (b - a), true, f, false) := by unfold spull; rw [if_neg (by rw [hl]; decide), hp, ef]
  obtain ⟨M2, eM2⟩ : ∃ M, M = { m with W := setN m.W a b 1, next := max m.next b, fin := if f then 1 else m.fin, st := if f then 2 else if m.st = 0 then 1 else m.st } := ⟨_, rfl⟩
  obtain ⟨X, eX⟩ : ∃ X, X = (m.B.drop a).take (b - a) := ⟨_, rfl⟩
  rw [← eM2, ← eX] at e
  unfold PullI
  rw [e]
  have BA : Below w.heap.size w (w.alloc so0) := (Below.refl _ _).alloc (Nat.le_refl _) _
  have C := goingP g base m D _ (hE.below BA) I (hR.below BA)
  rw [hl] at C
  have hlt := hR.lt
  have hsz : w.heap.size < (w.alloc so0).heap.size := by simp
  have key : ∀ w1, Below (w.alloc so0).heap.size (w.alloc so0) w1 → w1.heap[w.heap.size]? = some so0 ∧ Below w.heap.size w w1 := fun w1 b1 => ⟨(b1.block _ hsz).trans (heap_alloc_new w _), BA.trans (b1.mono (by simp))⟩
  have CN : ∀ w1, Below w.heap.size w w1 → Calls Tryd.prog 34 #[.pointer (some ⟨g, 0, none⟩), .int .i64 (n : Int)] w1 fun e w' => e = .returned (nV m (some (a, b))) ∧ ∃ q, w' = w1.drewN q := fun w1 b1 => by
    have := nextPieceP g base m n D w1 I (hR.below b1) h5 hcr
    rw [hp] at this
    exact this
  have hbig := I.big
  have CS : ∀ w1, Below w.heap.size w w1 → Calls Tryd.prog 35 #[.pointer (some ⟨g, 0, none⟩), .int .i64 (a : Int), .int .i64 (b : Int), .int .u8 1] w1 fun e w' => e = .returned (.tuple #[]) ∧ PRep w' D g base { m with W := setN m.W a b 1 } ∧ Chg D w1 w' := fun w1 b1 => settleP g base a b 1 m D w1 (hR.below b1) (by rw [I.len]; exact I.big) hab (by rw [I.len]; exact hbB) (Or.inl rfl) I.le3
  have hND : ∀ t, D t → t ≠ w.heap.size := fun t ht => by have := hlt t ht; omega
  have H0 : Hid _ := And.intro C (And.intro key (And.intro hR (And.intro hlt (And.intro CN (And.intro CS (And.intro hE (And.intro ef hND)))))))
  have HM : Hid _ := And.intro eM2 eX
  have hgl : g < w.heap.size := hlt g hR.dg
  clear C BA hR hE I hl e hlt hsz key CN CS hp hcr ef hND eM2 eX
  unfold nV at H0
  go_enter Tryd.func27, Tryd.ntmps27
  go_upto_region 9 with (first
    | (go_at_call 33; refine H0.out.1.mono ?_; rintro e w1 ⟨rfl, b1⟩; obtain ⟨k1, B1⟩ := H0.out.2.1 w1 b1; have H1 : Hid _ := And.intro k1 B1; clear b1 k1 B1)
    | (go_at_call 34; refine (H0.out.2.2.2.2.1 w1 H1.out.2).mono ?_; rintro e w2 ⟨rfl, q, hq⟩; have H2 : Hid _ := And.intro (show Below w.heap.size w w2 by (rw [hq]; exact below_drewN H1.out.2 q)) (show w2.heap[w.heap.size]? = some so0 by (rw [hq]; exact H1.out.1)); clear hq)
    | (go_at_call 35; refine (H0.out.2.2.2.2.2.1 w2 H2.out.1).mono ?_; rintro e w3 ⟨rfl, r3, c3⟩; have H3 : Hid _ := And.intro r3 (And.intro c3 (show w3.heap[w.heap.size]? = some so0 from (c3.block _ (Array.getElem?_eq_some_iff.1 H2.out.2).1 (fun h => H0.out.2.2.2.2.2.2.2.2 _ h rfl)).trans H2.out.2)); clear r3 c3))
  obtain ⟨d9, d8, f8, da, dc, d2⟩ := H3.out.1.cells
  obtain ⟨L, eL⟩ : ∃ L, L = m.B.length := ⟨_, rfl⟩
  rw [← eL] at hbB hbig
  have d2' : w3.cell? ⟨g, 2, none⟩ = some (.slice da L dc) := by rw [eL]; exact d2
  have hg3 : g < w3.heap.size := H3.out.1.lt g H3.out.1.dg
  clear d2
  go_cut [8] from 40 to 59 (fun v8 wx => v8 = .bool f ∧ wx = w3)
  case first =>
    have ef := H0.out.2.2.2.2.2.2.2.1
    rw [← eL] at ef
    have E : Hid _ := And.intro ef eL
    clear ef eL
    cases hf : m.finish
    · rw [hf] at d9 E
      go_wp2_with fail
      go_meet
      exact ⟨by rw [E.out.1]; rfl, rfl⟩
    · rw [hf] at d9 E
      by_cases e1 : b = L
      · have z1 : ((b : Int) == (L : Int)) = true := by simp [e1]
        have E1 : Hid _ := And.intro e1 True.intro
        clear e1
        by_cases e2 : m.fin = 2
        · rw [e2] at d8
          go_wp2_with fail
          go_meet
          exact ⟨by rw [E.out.1, e2]; simp, rfl⟩
        · have z2 : ((m.fin : Int) != 2) = true := by simp; omega
          have E2 : Hid _ := And.intro e2 True.intro
          clear e2
          go_wp2_with fail
          go_meet
          exact ⟨by rw [E.out.1, decide_eq_true E1.out.1, decide_eq_true E2.out.1]; first | rfl | simp [z1, z2], rfl⟩
      · have z1 : ((b : Int) == (L : Int)) = false := by simp; omega
        have E1 : Hid _ := And.intro e1 True.intro
        clear e1
        go_wp2_with fail
        go_meet
        exact ⟨by rw [E.out.1, decide_eq_false E1.out.1]; simp, rfl⟩
  case rest =>
  obtain ⟨rfl, ew⟩ := hcut
  subst wc
  have hE3 : NE w3 D := (H0.out.2.2.2.2.2.2.1.below H2.out.1).chg H3.out.2.1
  have P1 : PRep (w3.setCell ⟨g, 8, none⟩ (.int .u8 1)) D g base { m with W := setN m.W a b 1, fin := 1 } ∧ Chg D w3 (w3.setCell ⟨g, 8, none⟩ (.int .u8 1)) := H3.out.1.setFin 1
  have T2 := turnPs g base 2 { m with W := setN m.W a b 1, fin := 1 } D (by decide) (by decide) _ (hE3.chg P1.2) (Nat.lt_trans hst (by decide)) P1.1
  have T1 := turnPs g base 1 { m with W := setN m.W a b 1 } D (by decide) (by decide) _ hE3 (Nat.lt_trans hst (by decide)) H3.out.1
  have HT : Hid _ := And.intro P1.2 (And.intro T2 T1)
  have EL : Hid _ := And.intro eL True.intro
  clear hE3 P1 T2 T1 d9 d2' eL
  go_upto_if 60 with fail
  go_cut [8] from 61 to 71 (fun v8 wx => v8 = .bool f ∧ PRep wx D g base M2 ∧ Chg D w3 wx)
  case first =>
    cases f
    · clear d8 f8
      go_wp2_with (go_at_call 36; refine HT.out.2.2.mono ?_; rintro e w4 ⟨rfl, r4, c4⟩; have H4 : Hid _ := And.intro r4 c4; clear r4 c4)
      go_meet
      refine ⟨rfl, ?_, H4.out.2⟩
      have t := H4.out.1
      simp only [mtS1 m.st hst] at t
      rw [HM.out.1]
      exact t.nextTo _
    · go_wp2_with (go_at_call 36; refine HT.out.2.1.mono ?_; rintro e w4 ⟨rfl, r4, c4⟩; have H4 : Hid _ := And.intro r4 c4; clear r4 c4)
      go_meet
      refine ⟨rfl, ?_, HT.out.1.trans H4.out.2⟩
      have t := H4.out.1
      simp only [mtS2 m.st hst] at t
      rw [HM.out.1]
      exact t.nextTo _
  case rest =>
  obtain ⟨rfl, r4, c4⟩ := hcut
  have H4 : Hid _ := And.intro r4 (And.intro c4 (And.intro (show wc.heap[w.heap.size]? = some so0 from (c4.block _ (Array.getElem?_eq_some_iff.1 H3.out.2.2).1 (fun h => H0.out.2.2.2.2.2.2.2.2 _ h rfl)).trans H3.out.2.2) (show w.heap.size < wc.heap.size from Nat.lt_of_lt_of_le (Array.getElem?_eq_some_iff.1 H3.out.2.2).1 c4.size)))
  have hlen : X.length = b - a := by have := EL.out.1; rw [HM.out.2, List.length_take, List.length_drop]; omega
  have eB : M2.B = m.B := by rw [HM.out.1]
  have hg4 : g < wc.heap.size := r4.lt g r4.dg
  have pt := r4.part (a := a) (b := b) hab (by have := EL.out.1; rw [eB]; omega)
  rw [eB, ← HM.out.2] at pt
  clear eB
  clear r4 c4 d8 f8
  rcases pt with ⟨d2, hL0⟩ | ⟨d, dc, d2, hLc, hrow0, hrow⟩
  · obtain rfl : b = 0 := by have := EL.out.1; omega
    obtain rfl : a = 0 := by omega
    have c := cloneN wc
    have CL : Hid _ := And.intro (c.mono (R' := fun e w' => ∃ r, e = .returned r ∧ w'.ownsRow wc.heap.size 5 1 r X.length (X.map (Value.int .u8)) ∧ Below wc.heap.size wc w') (by rintro e w' ⟨rfl, rfl⟩; rw [show X = [] from List.eq_nil_of_length_eq_zero hlen]; exact ⟨_, rfl, World.ownsRow_nil _ _ _ _, Below.refl _ _⟩)) hlen
    clear c hL0 hlen
    go_wp2_with (go_at_call 37; refine CL.out.1.mono ?_; rintro e w5 ⟨r, rfl, o5, b5⟩; have k5 : w5.heap[w.heap.size]? = some so0 := (b5.block _ H4.out.2.2.2).trans H4.out.2.2.1; have zc0 : w5.cell? ⟨w.heap.size, 0, none⟩ = some (.int .i64 0) := (bk_cell k5 0).trans rfl; have zf0 : w5.frozen? ⟨w.heap.size, 0, none⟩ = false := bk_free k5 0; have zc1 : w5.cell? ⟨w.heap.size, 1, none⟩ = some (.int .i64 0) := (bk_cell k5 1).trans rfl; have zf1 : w5.frozen? ⟨w.heap.size, 1, none⟩ = false := bk_free k5 1; have zc2 : w5.cell? ⟨w.heap.size, 2, none⟩ = some (.int .i64 0) := (bk_cell k5 2).trans rfl; have zf2 : w5.frozen? ⟨w.heap.size, 2, none⟩ = false := bk_free k5 2; have zc3 : w5.cell? ⟨w.heap.size, 3, none⟩ = some (.slice none 0 0) := (bk_cell k5 3).trans rfl; have zf3 : w5.frozen? ⟨w.heap.size, 3, none⟩ = false := bk_free k5 3; have zc4 : w5.cell? ⟨w.heap.size, 4, none⟩ = some (.bool false) := (bk_cell k5 4).trans rfl; have zf4 : w5.frozen? ⟨w.heap.size, 4, none⟩ = false := bk_free k5 4; have zc5 : w5.cell? ⟨w.heap.size, 5, none⟩ = some (.bool false) := (bk_cell k5 5).trans rfl; have zf5 : w5.frozen? ⟨w.heap.size, 5, none⟩ = false := bk_free k5 5; have zc6 : w5.cell? ⟨w.heap.size, 6, none⟩ = some (.bool false) := (bk_cell k5 6).trans rfl; have zf6 : w5.frozen? ⟨w.heap.size, 6, none⟩ = false := bk_free k5 6; have hsz : w.heap.size < w5.heap.size := (Array.getElem?_eq_some_iff.1 k5).1; obtain ⟨ra, rc, er⟩ := own_form o5; rw [CL.out.2] at er; subst er; have H5 : Hid _ := And.intro k5 (And.intro o5 b5); clear k5 o5 b5)
    exact bodyPost_ret (v := .agg (so7c 0 0 (.slice ra 0 rc) true f false)) (results_cell_row (t := 30) rfl _ _ w.heap.size _ (fr := (0, 0)) _ rfl (put7_blk H5.out.1 0 0 (.slice ra 0 rc) true f false) Tryd.underlying30 rfl infoSObs) rfl ⟨_, rfl, owns_mono (ownsChg (put7_chg w5 w.heap.size 0 0 (.slice ra 0 rc) true f false) H5.out.2.1 (fun t ht e => by have t1 := (H5.out.2.1.lt t ht).1; have t2 : t = w.heap.size := e; have t3 := H4.out.2.2.2; omega)) (by have t3 := H4.out.2.2.2; omega), (H4.out.1.below H5.out.2.2).chg (put7_chg w5 w.heap.size 0 0 (.slice ra 0 rc) true f false) (fun t ht => H0.out.2.2.2.2.2.2.2.2 t ht), (((Chg.of_below H2.out.1).trans (H3.out.2.1.trans (H4.out.2.1.trans (Chg.of_below H5.out.2.2)))).new (put7_chg w5 w.heap.size 0 0 (.slice ra 0 rc) true f false) (Nat.le_refl _))⟩
  · have d2' : wc.cell? ⟨g, 2, none⟩ = some (.slice (some ⟨d, 0, none⟩) L dc) := by rw [EL.out.1]; exact d2
    have hLc' : L ≤ dc := by rw [EL.out.1]; exact hLc
    have hba : ((b : Int) - (a : Int)).toNat = b - a := by omega
    by_cases hda : dc = a
    · obtain rfl : b = a := by omega
      obtain rfl : dc = b := by omega
      obtain rfl : L = dc := by omega
      have CL : Hid _ := And.intro (fun o => cloneZ d o 0 0 X wc (by have t := hrow0 o rfl; rw [Nat.sub_self] at t; exact t) (by rw [hlen]; omega)) (show X.length = 0 by rw [hlen, Nat.sub_self])
      clear d2 hLc hrow0 hrow hlen
      go_wp2_with (go_at_call 37; refine (CL.out.1 _).mono ?_; rintro e w5 ⟨r, rfl, o5, b5⟩; have k5 : w5.heap[w.heap.size]? = some so0 := (b5.block _ H4.out.2.2.2).trans H4.out.2.2.1; have zc0 : w5.cell? ⟨w.heap.size, 0, none⟩ = some (.int .i64 0) := (bk_cell k5 0).trans rfl; have zf0 : w5.frozen? ⟨w.heap.size, 0, none⟩ = false := bk_free k5 0; have zc1 : w5.cell? ⟨w.heap.size, 1, none⟩ = some (.int .i64 0) := (bk_cell k5 1).trans rfl; have zf1 : w5.frozen? ⟨w.heap.size, 1, none⟩ = false := bk_free k5 1; have zc2 : w5.cell? ⟨w.heap.size, 2, none⟩ = some (.int .i64 0) := (bk_cell k5 2).trans rfl; have zf2 : w5.frozen? ⟨w.heap.size, 2, none⟩ = false := bk_free k5 2; have zc3 : w5.cell? ⟨w.heap.size, 3, none⟩ = some (.slice none 0 0) := (bk_cell k5 3).trans rfl; have zf3 : w5.frozen? ⟨w.heap.size, 3, none⟩ = false := bk_free k5 3; have zc4 : w5.cell? ⟨w.heap.size, 4, none⟩ = some (.bool false) := (bk_cell k5 4).trans rfl; have zf4 : w5.frozen? ⟨w.heap.size, 4, none⟩ = false := bk_free k5 4; have zc5 : w5.cell? ⟨w.heap.size, 5, none⟩ = some (.bool false) := (bk_cell k5 5).trans rfl; have zf5 : w5.frozen? ⟨w.heap.size, 5, none⟩ = false := bk_free k5 5; have zc6 : w5.cell? ⟨w.heap.size, 6, none⟩ = some (.bool false) := (bk_cell k5 6).trans rfl; have zf6 : w5.frozen? ⟨w.heap.size, 6, none⟩ = false := bk_free k5 6; have hsz : w.heap.size < w5.heap.size := (Array.getElem?_eq_some_iff.1 k5).1; obtain ⟨ra, rc, er⟩ := own_form o5; rw [CL.out.2] at er; subst er; have H5 : Hid _ := And.intro k5 (And.intro o5 b5); clear k5 o5 b5)
      exact bodyPost_ret (v := .agg (so7c 0 (L : Int) (.slice ra 0 rc) true f false)) (results_cell_row (t := 30) rfl _ _ w.heap.size _ (fr := (0, 0)) _ rfl (put7_blk H5.out.1 0 (L : Int) (.slice ra 0 rc) true f false) Tryd.underlying30 rfl infoSObs) rfl ⟨_, rfl, owns_mono (ownsChg (put7_chg w5 w.heap.size 0 (L : Int) (.slice ra 0 rc) true f false) H5.out.2.1 (fun t ht e => by have t1 := (H5.out.2.1.lt t ht).1; have t2 : t = w.heap.size := e; have t3 := H4.out.2.2.2; omega)) (by have t3 := H4.out.2.2.2; omega), (H4.out.1.below H5.out.2.2).chg (put7_chg w5 w.heap.size 0 (L : Int) (.slice ra 0 rc) true f false) (fun t ht => H0.out.2.2.2.2.2.2.2.2 t ht), (((Chg.of_below H2.out.1).trans (H3.out.2.1.trans (H4.out.2.1.trans (Chg.of_below H5.out.2.2)))).new (put7_chg w5 w.heap.size 0 (L : Int) (.slice ra 0 rc) true f false) (Nat.le_refl _))⟩
    · have CL : Hid _ := And.intro (cloneZ d a (b - a) (dc - a) _ wc hrow (by rw [hlen]; omega)) hlen
      clear d2 hLc hrow0 hrow hlen
      go_wp2_with (go_at_call 37; refine CL.out.1.mono ?_; rintro e w5 ⟨r, rfl, o5, b5⟩; have k5 : w5.heap[w.heap.size]? = some so0 := (b5.block _ H4.out.2.2.2).trans H4.out.2.2.1; have zc0 : w5.cell? ⟨w.heap.size, 0, none⟩ = some (.int .i64 0) := (bk_cell k5 0).trans rfl; have zf0 : w5.frozen? ⟨w.heap.size, 0, none⟩ = false := bk_free k5 0; have zc1 : w5.cell? ⟨w.heap.size, 1, none⟩ = some (.int .i64 0) := (bk_cell k5 1).trans rfl; have zf1 : w5.frozen? ⟨w.heap.size, 1, none⟩ = false := bk_free k5 1; have zc2 : w5.cell? ⟨w.heap.size, 2, none⟩ = some (.int .i64 0) := (bk_cell k5 2).trans rfl; have zf2 : w5.frozen? ⟨w.heap.size, 2, none⟩ = false := bk_free k5 2; have zc3 : w5.cell? ⟨w.heap.size, 3, none⟩ = some (.slice none 0 0) := (bk_cell k5 3).trans rfl; have zf3 : w5.frozen? ⟨w.heap.size, 3, none⟩ = false := bk_free k5 3; have zc4 : w5.cell? ⟨w.heap.size, 4, none⟩ = some (.bool false) := (bk_cell k5 4).trans rfl; have zf4 : w5.frozen? ⟨w.heap.size, 4, none⟩ = false := bk_free k5 4; have zc5 : w5.cell? ⟨w.heap.size, 5, none⟩ = some (.bool false) := (bk_cell k5 5).trans rfl; have zf5 : w5.frozen? ⟨w.heap.size, 5, none⟩ = false := bk_free k5 5; have zc6 : w5.cell? ⟨w.heap.size, 6, none⟩ = some (.bool false) := (bk_cell k5 6).trans rfl; have zf6 : w5.frozen? ⟨w.heap.size, 6, none⟩ = false := bk_free k5 6; have hsz : w.heap.size < w5.heap.size := (Array.getElem?_eq_some_iff.1 k5).1; obtain ⟨ra, rc, er⟩ := own_form o5; rw [CL.out.2] at er; subst er; have H5 : Hid _ := And.intro k5 (And.intro o5 b5); clear k5 o5 b5)
      exact bodyPost_ret (v := .agg (so7c 0 (a : Int) (.slice ra (b - a) rc) true f false)) (results_cell_row (t := 30) rfl _ _ w.heap.size _ (fr := (0, 0)) _ rfl (put7_blk H5.out.1 0 (a : Int) (.slice ra (b - a) rc) true f false) Tryd.underlying30 rfl infoSObs) rfl ⟨_, rfl, owns_mono (ownsChg (put7_chg w5 w.heap.size 0 (a : Int) (.slice ra (b - a) rc) true f false) H5.out.2.1 (fun t ht e => by have t1 := (H5.out.2.1.lt t ht).1; have t2 : t = w.heap.size := e; have t3 := H4.out.2.2.2; omega)) (by have t3 := H4.out.2.2.2; omega), (H4.out.1.below H5.out.2.2).chg (put7_chg w5 w.heap.size 0 (a : Int) (.slice ra (b - a) rc) true f false) (fun t ht => H0.out.2.2.2.2.2.2.2.2 t ht), (((Chg.of_below H2.out.1).trans (H3.out.2.1.trans (H4.out.2.1.trans (Chg.of_below H5.out.2.2)))).new (put7_chg w5 w.heap.size 0 (a : Int) (.slice ra (b - a) rc) true f false) (Nat.le_refl _))⟩
theorem pullI (g base n : Nat) (m : SS) (D : Nat → Prop) (w : World) (hE : NE w D) (I : SI m) (hR : PRep w D g base m) (h1 : 1 ≤ n) (h5 : n ≤ 1500) (hcr : m.credit ≤ 9223372036854775807) :
    Calls Tryd.prog 27 #[.pointer (some ⟨g, 0, none⟩), .int .i64 (n : Int)] w fun e w' => PullI g base m n D w e w' := by
  cases hl : m.live
  · exact pullI_dead g base n m D w hE I hR h1 h5 hl
  · cases hp : spiece m n with
    | none => exact pullI_none g base n m D w hE I hR h1 h5 hcr hl hp
    | some z => exact pullI_some g base n z.1 z.2 m D w hE I hR h1 h5 hcr hl hp
end Go.Proofs.YtpdclbfjngmppaaDoor

namespace Go.Proofs.YtpdclbfjngmppaaDoor
open Go.RowKit
set_option linter.unusedVariables false
set_option linter.unusedSimpArgs false

set_option maxRecDepth 20000 in
set_option maxHeartbeats 2000000 in
theorem hear_no1 (g base : Nat) (m : SS) (off n : Int) (fb : Bool) (how : Nat) (D : Nat → Prop) (w : World) (hE : NE w D) (I : SI m) (hR : PRep w D g base m) (h : off < 0 ∨ n < 0) :
    Calls Tryd.prog 28 #[.pointer (some ⟨g, 0, none⟩), .int .i64 off, .int .i64 n, .bool fb, .int .u8 (how : Int)] w fun e w' => e = .returned (.int .i64 1) ∧ Below w.heap.size w w' := by
  have CB := begunM g base m D w I hR
  have hbig := I.big
  have hnx := I.nx
  obtain ⟨L, eL⟩ : ∃ L, L = m.B.length := ⟨_, rfl⟩
  rw [← eL] at hbig hnx
  have H0 : Hid _ := And.intro CB (And.intro hR eL)
  clear CB hR eL hE I
  rcases h with h | h
  · go_enter Tryd.func28, Tryd.ntmps28
    go_wp2
    go_ret
    exact ⟨rfl, Below.refl _ _⟩
  · by_cases h2 : off < 0
    · go_enter Tryd.func28, Tryd.ntmps28
      go_wp2
      go_ret
      exact ⟨rfl, Below.refl _ _⟩
    · go_enter Tryd.func28, Tryd.ntmps28
      go_wp2
      go_ret
      exact ⟨rfl, Below.refl _ _⟩
set_option maxRecDepth 20000 in
set_option maxHeartbeats 2000000 in
theorem hear_no2 (g base : Nat) (m : SS) (off n : Int) (fb : Bool) (how : Nat) (D : Nat → Prop) (w : World) (hE : NE w D) (I : SI m) (hR : PRep w D g base m) (h1 : 0 ≤ off) (h2 : 0 ≤ n) (hn : n ≤ 9223372036854775807) (h3 : (m.next : Int) - n < off) :
    Calls Tryd.prog 28 #[.pointer (some ⟨g, 0, none⟩), .int .i64 off, .int .i64 n, .bool fb, .int .u8 (how : Int)] w fun e w' => e = .returned (.int .i64 1) ∧ Below w.heap.size w w' := by
  have CB := begunM g base m D w I hR
  have hbig := I.big
  have hnx := I.nx
  obtain ⟨L, eL⟩ : ∃ L, L = m.B.length := ⟨_, rfl⟩
  rw [← eL] at hbig hnx
  have H0 : Hid _ := And.intro CB (And.intro hR eL)
  clear CB hR eL hE I
  go_enter Tryd.func28, Tryd.ntmps28
  go_wp2_with (go_at_call 38; refine H0.out.1.mono ?_; rintro e w1 ⟨rfl, q, hq⟩; have B1 : Hid (Below w.heap.size w w1) := (by rw [hq]; exact below_refl' _ _ _); clear hq)
  go_ret
  exact ⟨rfl, B1.out⟩
set_option maxRecDepth 20000 in
set_option maxHeartbeats 2000000 in
theorem hear_no3 (g base : Nat) (m : SS) (off n : Int) (fb : Bool) (how : Nat) (D : Nat → Prop) (w : World) (hE : NE w D) (I : SI m) (hR : PRep w D g base m) (h1 : 0 ≤ off) (h2 : 0 ≤ n) (h3 : off ≤ (m.next : Int) - n) (hf : fb = true) (h4 : m.fin = 0 ∨ off + n ≠ m.B.length) :
    Calls Tryd.prog 28 #[.pointer (some ⟨g, 0, none⟩), .int .i64 off, .int .i64 n, .bool fb, .int .u8 (how : Int)] w fun e w' => e = .returned (.int .i64 1) ∧ Below w.heap.size w w' := by
  have CB := begunM g base m D w I hR
  have hbig := I.big
  have hnx := I.nx
  obtain ⟨L, eL⟩ : ∃ L, L = m.B.length := ⟨_, rfl⟩
  rw [← eL] at hbig hnx
  rw [← eL] at h4
  have H0 : Hid _ := And.intro CB (And.intro hR eL)
  clear CB hR eL hE I
  subst hf
  by_cases h5 : m.fin = 0
  · have h6 : Hid _ := And.intro h5 h4
    clear h4
    go_enter Tryd.func28, Tryd.ntmps28
    go_wp2_with (go_at_call 38; refine H0.out.1.mono ?_; rintro e w1 ⟨rfl, q, hq⟩; have B1 : Hid (Below w.heap.size w w1) := (by rw [hq]; exact below_refl' _ _ _); obtain ⟨d9, d8, f8, da, dc, d2⟩ := (H0.out.2.1.below B1.out).cells; rw [← H0.out.2.2] at d2; (try rw [h5] at d8); clear hq d9 f8)
    go_ret
    exact ⟨rfl, B1.out⟩
  · have h6 : off + n ≠ (L : Int) := h4.resolve_left h5
    have z0 : ((m.fin : Int) == 0) = false := by simp; omega
    have z1 : ((off + n) != (L : Int)) = true := by simp; omega
    have h7 : Hid _ := And.intro h5 (And.intro h6 h4)
    clear h4 h5 h6
    go_enter Tryd.func28, Tryd.ntmps28
    go_wp2_with (go_at_call 38; refine H0.out.1.mono ?_; rintro e w1 ⟨rfl, q, hq⟩; have B1 : Hid (Below w.heap.size w w1) := (by rw [hq]; exact below_refl' _ _ _); obtain ⟨d9, d8, f8, da, dc, d2⟩ := (H0.out.2.1.below B1.out).cells; rw [← H0.out.2.2] at d2; (try rw [h5] at d8); clear hq d9 f8)
    go_ret
    exact ⟨rfl, B1.out⟩
set_option maxRecDepth 20000 in
set_option maxHeartbeats 2000000 in
theorem hear_dead (g base : Nat) (m : SS) (off n : Int) (fb : Bool) (how : Nat) (D : Nat → Prop) (w : World) (hE : NE w D) (I : SI m) (hR : PRep w D g base m) (h1 : 0 ≤ off) (h2 : 0 ≤ n) (h3 : off ≤ (m.next : Int) - n) (h4 : fb = true → m.fin ≠ 0 ∧ off + n = m.B.length) (hl : m.live = false) :
    Calls Tryd.prog 28 #[.pointer (some ⟨g, 0, none⟩), .int .i64 off, .int .i64 n, .bool fb, .int .u8 (how : Int)] w fun e w' => e = .returned (.int .i64 0) ∧ Below w.heap.size w w' := by
  have CB := begunM g base m D w I hR
  have hbig := I.big
  have hnx := I.nx
  obtain ⟨L, eL⟩ : ∃ L, L = m.B.length := ⟨_, rfl⟩
  rw [← eL] at hbig hnx
  rw [← eL] at h4
  have CG : ∀ w1, Below w.heap.size w w1 → Calls Tryd.prog 33 #[.pointer (some ⟨g, 0, none⟩)] w1 fun e w' => e = .returned (.bool false) ∧ Below w1.heap.size w1 w' := fun w1 b => by
    have := goingP g base m D w1 (hE.below b) I (hR.below b)
    rw [hl] at this
    exact this
  have HG : Hid _ := And.intro CG True.intro
  clear CG hl
  have H0 : Hid _ := And.intro CB (And.intro hR eL)
  clear CB hR eL hE I
  cases fb
  · clear h4
    go_enter Tryd.func28, Tryd.ntmps28
    go_wp2_with (first | (go_at_call 38; refine H0.out.1.mono ?_; rintro e w1 ⟨rfl, q, hq⟩; have B1 : Hid (Below w.heap.size w w1) := (by rw [hq]; exact below_refl' _ _ _); clear hq) | (go_at_call 33; refine (HG.out.1 _ B1.out).mono ?_; rintro e w2 ⟨rfl, b2⟩; have B2 : Hid _ := b2; clear b2))
    go_ret
    exact ⟨rfl, B1.out.trans (B2.out.mono B1.out.size)⟩
  · have z0 : ((m.fin : Int) == 0) = false := by have := (h4 rfl).1; simp; omega
    have z1 : ((off + n) != (L : Int)) = false := by have := (h4 rfl).2; simp; omega
    have h5 : Hid _ := And.intro (h4 rfl) True.intro
    clear h4
    go_enter Tryd.func28, Tryd.ntmps28
    go_wp2_with (first | (go_at_call 38; refine H0.out.1.mono ?_; rintro e w1 ⟨rfl, q, hq⟩; have B1 : Hid (Below w.heap.size w w1) := (by rw [hq]; exact below_refl' _ _ _); obtain ⟨d9, d8, f8, da, dc, d2⟩ := (H0.out.2.1.below B1.out).cells; rw [← H0.out.2.2] at d2; clear hq d9 f8) | (go_at_call 33; refine (HG.out.1 _ B1.out).mono ?_; rintro e w2 ⟨rfl, b2⟩; have B2 : Hid _ := b2; clear b2))
    go_ret
    exact ⟨rfl, B1.out.trans (B2.out.mono B1.out.size)⟩
theorem mtS3 (st : Nat) (hs : st < 3) (h2 : 2 ≤ st) : (if mtV 1 st 3 = true then 3 else st) = 3 := by
  obtain rfl : st = 2 := by omega
  rfl
set_option maxRecDepth 20000 in
set_option maxHeartbeats 4000000 in
theorem hear_do (g base o k : Nat) (m : SS) (fb : Bool) (how : Nat) (hh : how = 2 ∨ how = 3) (D : Nat → Prop) (w : World) (hE : NE w D) (I : SI m) (I2 : SI2 m) (hR : PRep w D g base m) (h3 : o + k ≤ m.next) (h4 : fb = true → m.fin ≠ 0 ∧ o + k = m.B.length) (hl : m.live = true) :
    Calls Tryd.prog 28 #[.pointer (some ⟨g, 0, none⟩), .int .i64 (o : Int), .int .i64 (k : Int), .bool fb, .int .u8 (how : Int)] w fun e w' => e = .returned (.int .i64 0) ∧ PRep w' D g base { m with W := setN m.W o (o + k) how, fin := if fb = true ∧ m.fin ≠ 2 then how else m.fin, st := if (if fb = true ∧ m.fin ≠ 2 then how else m.fin) = 2 ∧ (setN m.W o (o + k) how).all (· == 2) then 3 else m.st } ∧ Chg D w w' := by
  have CB := begunM g base m D w I hR
  have hbig := I.big
  have hnx := I.nx
  have hst : m.st < 3 := by simpa [SS.live] using hl
  obtain ⟨W2, eW2⟩ : ∃ W2, W2 = setN m.W o (o + k) how := ⟨_, rfl⟩
  obtain ⟨cf, ecf⟩ : ∃ c, c = (fb && decide (m.fin ≠ 2)) := ⟨_, rfl⟩
  obtain ⟨f2, ef2⟩ : ∃ f2, f2 = (if fb = true ∧ m.fin ≠ 2 then how else m.fin) := ⟨_, rfl⟩
  have ef2' : f2 = if cf = true then how else m.fin := by rw [ef2, ecf]; congr 1; simp
  obtain ⟨M3, eM3⟩ : ∃ M, M = { m with W := W2, fin := f2, st := if f2 = 2 ∧ W2.all (· == 2) then 3 else m.st } := ⟨_, rfl⟩
  rw [← ef2, ← eW2, ← eM3]
  have CG : ∀ w1, Below w.heap.size w w1 → Calls Tryd.prog 33 #[.pointer (some ⟨g, 0, none⟩)] w1 fun e w' => e = .returned (.bool true) ∧ Below w1.heap.size w1 w' := fun w1 b => by
    have := goingP g base m D w1 (hE.below b) I (hR.below b)
    rw [hl] at this
    exact this
  have CS : ∀ w1, Below w.heap.size w w1 → Calls Tryd.prog 35 #[.pointer (some ⟨g, 0, none⟩), .int .i64 (o : Int), .int .i64 ((o + k : Nat) : Int), .int .u8 (how : Int)] w1 fun e w' => e = .returned (.tuple #[]) ∧ PRep w' D g base { m with W := W2 } ∧ Chg D w1 w' := fun w1 b1 => by
    rw [eW2]
    exact settleP g base o (o + k) how m D w1 (hR.below b1) (by rw [I.len]; exact I.big) (by omega) (by rw [I.len]; omega) (Or.inr hh) I.le3
  have hW2 : W2.length = m.B.length := by rw [eW2, setN_length]; exact I.len
  have h02 : f2 = 2 → 2 ≤ m.st := fun q => I2 (by
    by_cases z : fb = true ∧ m.fin ≠ 2
    · exact (h4 z.1).1
    · rw [ef2, if_neg z] at q; omega)
  obtain ⟨L, eL⟩ : ∃ L, L = m.B.length := ⟨_, rfl⟩
  rw [← eL] at hbig hnx h4 hW2
  have hok : Hid (((o : Int) + (k : Int)) = ((o + k : Nat) : Int)) := by show _ = _; omega
  have H0 : Hid _ := And.intro CB (And.intro hR eL)
  have HG : Hid _ := And.intro CG (And.intro CS (And.intro hE (And.intro hW2 (And.intro h02 (And.intro eM3 (And.intro ef2' (And.intro ecf h4)))))))
  have hfin3 := I.fin3
  clear CB hR eL hE I CG CS hW2 h02 eM3 ef2' ecf ef2 eW2 I2 hl
  go_enter Tryd.func28, Tryd.ntmps28
  go_upto_region 3 with (go_at_call 38; refine H0.out.1.mono ?_; rintro e w1 ⟨rfl, q, hq⟩; have B1 : Hid (Below w.heap.size w w1) := (by rw [hq]; exact below_refl' _ _ _); clear hq)
  go_cut [43] from 25 to 42 (fun v43 wx => v43 = .bool false ∧ wx = w1)
  case first =>
    obtain ⟨d9, d8, f8, da, dc, d2⟩ := (H0.out.2.1.below B1.out).cells
    rw [← H0.out.2.2] at d2
    clear d9 f8
    cases fb
    · go_wp2_with fail
      go_meet
      exact ⟨rfl, rfl⟩
    · have z0 : ((m.fin : Int) == 0) = false := by have := (h4 rfl).1; simp; omega
      have z1 : (((o : Int) + (k : Int)) != (L : Int)) = false := by have := (h4 rfl).2; simp; omega
      clear h4
      go_wp2_with fail
      go_meet
      exact ⟨rfl, rfl⟩
  case rest =>
  obtain ⟨rfl, ew⟩ := hcut
  subst wc
  clear h4
  go_upto_region 8 with (first | (go_at_call 33; refine (HG.out.1 _ B1.out).mono ?_; rintro e w2 ⟨rfl, b2⟩; have B2 : Hid (Below w.heap.size w w2) := B1.out.trans (b2.mono B1.out.size); clear b2) | (go_at_call 35; rw [hok.out]; refine (HG.out.2.1 _ B2.out).mono ?_; rintro e w3 ⟨rfl, r3, c3⟩; have H3 : Hid _ := And.intro r3 c3; clear r3 c3))
  go_cut [61] from 54 to 60 (fun v61 wx => v61 = .bool cf ∧ wx = w3)
  case first =>
    obtain ⟨d9, d8, f8, da, dc, d2⟩ := H3.out.1.cells
    clear d9 f8 d2
    have ecf := HG.out.2.2.2.2.2.2.2.1
    have E : Hid _ := And.intro ecf True.intro
    clear ecf
    cases fb
    · go_wp2_with fail
      go_meet
      exact ⟨by rw [E.out.1]; rfl, rfl⟩
    · by_cases e2 : m.fin = 2
      · rw [e2] at d8
        go_wp2_with fail
        go_meet
        exact ⟨by rw [E.out.1, e2]; rfl, rfl⟩
      · have z2 : ((m.fin : Int) != 2) = true := by simp; omega
        have E2 : Hid _ := And.intro e2 True.intro
        clear e2
        go_wp2_with fail
        go_meet
        exact ⟨by rw [E.out.1, decide_eq_true E2.out.1]; first | rfl | simp [z2], rfl⟩
  case rest =>
  obtain ⟨rfl, ew⟩ := hcut
  subst wc
  go_upto_if 61 with fail
  go_cut [61] from 62 to 65 (fun v61 wx => v61 = .bool cf ∧ PRep wx D g base { m with W := W2, fin := f2 } ∧ Chg D w3 wx)
  case first =>
    obtain ⟨d9, d8, f8, da, dc, d2⟩ := H3.out.1.cells
    clear d9 d2
    have e2 := HG.out.2.2.2.2.2.2.1
    have P1 := H3.out.1.setFin how
    have hg3 : g < w3.heap.size := H3.out.1.lt g H3.out.1.dg
    have E : Hid _ := And.intro e2 P1
    clear e2 P1
    cases cf
    · go_wp2_with fail
      go_meet
      refine ⟨rfl, ?_, chg_of_eq _⟩
      rw [E.out.1]
      exact H3.out.1
    · go_wp2_with fail
      go_meet
      refine ⟨rfl, ?_, E.out.2.2⟩
      rw [E.out.1]
      exact E.out.2.1
  case rest =>
  obtain ⟨rfl, r4, c4⟩ := hcut
  have c24 : Chg D w wc := (Chg.of_below B2.out).trans (H3.out.2.trans c4)
  have e6 : ∃ q : Int, q = ((W2.count 2 : Nat) : Int) ∧ wc.cell? ⟨g, 6, none⟩ = some (.int .i64 q) := by
    obtain ⟨vd, vh, hb, hA⟩ := r4
    exact ⟨_, rfl, (bk_cell hb 6).trans rfl⟩
  obtain ⟨q2, eq2, d6⟩ := e6
  obtain ⟨d9, d8, f8, da, dc, d2⟩ := r4.cells
  have d2' : wc.cell? ⟨g, 2, none⟩ = some (.slice da L dc) := by rw [H0.out.2.2]; exact d2
  have d8' : wc.cell? ⟨g, 8, none⟩ = some (.int .u8 (f2 : Int)) := d8
  clear d2 d8
  have hall := cnt2 W2
  have hW2 := HG.out.2.2.2.1
  have T3 := fun q => turnPs g base 3 { m with W := W2, fin := f2 } D (by decide) (by decide) (wc.drewN q) (HG.out.2.2.1.chg (c24.drewD q)) (Nat.lt_trans hst (by decide)) (r4.below (below_refl' _ _ q))
  have H4 : Hid _ := And.intro r4 (And.intro c24 (And.intro T3 (And.intro eq2 (And.intro hall hW2))))
  clear r4 c4 c24 T3 eq2 hall hW2 d9 f8
  go_upto_region 10 with fail
  have EM := HG.out.2.2.2.2.2.1
  by_cases e1 : f2 = 2
  · rw [e1] at d8'
    by_cases e3 : q2 = (L : Int)
    · have a1 : W2.all (· == 2) = true := H4.out.2.2.2.2.1.1 (by have t1 := H4.out.2.2.2.1; have t2 := H4.out.2.2.2.2.2; omega)
      rw [if_pos ⟨e1, a1⟩] at EM
      have z3 : (q2 == (L : Int)) = true := by simp [e3]
      have E : Hid _ := And.intro EM (And.intro e1 e3)
      clear EM e1 e3 a1
      go_quiet (fail)
      go_wp2_with (go_at_call 36; refine (H4.out.2.2.1 _).mono ?_; rintro e w5 ⟨rfl, r5, c5⟩; have H5 : Hid _ := And.intro r5 c5; clear r5 c5)
      go_ret
      refine ⟨rfl, ?_, (H4.out.2.1.drewD _).trans H5.out.2⟩
      have t := H5.out.1
      simp only [mtS3 m.st hst (HG.out.2.2.2.2.1 E.out.2.1)] at t
      rw [E.out.1]
      exact t
    · rw [if_neg (fun h => e3 (by have t := H4.out.2.2.2.2.1.2 h.2; have t1 := H4.out.2.2.2.1; have t2 := H4.out.2.2.2.2.2; omega))] at EM
      have z3 : (q2 == (L : Int)) = false := by simp [e3]
      have E : Hid _ := And.intro EM (And.intro e1 e3)
      clear EM e1 e3
      go_quiet (fail)
      go_wp2_with fail
      go_ret
      exact ⟨rfl, by rw [E.out.1]; exact H4.out.1.below (below_refl' _ _ _), H4.out.2.1.drewD _⟩
  · rw [if_neg (fun h => e1 h.1)] at EM
    have z3 : ((f2 : Int) == 2) = false := by simp; omega
    have E : Hid _ := And.intro EM e1
    clear EM e1
    go_quiet (fail)
    go_wp2_with fail
    go_ret
    exact ⟨rfl, by rw [E.out.1]; exact H4.out.1.below (below_refl' _ _ _), H4.out.2.1.drewD _⟩
theorem hearP (g base : Nat) (m : SS) (off n : Int) (fb : Bool) (how : Nat) (hh : how = 2 ∨ how = 3) (D : Nat → Prop) (w : World) (hE : NE w D) (I : SI m) (I2 : SI2 m) (hR : PRep w D g base m) (hn : n ≤ 9223372036854775807) :
    Calls Tryd.prog 28 #[.pointer (some ⟨g, 0, none⟩), .int .i64 off, .int .i64 n, .bool fb, .int .u8 (how : Int)] w fun e w' => e = .returned (.int .i64 (shear m off n fb how).2) ∧ PRep w' D g base (shear m off n fb how).1 ∧ Chg D w w' := by
  have same : ∀ c : Int, (Calls Tryd.prog 28 #[.pointer (some ⟨g, 0, none⟩), .int .i64 off, .int .i64 n, .bool fb, .int .u8 (how : Int)] w fun e w' => e = .returned (.int .i64 c) ∧ Below w.heap.size w w') → shear m off n fb how = (m, c) → Calls Tryd.prog 28 #[.pointer (some ⟨g, 0, none⟩), .int .i64 off, .int .i64 n, .bool fb, .int .u8 (how : Int)] w fun e w' => e = .returned (.int .i64 (shear m off n fb how).2) ∧ PRep w' D g base (shear m off n fb how).1 ∧ Chg D w w' := fun c h e => by
    rw [e]
    refine h.mono ?_
    rintro e w' ⟨rfl, b⟩
    exact ⟨rfl, hR.below b, Chg.of_below b⟩
  by_cases c : off < 0 ∨ n < 0 ∨ (m.next : Int) - n < off ∨ (fb = true ∧ (m.fin = 0 ∨ off + n ≠ m.B.length))
  · refine same 1 ?_ (by unfold shear; rw [if_pos c])
    by_cases c1 : off < 0 ∨ n < 0
    · exact hear_no1 g base m off n fb how D w hE I hR c1
    · by_cases c2 : (m.next : Int) - n < off
      · exact hear_no2 g base m off n fb how D w hE I hR (by omega) (by omega) hn c2
      · have c3 : fb = true ∧ (m.fin = 0 ∨ off + n ≠ m.B.length) := by
          rcases c with c | c | c | c
          · exact absurd (Or.inl c) c1
          · exact absurd (Or.inr c) c1
          · exact absurd c c2
          · exact c
        exact hear_no3 g base m off n fb how D w hE I hR (by omega) (by omega) (by omega) c3.1 c3.2
  have h1 : 0 ≤ off := by omega
  have h2 : 0 ≤ n := by omega
  have h3 : off ≤ (m.next : Int) - n := by omega
  have h4 : fb = true → m.fin ≠ 0 ∧ off + n = m.B.length := fun q => by
    constructor
    · exact fun z => c (Or.inr (Or.inr (Or.inr ⟨q, Or.inl z⟩)))
    · exact Classical.byContradiction fun z => c (Or.inr (Or.inr (Or.inr ⟨q, Or.inr z⟩)))
  by_cases d : m.live = false
  · exact same 0 (hear_dead g base m off n fb how D w hE I hR h1 h2 h3 h4 d) (by unfold shear; rw [if_neg c, if_pos d])
  obtain ⟨o, rfl⟩ : ∃ o : Nat, off = (o : Int) := ⟨off.toNat, by omega⟩
  obtain ⟨k, rfl⟩ : ∃ k : Nat, n = (k : Int) := ⟨n.toNat, by omega⟩
  have e1 : ((o : Int) + (k : Int)).toNat = o + k := by omega
  have e : shear m o k fb how = ({ m with W := setN m.W o (o + k) how, fin := if fb = true ∧ m.fin ≠ 2 then how else m.fin, st := if (if fb = true ∧ m.fin ≠ 2 then how else m.fin) = 2 ∧ (setN m.W o (o + k) how).all (· == 2) then 3 else m.st }, 0) := by
    unfold shear; rw [if_neg c, if_neg d]; simp only [e1, Int.toNat_natCast]
  rw [e]
  exact hear_do g base o k m fb how hh D w hE I I2 hR (by omega) (fun q => ⟨(h4 q).1, by have := (h4 q).2; omega⟩) (by simpa using d)
/-- What reset answers. -/
theorem mtS5 (st : Nat) (hs : st < 6) : mtV 1 st 5 = decide (st = 4) := by
  have : st = 0 ∨ st = 1 ∨ st = 2 ∨ st = 3 ∨ st = 4 ∨ st = 5 := by omega
  rcases this with rfl | rfl | rfl | rfl | rfl | rfl <;> rfl
set_option maxRecDepth 20000 in
set_option maxHeartbeats 2000000 in
theorem resetAckedP (g base : Nat) (m : SS) (D : Nat → Prop) (w : World) (hE : NE w D) (I : SI m) (hR : PRep w D g base m) :
    Calls Tryd.prog 30 #[.pointer (some ⟨g, 0, none⟩)] w fun e w' => e = .returned (.int .i64 (if m.st = 4 then 0 else 7)) ∧ PRep w' D g base (if m.st = 4 then { m with st := 5 } else m) ∧ Chg D w w' := by
  have T := turnPs g base 5 m D (by decide) (by decide) w hE I.st hR
  rw [mtS5 m.st I.st] at T
  by_cases c : m.st = 4
  · rw [if_pos c, if_pos c]
    rw [decide_eq_true c] at T
    have H0 : Hid _ := And.intro T True.intro
    clear T hE I hR c
    go_enter Tryd.func30, Tryd.ntmps30
    go_wp2_with (go_at_call 36; refine H0.out.1.mono ?_; rintro e w1 ⟨rfl, r1, c1⟩; have H1 : Hid _ := And.intro r1 c1; clear r1 c1)
    go_ret
    exact ⟨rfl, H1.out.1, H1.out.2⟩
  · rw [if_neg c, if_neg c]
    rw [decide_eq_false c] at T
    have H0 : Hid _ := And.intro T True.intro
    clear T hE I hR c
    go_enter Tryd.func30, Tryd.ntmps30
    go_wp2_with (go_at_call 36; refine H0.out.1.mono ?_; rintro e w1 ⟨rfl, r1, c1⟩; have H1 : Hid _ := And.intro r1 c1; clear r1 c1)
    go_ret
    exact ⟨rfl, H1.out.1, H1.out.2⟩
set_option maxRecDepth 20000 in
set_option maxHeartbeats 2000000 in
theorem resetP (g base : Nat) (m : SS) (D : Nat → Prop) (w : World) (hE : NE w D) (I : SI m) (hR : PRep w D g base m) :
    Calls Tryd.prog 29 #[.pointer (some ⟨g, 0, none⟩)] w fun e w' => e = .returned (.agg (if m.live then so7c 0 (m.next : Int) (.slice none 0 0) false false false else so7c 7 0 (.slice none 0 0) false false false)) ∧ PRep w' D g base (if m.live then { m with st := 4 } else m) ∧ Chg D w w' := by
  have BA : Below w.heap.size w (w.alloc so0) := (Below.refl _ _).alloc (Nat.le_refl _) _
  have T := turnPs g base 4 m D (by decide) (by decide) (w.alloc so0) (hE.below BA) I.st (hR.below BA)
  rw [mtS4 m.st I.st] at T
  have hlv : decide (m.st < 3) = m.live := rfl
  rw [hlv] at T
  have hlt := hR.lt
  have hND : ∀ t, D t → t ≠ w.heap.size := fun t ht => by have := hlt t ht; omega
  have hsz : w.heap.size < (w.alloc so0).heap.size := by simp
  have key : ∀ w1, Chg D (w.alloc so0) w1 → w1.heap[w.heap.size]? = some so0 ∧ Chg D w w1 := fun w1 c1 => ⟨(c1.block _ hsz (fun h => hND _ h rfl)).trans (heap_alloc_new w _), (Chg.of_below BA).trans c1⟩
  cases hl : m.live
  · rw [if_neg (by decide), if_neg (by decide)]
    rw [hl, if_neg (by decide)] at T
    have H0 : Hid _ := And.intro T (And.intro key hND)
    clear T hE I hR hl hlv hlt BA hsz key hND
    go_enter Tryd.func29, Tryd.ntmps29
    go_wp2_with (go_at_call 36; refine H0.out.1.mono ?_; rintro e w1 ⟨rfl, r1, c1⟩; obtain ⟨k1, c1'⟩ := H0.out.2.1 w1 c1; have zc0 : w1.cell? ⟨w.heap.size, 0, none⟩ = some (.int .i64 0) := (bk_cell k1 0).trans rfl; have zf0 : w1.frozen? ⟨w.heap.size, 0, none⟩ = false := bk_free k1 0; have zc1 : w1.cell? ⟨w.heap.size, 1, none⟩ = some (.int .i64 0) := (bk_cell k1 1).trans rfl; have zf1 : w1.frozen? ⟨w.heap.size, 1, none⟩ = false := bk_free k1 1; have zc2 : w1.cell? ⟨w.heap.size, 2, none⟩ = some (.int .i64 0) := (bk_cell k1 2).trans rfl; have zf2 : w1.frozen? ⟨w.heap.size, 2, none⟩ = false := bk_free k1 2; have zc3 : w1.cell? ⟨w.heap.size, 3, none⟩ = some (.slice none 0 0) := (bk_cell k1 3).trans rfl; have zf3 : w1.frozen? ⟨w.heap.size, 3, none⟩ = false := bk_free k1 3; have zc4 : w1.cell? ⟨w.heap.size, 4, none⟩ = some (.bool false) := (bk_cell k1 4).trans rfl; have zf4 : w1.frozen? ⟨w.heap.size, 4, none⟩ = false := bk_free k1 4; have zc5 : w1.cell? ⟨w.heap.size, 5, none⟩ = some (.bool false) := (bk_cell k1 5).trans rfl; have zf5 : w1.frozen? ⟨w.heap.size, 5, none⟩ = false := bk_free k1 5; have zc6 : w1.cell? ⟨w.heap.size, 6, none⟩ = some (.bool false) := (bk_cell k1 6).trans rfl; have zf6 : w1.frozen? ⟨w.heap.size, 6, none⟩ = false := bk_free k1 6; have hsz : w.heap.size < w1.heap.size := (Array.getElem?_eq_some_iff.1 k1).1; have H1 : Hid _ := And.intro r1 (And.intro c1' k1); clear r1 c1 c1' k1)
    exact bodyPost_ret (v := .agg (so7c 7 0 (.slice none 0 0) false false false)) (results_cell_row (t := 30) rfl _ _ w.heap.size _ (fr := (0, 0)) _ rfl (put7_blk H1.out.2.2 7 0 (.slice none 0 0) false false false) Tryd.underlying30 rfl infoSObs) rfl ⟨rfl, H1.out.1.chg (put7_chg w1 w.heap.size 7 0 (.slice none 0 0) false false false) (fun t ht => H0.out.2.2 t ht), H1.out.2.1.new (put7_chg w1 w.heap.size 7 0 (.slice none 0 0) false false false) (Nat.le_refl _)⟩
  · rw [if_pos rfl, if_pos rfl]
    rw [hl, if_pos rfl] at T
    have CB : ∀ w1, PRep w1 D g base { m with st := 4 } → Calls Tryd.prog 38 #[.pointer (some ⟨g, 0, none⟩)] w1 fun e w' => e = .returned (.int .i64 (m.next : Int)) ∧ ∃ q, w' = w1.drewN q := fun w1 r => begunM g base { m with st := 4 } D w1 ⟨I.len, I.big, I.nx, I.new, I.old, by show 4 < 6; omega, I.fin3, I.finF, fun h => absurd (show (4 : Nat) = 2 from h) (by decide), I.cr⟩ r
    have H0 : Hid _ := And.intro T (And.intro key (And.intro hND CB))
    clear T hE I hR hl hlv hlt BA hsz key hND CB
    go_enter Tryd.func29, Tryd.ntmps29
    go_wp2_with (first | (go_at_call 36; refine H0.out.1.mono ?_; rintro e w0 ⟨rfl, r0, c0⟩; obtain ⟨k0, c0'⟩ := H0.out.2.1 w0 c0; have H2 : Hid _ := And.intro r0 (And.intro c0' k0); clear r0 c0 c0' k0) | (go_at_call 38; refine (H0.out.2.2.2 _ H2.out.1).mono ?_; rintro e w1 ⟨rfl, q, hq⟩; have k1 : w1.heap[w.heap.size]? = some so0 := (by rw [hq]; exact H2.out.2.2); have zc0 : w1.cell? ⟨w.heap.size, 0, none⟩ = some (.int .i64 0) := (bk_cell k1 0).trans rfl; have zf0 : w1.frozen? ⟨w.heap.size, 0, none⟩ = false := bk_free k1 0; have zc1 : w1.cell? ⟨w.heap.size, 1, none⟩ = some (.int .i64 0) := (bk_cell k1 1).trans rfl; have zf1 : w1.frozen? ⟨w.heap.size, 1, none⟩ = false := bk_free k1 1; have zc2 : w1.cell? ⟨w.heap.size, 2, none⟩ = some (.int .i64 0) := (bk_cell k1 2).trans rfl; have zf2 : w1.frozen? ⟨w.heap.size, 2, none⟩ = false := bk_free k1 2; have zc3 : w1.cell? ⟨w.heap.size, 3, none⟩ = some (.slice none 0 0) := (bk_cell k1 3).trans rfl; have zf3 : w1.frozen? ⟨w.heap.size, 3, none⟩ = false := bk_free k1 3; have zc4 : w1.cell? ⟨w.heap.size, 4, none⟩ = some (.bool false) := (bk_cell k1 4).trans rfl; have zf4 : w1.frozen? ⟨w.heap.size, 4, none⟩ = false := bk_free k1 4; have zc5 : w1.cell? ⟨w.heap.size, 5, none⟩ = some (.bool false) := (bk_cell k1 5).trans rfl; have zf5 : w1.frozen? ⟨w.heap.size, 5, none⟩ = false := bk_free k1 5; have zc6 : w1.cell? ⟨w.heap.size, 6, none⟩ = some (.bool false) := (bk_cell k1 6).trans rfl; have zf6 : w1.frozen? ⟨w.heap.size, 6, none⟩ = false := bk_free k1 6; have hsz : w.heap.size < w1.heap.size := (Array.getElem?_eq_some_iff.1 k1).1; have H1 : Hid (PRep w1 D g base { m with st := 4 } ∧ Chg D w w1 ∧ w1.heap[w.heap.size]? = some so0) := And.intro (by rw [hq]; exact H2.out.1.below (below_refl' _ _ _)) (And.intro (by rw [hq]; exact H2.out.2.1.drewD _) k1); clear k1 hq))
    exact bodyPost_ret (v := .agg (so7c 0 (m.next : Int) (.slice none 0 0) false false false)) (results_cell_row (t := 30) rfl _ _ w.heap.size _ (fr := (0, 0)) _ rfl (put7_blk H1.out.2.2 0 (m.next : Int) (.slice none 0 0) false false false) Tryd.underlying30 rfl infoSObs) rfl ⟨rfl, H1.out.1.chg (put7_chg w1 w.heap.size 0 (m.next : Int) (.slice none 0 0) false false false) (fun t ht => H0.out.2.2.1 t ht), H1.out.2.1.new (put7_chg w1 w.heap.size 0 (m.next : Int) (.slice none 0 0) false false false) (Nat.le_refl _)⟩
end Go.Proofs.YtpdclbfjngmppaaDoor
