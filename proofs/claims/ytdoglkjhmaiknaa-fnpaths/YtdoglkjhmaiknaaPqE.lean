import Derived.Test.YtdoglkjhmaiknaaVals
import Derived.BigRegion
import Derived.Test.YtdoglkjhmaiknaaPqL
import Derived.Laws.Rows
import Derived.Test.YtdoglkjhmaiknaaMem
import Derived.Deep.RegionWith
import Derived.Deep.CutRange
import Derived.Test.YtdoglkjhmaiknaaBook
import Derived.Laws.CopyOwn
import Derived.Deep.RegionLaw
import Derived.Laws.StructEq
namespace Go.Proofs.Ytdoglkjhmaiknaa
open Go.RowKit
set_option linter.unusedVariables false

/-- 32 bits turned left. -/
def rot7 (x : Int) : Int := bits .or .u32 (x * 128 % 4294967296) (x / 33554432)
def rot13 (x : Int) : Int := bits .or .u32 (x * 8192 % 4294967296) (x / 524288)
def rot17 (x : Int) : Int := bits .or .u32 (x * 131072 % 4294967296) (x / 32768)
/-- A number of 32 bits. -/
def U32 (x : Int) : Prop := 0 ≤ x ∧ x < 4294967296
theorem bits32_or (x y : Int) : U32 (bits .or .u32 x y) := by
  have h : bits .or .u32 x y = IntKind.u32.wrap ((BitVec.ofInt 32 x ||| BitVec.ofInt 32 y).toNat : Int) := rfl
  rw [h, IntKind.wrap_u32]
  unfold U32
  omega
theorem bits32_xor (x y : Int) : U32 (bits .xor .u32 x y) := by
  have h : bits .xor .u32 x y = IntKind.u32.wrap ((BitVec.ofInt 32 x ^^^ BitVec.ofInt 32 y).toNat : Int) := rfl
  rw [h, IntKind.wrap_u32]
  unfold U32
  omega

/-- The digest's four numbers. -/
structure S4 where
  a : Int
  b : Int
  c : Int
  d : Int
def S4.ok (s : S4) : Prop := U32 s.a ∧ U32 s.b ∧ U32 s.c ∧ U32 s.d
def S4.val (s : S4) : Value := .agg #[.int .u32 s.a, .int .u32 s.b, .int .u32 s.c, .int .u32 s.d]
def stA (s : S4) (v : Int) : Int := bits .xor .u32 s.a v * 16777619 % 4294967296
def stB (s : S4) (v : Int) : Int := rot7 ((s.b + bits .xor .u32 s.a v * 16777619) % 4294967296)
def stC (s : S4) (v : Int) : Int := rot13 (bits .xor .u32 s.c (stB s v))
def stD (s : S4) (v : Int) : Int := rot17 ((s.d + stC s v) % 4294967296)
/-- A byte stirred in. -/
def stir1 (s : S4) (v : Int) : S4 := ⟨bits .xor .u32 (stA s v) (stD s v), stB s v, stC s v, stD s v⟩
def stirL (s : S4) (xs : List Int) : S4 := xs.foldl stir1 s
theorem stir1_ok (s : S4) (v : Int) : (stir1 s v).ok := ⟨bits32_xor _ _, bits32_or _ _, bits32_or _ _, bits32_or _ _⟩
theorem stirL_ok (s : S4) (xs : List Int) (h : s.ok) : (stirL s xs).ok := by
  induction xs generalizing s with
  | nil => exact h
  | cons x xs ih => exact ih _ (stir1_ok s x)
theorem stirL_append (s : S4) (xs ys : List Int) : stirL s (xs ++ ys) = stirL (stirL s xs) ys := by simp [stirL]
theorem stirL_take (s : S4) (xs : List Int) (k : Nat) (hk : k < xs.length) : stirL s (xs.take (k + 1)) = stir1 (stirL s (xs.take k)) (xs.getD k 0) := by
  rw [List.take_add_one, stirL_append]
  simp [stirL, List.getD, hk]
end Go.Proofs.Ytdoglkjhmaiknaa

namespace Go.Proofs.Ytdoglkjhmaiknaa
open Go.RowKit
set_option linter.unusedVariables false

theorem blkS_setCell {w : World} {g : Nat} {c : Array Value} {t : TypeId} {fr : Nat × Nat} (h : w.heap[g]? = some (.cells c t fr)) (o : Nat) (u : Value) : (w.setCell ⟨g, o, none⟩ u).heap[g]? = some (.cells (c.setIfInBounds o u) t fr) := by
  simp only [World.setCell, Array.getElem?_modify, if_true]
  rw [h]
  rfl
theorem blkS_other {w : World} {g k : Nat} (hk : k ≠ g) (o : Nat) (u : Value) : (w.setCell ⟨g, o, none⟩ u).heap[k]? = w.heap[k]? := Below.heap_setCell _ _ _ _ hk
theorem two_newS (w : World) (o1 o2 : Obj) : ((w.alloc o1).alloc o2).heap[w.heap.size]? = some o1 ∧ ((w.alloc o1).alloc o2).heap[w.heap.size + 1]? = some o2 := by
  have h1 := (MapKept.heap_alloc w o1).1
  have h2 := (MapKept.heap_alloc (w.alloc o1) o2).1
  have e : (w.alloc o1).heap.size = w.heap.size + 1 := by simp
  refine ⟨?_, by rw [← e]; exact h2⟩
  rw [Below.heap_alloc (w.alloc o1) o2 _ (by rw [e]; omega)]
  exact h1

end Go.Proofs.Ytdoglkjhmaiknaa

namespace Go.Proofs.Ytdoglkjhmaiknaa
open Go.RowKit
set_option linter.unusedVariables false

theorem infoU8 : (Try.prog.info? 5).map (fun i => (i.zero, i.size, i.bytes)) = some (some (.int .u8 0), 1, 1) := by kernel_rfl

/-- The n lowest bytes of v, the highest first. -/
def be (v : Int) : Nat → List Int
  | 0 => []
  | n + 1 => be (v / 256) n ++ [v % 256]

theorem be_length (v : Int) (n : Nat) : (be v n).length = n := by
  induction n generalizing v with
  | zero => rfl
  | succ n ih => simp [be, ih]

end Go.Proofs.Ytdoglkjhmaiknaa

namespace Go.Proofs.Ytdoglkjhmaiknaa
open Go.RowKit
set_option linter.unusedVariables false

def dig0 : S4 := ⟨1779033703, 3144134277, 1013904242, 2773480762⟩
theorem dig0_ok : dig0.ok := by unfold S4.ok U32 dig0; decide
/-- The four numbers of the digest of a key and data, and its bytes. -/
def digS (ks ds : List Int) : S4 := stirL (stirL (stirL (stirL (stirL dig0 (be (ks.length : Int) 4)) ks) ds) (be (ds.length : Int) 4)) (List.replicate 16 165)
def digV (ks ds : List Int) : List Int := be (digS ks ds).a 4 ++ be (digS ks ds).b 4 ++ be (digS ks ds).c 4 ++ be (digS ks ds).d 4
theorem digV_length (ks ds : List Int) : (digV ks ds).length = 16 := by simp [digV, be_length]
theorem be_bytes (v : Int) (n : Nat) : Bytes (be v n) := by
  induction n generalizing v with
  | zero => intro x hx; simp [be] at hx
  | succ n ih =>
    intro x hx
    simp only [be, List.mem_append, List.mem_singleton] at hx
    rcases hx with hx | rfl
    · exact ih _ x hx
    · omega
theorem bytes_append {xs ys : List Int} (hx : Bytes xs) (hy : Bytes ys) : Bytes (xs ++ ys) := by
  intro x h
  rcases List.mem_append.1 h with h | h
  · exact hx x h
  · exact hy x h
theorem digV_bytes (ks ds : List Int) : Bytes (digV ks ds) := bytes_append (bytes_append (bytes_append (be_bytes _ _) (be_bytes _ _)) (be_bytes _ _)) (be_bytes _ _)

theorem pc_one (zs : List Int) (k : IntKind) : ∀ u, u ∈ zs.map (Value.int k) → u.oneCell' = true := by
  intro u hu
  obtain ⟨z, _, rfl⟩ := List.mem_map.1 hu
  rfl
theorem pc_cells {w : World} {base e g m cap : Nat} {zs : List Int} (h : w.ownsRow base e 1 (.slice (some ⟨g, 0, none⟩) m cap) m (zs.map (Value.int .u8))) :
    ∀ (j : Nat) (u : Value), (zs.map (Value.int .u8))[j]? = some u → w.cell? ((⟨g, 0, none⟩ : Addr).add j) = some u := by
  intro j u hj
  have hl : (zs.map (Value.int .u8)).length = m * 1 := h.1
  have hlt : j < m * 1 := by
    rw [← hl]
    exact (List.getElem?_eq_some_iff.1 hj).1
  have := h.cellAt j hlt
  rw [Go.WideShapes.add_plain, Nat.zero_add, this]
  exact hj
end Go.Proofs.Ytdoglkjhmaiknaa

namespace Go.Proofs.Ytdoglkjhmaiknaa
open Go.RowKit
set_option linter.unusedVariables false

theorem only_setRow (w : World) (g : Nat) (cs : Array Value) : Only (some g) w (w.setRow g cs) :=
  ⟨rfl, rfl, rfl, by simp [World.setRow], fun k hk => setRow_other w g k cs (fun e => hk (by rw [e]))⟩
theorem Only.drew {g : Option Nat} {w w' : World} (h : Only g w w') : Only g w w'.drew := ⟨h.1, h.2, h.3, h.4, h.5⟩
theorem Only.below {g : Nat} {w w' : World} (h : Only (some g) w w') {B : Nat} (hB : B ≤ g) : Below B w w' :=
  ⟨h.os, h.tape, h.output, Nat.le_of_eq h.size.symm, fun k hk => h.block k (fun e => by cases e; omega)⟩
theorem cell_of_heap {w w' : World} {b : Nat} (h : w'.heap[b]? = w.heap[b]?) (o : Nat) : w'.cell? ⟨b, o, none⟩ = w.cell? ⟨b, o, none⟩ := by
  simp [World.cell?, h]
/-- What was read is read where its block has not turned. -/
theorem Row.only {w w' : World} {g : Nat} {v : Value} {xs : List Int} (h : Row w .u8 v xs) (ho : Only (some g) w w') (hg : v.ownBlock ≠ some g) : Row w' .u8 v xs := by
  rcases h with h | ⟨b, off, cap, rfl, hb, hcap, hc⟩
  · exact Or.inl h
  · exact Or.inr ⟨b, off, cap, rfl, by rw [ho.size]; exact hb, hcap, fun j hj => (cell_of_heap (ho.block b (fun e => hg (by cases e; rfl))) _).trans (hc j hj)⟩
/-- The cells of a reading, as a copy's source. -/
theorem row_src {w : World} {v : Value} {xs : List Int} (h : Row w .u8 v xs) (h0 : 0 < xs.length) (m : Nat) (hm : m ≤ xs.length) :
    ∃ ad cap, v = .slice (some ad) xs.length cap ∧ ∀ j u, ((xs.take m).map (Value.int .u8))[j]? = some u → w.cell? (ad.add j) = some u := by
  obtain ⟨b, off, cap, rfl, hb, hc⟩ := h.at h0
  refine ⟨_, _, rfl, fun j u hu => ?_⟩
  have hadd : (⟨b, off, none⟩ : Addr).add j = ⟨b, off + j, none⟩ := by unfold Addr.add; split <;> simp_all
  rw [hadd]
  have hj : j < m := by
    have := List.getElem?_eq_some_iff.1 hu
    obtain ⟨h1, _⟩ := this
    simp at h1
    omega
  rw [hc j (by omega)]
  rw [← hu]
  simp [List.getD, hj, show j < xs.length by omega]

def u8s (xs : List Int) : List Value := xs.map (Value.int .u8)
theorem u8s_length (xs : List Int) : (u8s xs).length = xs.length := by simp [u8s]
theorem u8s_one (xs : List Int) : ∀ v ∈ u8s xs, v.oneCell' = true := by
  intro v hv
  obtain ⟨x, _, rfl⟩ := List.mem_map.1 hv
  rfl
theorem splice_u8s (xs ys : List Int) (off : Nat) : splice (u8s xs) off (u8s ys) = u8s (splice xs off ys) := by
  simp [splice, u8s]

theorem wpList_copy_at {P : Program} {w : World} {ops : Array Oper} {rest : List Oper} {o : Oper} {a : Act} {Q : Exit → Act → World → Prop} (hgd : o.guard = none) (d s : Operand) (dT sT : TypeId)
    (ho : o.op = .call { callee := .builtin .copy, args := #[d, s], argTypes := #[dT, sT] }) (elem : TypeId) (hu : P.underlying dT = some (.slice elem)) (hsz : (P.info? elem).map (·.size) = some 1)
    (g off dLen dCap : Nat) (vs : Value) (hd : a.eval d = .slice (some ⟨g, off, none⟩) dLen dCap) (hs : a.eval s = vs) (xs : List Int) (hrow : Row w .u8 vs xs) (h0 : 0 < xs.length)
    (cur : List Int) (t : TypeId) (hg : w.heap[g]? = some (.cells (u8s cur).toArray t (0, 0))) (m : Nat) (hm : m = Nat.min xs.length dLen) (hfit : off + m ≤ cur.length)
    (h : ∀ w', w'.heap[g]? = some (.cells (u8s (splice cur off (xs.take m))).toArray t (0, 0)) → Only (some g) w w' → wpList P ops Q rest (a.put o.dst (goInt m)) w') :
    wpList P ops Q (o :: rest) a w := by
  have hml : m ≤ xs.length := by rw [hm]; exact Nat.min_le_left _ _
  obtain ⟨ad, cap, rfl, hsrc⟩ := row_src hrow h0 m hml
  have hl : (u8s (xs.take m)).length = m := by rw [u8s_length, List.length_take]; omega
  refine wpList_copy_own hgd d s dT sT ho elem hu hsz g off dLen dCap ad xs.length cap hd hs (u8s cur).toArray t hg (u8s (xs.take m)) (by rw [hl, hm]) hsrc (by rw [hl]; simpa [u8s_length] using hfit) (u8s_one _) ?_
  rw [hl]
  refine h _ ?_ (only_setRow _ _ _)
  rw [setRow_heap w g _ _ t _ hg, ← splice_u8s]
  simp [splice, hl]

theorem step_copy_at {P : Program} {ops : Array Oper} {o : Oper} {a : Act} {w : World} {K : Act → World → Prop} {Q : Exit → Act → World → Prop} {E : Prop} (hgd : o.guard = none) (d s : Operand) (dT sT : TypeId)
    (ho : o.op = .call { callee := .builtin .copy, args := #[d, s], argTypes := #[dT, sT] }) (elem : TypeId) (hu : P.underlying dT = some (.slice elem)) (hsz : (P.info? elem).map (·.size) = some 1)
    (g off dLen dCap : Nat) (vs : Value) (hd : a.eval d = .slice (some ⟨g, off, none⟩) dLen dCap) (hs : a.eval s = vs) (xs : List Int) (hrow : Row w .u8 vs xs) (h0 : 0 < xs.length)
    (cur : List Int) (t : TypeId) (hg : w.heap[g]? = some (.cells (u8s cur).toArray t (0, 0))) (m : Nat) (hm : m = Nat.min xs.length dLen) (hfit : off + m ≤ cur.length)
    (h : ∀ w', w'.heap[g]? = some (.cells (u8s (splice cur off (xs.take m))).toArray t (0, 0)) → Only (some g) w w' → K (a.put o.dst (goInt m)) w') :
    if Region.wanted o (yielded ops a.tmps) = true then Oper.wp P o a w K Q else E := by
  have hw : Region.wanted o (yielded ops a.tmps) = true := by simp [Region.wanted, hgd]
  rw [if_pos hw]
  have hml : m ≤ xs.length := by rw [hm]; exact Nat.min_le_left _ _
  obtain ⟨ad, cap, rfl, hsrc⟩ := row_src hrow h0 m hml
  have hl : (u8s (xs.take m)).length = m := by rw [u8s_length, List.length_take]; omega
  have hrun := run_copy_row (P := P) w dT sT o.type elem g off dLen dCap ad xs.length cap (u8s cur).toArray t (u8s (xs.take m)) hu hsz hg (by rw [hl, hm]) hsrc (by rw [hl]; simpa [u8s_length] using hfit) (u8s_one _)
  unfold Oper.wp
  simp [execOp, ho, resolve, invoke, builtin, hd, hs, hrun, Result.andThen]
  have := h _ (by rw [setRow_heap w g _ _ t _ hg]) (only_setRow w g (u8s (splice cur off (xs.take m))).toArray)
  rw [← splice_u8s] at this
  have this' : K (a.put o.dst (goInt m)) (w.setRow g (List.take off (u8s cur) ++ (u8s (List.take m xs) ++ List.drop (off + m) (u8s cur))).toArray) := by simpa [splice, hl] using this
  rw [hl]
  exact this'

/-- A whole array or struct stored into a block. -/
theorem wpList_store_at {P : Program} {ops : Array Oper} {rest : List Oper} {o : Oper} {a : Act} {w : World} {Q : Exit → Act → World → Prop} (hgd : o.guard = none) (ty : TypeId) (x y : Operand) (ho : o.op = .store ty x y)
    (g : Nat) (cells : Array Value) (hx : a.eval x = .pointer (some ⟨g, 0, none⟩)) (hy : a.eval y = .agg cells)
    (t : TypeId) (old : Array Value) (hg : w.heap[g]? = some (.cells old t (0, 0))) (hi : (P.info? ty).map (·.size) = some cells.size)
    (hold : old.size = cells.size) (h1 : cells.all (·.oneCell') = true)
    (h : ∀ w', w'.heap[g]? = some (.cells cells t (0, 0)) → Only (some g) w w' → wpList P ops Q rest (a.put o.dst undef) w') : wpList P ops Q (o :: rest) a w :=
  wpList_store_row hgd ty x y ho g cells hx hy t old hg hi hold h1 (h _ (setRow_heap w g old cells t _ hg) (only_setRow w g cells))
theorem u8s_all (xs : List Int) : (u8s xs).toArray.all (·.oneCell') = true := by
  rw [Array.all_eq_true_iff_forall_mem]
  intro v hv
  exact u8s_one xs v (by simpa using hv)
end Go.Proofs.Ytdoglkjhmaiknaa

namespace Go.Proofs.Ytdoglkjhmaiknaa
open Go.RowKit
set_option linter.unusedVariables false
set_option linter.unusedSimpArgs false

theorem eqEl (x y : Int) (d : Nat) (w : World) : (Op.equalIn (d + 1) 5 (.int .u8 x) (.int .u8 y)).run Try.prog w = .ok (x == y) w := run_equalIn_int (w := w) d 5 .u8 .u8 x y Try.underlying5
theorem eq8 (x0 x1 x2 x3 x4 x5 x6 x7 y0 y1 y2 y3 y4 y5 y6 y7 : Int) (d : Nat) (w : World) :
    (Op.equalIn (d + 1 + 1) 72 (.agg #[.int .u8 x0, .int .u8 x1, .int .u8 x2, .int .u8 x3, .int .u8 x4, .int .u8 x5, .int .u8 x6, .int .u8 x7]) (.agg #[.int .u8 y0, .int .u8 y1, .int .u8 y2, .int .u8 y3, .int .u8 y4, .int .u8 y5, .int .u8 y6, .int .u8 y7])).run Try.prog w = .ok (decide ([x0, x1, x2, x3, x4, x5, x6, x7] = [y0, y1, y2, y3, y4, y5, y6, y7])) w := by
  obtain ⟨i0, hi, hz0, hz1, hz2⟩ := info_parts infoU8
  have hs : ∀ w, (sizeOf 5).run Try.prog w = .ok 1 w := by
    intro w
    simp [sizeOf, typeInfo, hi, hz1]
  have hp : ∀ (a : Array Value) (i : Nat) (v : Value) (w : World), a[i]? = some v → (part 5 a i).run Try.prog w = .ok v w := by
    intro a i v w h
    simp [part, h]
  have px0 : ∀ w, (part 5 #[.int .u8 x0, .int .u8 x1, .int .u8 x2, .int .u8 x3, .int .u8 x4, .int .u8 x5, .int .u8 x6, .int .u8 x7] 0).run Try.prog w = .ok (.int .u8 x0) w := fun w => hp _ _ _ w rfl
  have py0 : ∀ w, (part 5 #[.int .u8 y0, .int .u8 y1, .int .u8 y2, .int .u8 y3, .int .u8 y4, .int .u8 y5, .int .u8 y6, .int .u8 y7] 0).run Try.prog w = .ok (.int .u8 y0) w := fun w => hp _ _ _ w rfl
  have px1 : ∀ w, (part 5 #[.int .u8 x0, .int .u8 x1, .int .u8 x2, .int .u8 x3, .int .u8 x4, .int .u8 x5, .int .u8 x6, .int .u8 x7] 1).run Try.prog w = .ok (.int .u8 x1) w := fun w => hp _ _ _ w rfl
  have py1 : ∀ w, (part 5 #[.int .u8 y0, .int .u8 y1, .int .u8 y2, .int .u8 y3, .int .u8 y4, .int .u8 y5, .int .u8 y6, .int .u8 y7] 1).run Try.prog w = .ok (.int .u8 y1) w := fun w => hp _ _ _ w rfl
  have px2 : ∀ w, (part 5 #[.int .u8 x0, .int .u8 x1, .int .u8 x2, .int .u8 x3, .int .u8 x4, .int .u8 x5, .int .u8 x6, .int .u8 x7] 2).run Try.prog w = .ok (.int .u8 x2) w := fun w => hp _ _ _ w rfl
  have py2 : ∀ w, (part 5 #[.int .u8 y0, .int .u8 y1, .int .u8 y2, .int .u8 y3, .int .u8 y4, .int .u8 y5, .int .u8 y6, .int .u8 y7] 2).run Try.prog w = .ok (.int .u8 y2) w := fun w => hp _ _ _ w rfl
  have px3 : ∀ w, (part 5 #[.int .u8 x0, .int .u8 x1, .int .u8 x2, .int .u8 x3, .int .u8 x4, .int .u8 x5, .int .u8 x6, .int .u8 x7] 3).run Try.prog w = .ok (.int .u8 x3) w := fun w => hp _ _ _ w rfl
  have py3 : ∀ w, (part 5 #[.int .u8 y0, .int .u8 y1, .int .u8 y2, .int .u8 y3, .int .u8 y4, .int .u8 y5, .int .u8 y6, .int .u8 y7] 3).run Try.prog w = .ok (.int .u8 y3) w := fun w => hp _ _ _ w rfl
  have px4 : ∀ w, (part 5 #[.int .u8 x0, .int .u8 x1, .int .u8 x2, .int .u8 x3, .int .u8 x4, .int .u8 x5, .int .u8 x6, .int .u8 x7] 4).run Try.prog w = .ok (.int .u8 x4) w := fun w => hp _ _ _ w rfl
  have py4 : ∀ w, (part 5 #[.int .u8 y0, .int .u8 y1, .int .u8 y2, .int .u8 y3, .int .u8 y4, .int .u8 y5, .int .u8 y6, .int .u8 y7] 4).run Try.prog w = .ok (.int .u8 y4) w := fun w => hp _ _ _ w rfl
  have px5 : ∀ w, (part 5 #[.int .u8 x0, .int .u8 x1, .int .u8 x2, .int .u8 x3, .int .u8 x4, .int .u8 x5, .int .u8 x6, .int .u8 x7] 5).run Try.prog w = .ok (.int .u8 x5) w := fun w => hp _ _ _ w rfl
  have py5 : ∀ w, (part 5 #[.int .u8 y0, .int .u8 y1, .int .u8 y2, .int .u8 y3, .int .u8 y4, .int .u8 y5, .int .u8 y6, .int .u8 y7] 5).run Try.prog w = .ok (.int .u8 y5) w := fun w => hp _ _ _ w rfl
  have px6 : ∀ w, (part 5 #[.int .u8 x0, .int .u8 x1, .int .u8 x2, .int .u8 x3, .int .u8 x4, .int .u8 x5, .int .u8 x6, .int .u8 x7] 6).run Try.prog w = .ok (.int .u8 x6) w := fun w => hp _ _ _ w rfl
  have py6 : ∀ w, (part 5 #[.int .u8 y0, .int .u8 y1, .int .u8 y2, .int .u8 y3, .int .u8 y4, .int .u8 y5, .int .u8 y6, .int .u8 y7] 6).run Try.prog w = .ok (.int .u8 y6) w := fun w => hp _ _ _ w rfl
  have px7 : ∀ w, (part 5 #[.int .u8 x0, .int .u8 x1, .int .u8 x2, .int .u8 x3, .int .u8 x4, .int .u8 x5, .int .u8 x6, .int .u8 x7] 7).run Try.prog w = .ok (.int .u8 x7) w := fun w => hp _ _ _ w rfl
  have py7 : ∀ w, (part 5 #[.int .u8 y0, .int .u8 y1, .int .u8 y2, .int .u8 y3, .int .u8 y4, .int .u8 y5, .int .u8 y6, .int .u8 y7] 7).run Try.prog w = .ok (.int .u8 y7) w := fun w => hp _ _ _ w rfl
  rw [Op.equalIn]
  simp only [Sem.run_bind, run_underlying Try.underlying72, Result.andThen_ok, hs, Nat.mul_one]
  rw [Std.Legacy.Range.forIn_eq_forIn_range']
  simp only [Std.Legacy.Range.size, List.range'_succ, List.range'_zero, List.forIn_cons, List.forIn_nil]
  by_cases h0 : x0 = y0
  · subst h0
    by_cases h1 : x1 = y1
    · subst h1
      by_cases h2 : x2 = y2
      · subst h2
        by_cases h3 : x3 = y3
        · subst h3
          by_cases h4 : x4 = y4
          · subst h4
            by_cases h5 : x5 = y5
            · subst h5
              by_cases h6 : x6 = y6
              · subst h6
                by_cases h7 : x7 = y7
                · subst h7
                  simp [Sem.run_bind, px0, px1, px2, px3, px4, px5, px6, px7, eqEl]
                · simp [Sem.run_bind, px0, py0, px1, py1, px2, py2, px3, py3, px4, py4, px5, py5, px6, py6, px7, py7, eqEl, h7]
              · simp [Sem.run_bind, px0, py0, px1, py1, px2, py2, px3, py3, px4, py4, px5, py5, px6, py6, eqEl, h6]
            · simp [Sem.run_bind, px0, py0, px1, py1, px2, py2, px3, py3, px4, py4, px5, py5, eqEl, h5]
          · simp [Sem.run_bind, px0, py0, px1, py1, px2, py2, px3, py3, px4, py4, eqEl, h4]
        · simp [Sem.run_bind, px0, py0, px1, py1, px2, py2, px3, py3, eqEl, h3]
      · simp [Sem.run_bind, px0, py0, px1, py1, px2, py2, eqEl, h2]
    · simp [Sem.run_bind, px0, py0, px1, py1, eqEl, h1]
  · simp [Sem.run_bind, px0, py0, eqEl, h0]
end Go.Proofs.Ytdoglkjhmaiknaa
