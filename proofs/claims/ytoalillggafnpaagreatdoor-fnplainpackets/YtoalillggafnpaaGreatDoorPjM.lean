import Derived.Test.YtoalillggafnpaaGreatDoorBook
import Derived.Test.YtoalillggafnpaaGreatDoorPjK
import Derived.Laws.CopyOwn
import Derived.Deep.RegionWith
import Derived.Deep.RegionLaw
import Derived.Deep.CutRange
import Derived.Test.YtoalillggafnpaaGreatDoorBlocks
import Derived.Laws.StructEq
namespace Go.Proofs.YtoalillggafnpaaGreatDoor
open Go.RowKit
set_option linter.unusedVariables false

theorem only_setRow (w : World) (g : Nat) (cs : Array Value) : Only (some g) w (w.setRow g cs) :=
  ⟨rfl, rfl, rfl, by simp [World.setRow], fun k hk => setRow_other w g k cs (fun e => hk (by rw [e]))⟩
theorem Only.drew {g : Option Nat} {w w' : World} (h : Only g w w') : Only g w w'.drew := ⟨h.1, h.2, h.3, h.4, h.5⟩
theorem Only.below {g : Nat} {w w' : World} (h : Only (some g) w w') {B : Nat} (hB : B ≤ g) : Below B w w' :=
  ⟨h.os, h.tape, h.output, Nat.le_of_eq h.size.symm, fun k hk => h.block k (fun e => by cases e; omega)⟩
theorem cell_of_heap {w w' : World} {b : Nat} (h : w'.heap[b]? = w.heap[b]?) (o : Nat) : w'.cell? ⟨b, o, none⟩ = w.cell? ⟨b, o, none⟩ := by
  simp [World.cell?, h]
/-- What was read is read where its block has not turned. -/
theorem Row.only {w w' : World} {g : Nat} {v : Value} {xs : List Int} (h : Row w .u8 v xs) (ho : Only (some g) w w') (hg : v.ownBlock ≠ some g) : Row w' .u8 v xs := by
  rcases h with h | ⟨b, off, cap, rfl, hb, hcap, hc⟩
  · exact Or.inl h
  · exact Or.inr ⟨b, off, cap, rfl, by rw [ho.size]; exact hb, hcap, fun j hj => (cell_of_heap (ho.block b (fun e => hg (by cases e; rfl))) _).trans (hc j hj)⟩
/-- The cells of a reading, as a copy's source. -/
theorem row_src {w : World} {v : Value} {xs : List Int} (h : Row w .u8 v xs) (h0 : 0 < xs.length) (m : Nat) (hm : m ≤ xs.length) :
    ∃ ad cap, v = .slice (some ad) xs.length cap ∧ ∀ j u, ((xs.take m).map (Value.int .u8))[j]? = some u → w.cell? (ad.add j) = some u := by
  obtain ⟨b, off, cap, rfl, hb, hc⟩ := h.at h0
  refine ⟨_, _, rfl, fun j u hu => ?_⟩
  have hadd : (⟨b, off, none⟩ : Addr).add j = ⟨b, off + j, none⟩ := by unfold Addr.add; split <;> simp_all
  rw [hadd]
  have hj : j < m := by
    have := List.getElem?_eq_some_iff.1 hu
    obtain ⟨h1, _⟩ := this
    simp at h1
    omega
  rw [hc j (by omega)]
  rw [← hu]
  simp [List.getD, hj, show j < xs.length by omega]

def u8s (xs : List Int) : List Value := xs.map (Value.int .u8)
theorem u8s_length (xs : List Int) : (u8s xs).length = xs.length := by simp [u8s]
theorem u8s_one (xs : List Int) : ∀ v ∈ u8s xs, v.oneCell' = true := by
  intro v hv
  obtain ⟨x, _, rfl⟩ := List.mem_map.1 hv
  rfl
theorem splice_u8s (xs ys : List Int) (off : Nat) : splice (u8s xs) off (u8s ys) = u8s (splice xs off ys) := by
  simp [splice, u8s]

theorem wpList_copy_at {P : Program} {w : World} {ops : Array Oper} {rest : List Oper} {o : Oper} {a : Act} {Q : Exit → Act → World → Prop} (hgd : o.guard = none) (d s : Operand) (dT sT : TypeId)
    (ho : o.op = .call { callee := .builtin .copy, args := #[d, s], argTypes := #[dT, sT] }) (elem : TypeId) (hu : P.underlying dT = some (.slice elem)) (hsz : (P.info? elem).map (·.size) = some 1)
    (g off dLen dCap : Nat) (vs : Value) (hd : a.eval d = .slice (some ⟨g, off, none⟩) dLen dCap) (hs : a.eval s = vs) (xs : List Int) (hrow : Row w .u8 vs xs) (h0 : 0 < xs.length)
    (cur : List Int) (t : TypeId) (hg : w.heap[g]? = some (.cells (u8s cur).toArray t (0, 0))) (m : Nat) (hm : m = Nat.min xs.length dLen) (hfit : off + m ≤ cur.length)
    (h : ∀ w', w'.heap[g]? = some (.cells (u8s (splice cur off (xs.take m))).toArray t (0, 0)) → Only (some g) w w' → wpList P ops Q rest (a.put o.dst (goInt m)) w') :
    wpList P ops Q (o :: rest) a w := by
  have hml : m ≤ xs.length := by rw [hm]; exact Nat.min_le_left _ _
  obtain ⟨ad, cap, rfl, hsrc⟩ := row_src hrow h0 m hml
  have hl : (u8s (xs.take m)).length = m := by rw [u8s_length, List.length_take]; omega
  refine wpList_copy_own hgd d s dT sT ho elem hu hsz g off dLen dCap ad xs.length cap hd hs (u8s cur).toArray t hg (u8s (xs.take m)) (by rw [hl, hm]) hsrc (by rw [hl]; simpa [u8s_length] using hfit) (u8s_one _) ?_
  rw [hl]
  refine h _ ?_ (only_setRow _ _ _)
  rw [setRow_heap w g _ _ t _ hg, ← splice_u8s]
  simp [splice, hl]

theorem step_copy_at {P : Program} {ops : Array Oper} {o : Oper} {a : Act} {w : World} {K : Act → World → Prop} {Q : Exit → Act → World → Prop} {E : Prop} (hgd : o.guard = none) (d s : Operand) (dT sT : TypeId)
    (ho : o.op = .call { callee := .builtin .copy, args := #[d, s], argTypes := #[dT, sT] }) (elem : TypeId) (hu : P.underlying dT = some (.slice elem)) (hsz : (P.info? elem).map (·.size) = some 1)
    (g off dLen dCap : Nat) (vs : Value) (hd : a.eval d = .slice (some ⟨g, off, none⟩) dLen dCap) (hs : a.eval s = vs) (xs : List Int) (hrow : Row w .u8 vs xs) (h0 : 0 < xs.length)
    (cur : List Int) (t : TypeId) (hg : w.heap[g]? = some (.cells (u8s cur).toArray t (0, 0))) (m : Nat) (hm : m = Nat.min xs.length dLen) (hfit : off + m ≤ cur.length)
    (h : ∀ w', w'.heap[g]? = some (.cells (u8s (splice cur off (xs.take m))).toArray t (0, 0)) → Only (some g) w w' → K (a.put o.dst (goInt m)) w') :
    if Region.wanted o (yielded ops a.tmps) = true then Oper.wp P o a w K Q else E := by
  have hw : Region.wanted o (yielded ops a.tmps) = true := by simp [Region.wanted, hgd]
  rw [if_pos hw]
  have hml : m ≤ xs.length := by rw [hm]; exact Nat.min_le_left _ _
  obtain ⟨ad, cap, rfl, hsrc⟩ := row_src hrow h0 m hml
  have hl : (u8s (xs.take m)).length = m := by rw [u8s_length, List.length_take]; omega
  have hrun := run_copy_row (P := P) w dT sT o.type elem g off dLen dCap ad xs.length cap (u8s cur).toArray t (u8s (xs.take m)) hu hsz hg (by rw [hl, hm]) hsrc (by rw [hl]; simpa [u8s_length] using hfit) (u8s_one _)
  unfold Oper.wp
  simp [execOp, ho, resolve, invoke, builtin, hd, hs, hrun, Result.andThen]
  have := h _ (by rw [setRow_heap w g _ _ t _ hg]) (only_setRow w g (u8s (splice cur off (xs.take m))).toArray)
  rw [← splice_u8s] at this
  have this' : K (a.put o.dst (goInt m)) (w.setRow g (List.take off (u8s cur) ++ (u8s (List.take m xs) ++ List.drop (off + m) (u8s cur))).toArray) := by simpa [splice, hl] using this
  rw [hl]
  exact this'

/-- A whole array or struct stored into a block. -/
theorem wpList_store_at {P : Program} {ops : Array Oper} {rest : List Oper} {o : Oper} {a : Act} {w : World} {Q : Exit → Act → World → Prop} (hgd : o.guard = none) (ty : TypeId) (x y : Operand) (ho : o.op = .store ty x y)
    (g : Nat) (cells : Array Value) (hx : a.eval x = .pointer (some ⟨g, 0, none⟩)) (hy : a.eval y = .agg cells)
    (t : TypeId) (old : Array Value) (hg : w.heap[g]? = some (.cells old t (0, 0))) (hi : (P.info? ty).map (·.size) = some cells.size)
    (hold : old.size = cells.size) (h1 : cells.all (·.oneCell') = true)
    (h : ∀ w', w'.heap[g]? = some (.cells cells t (0, 0)) → Only (some g) w w' → wpList P ops Q rest (a.put o.dst undef) w') : wpList P ops Q (o :: rest) a w :=
  wpList_store_row hgd ty x y ho g cells hx hy t old hg hi hold h1 (h _ (setRow_heap w g old cells t _ hg) (only_setRow w g cells))
theorem u8s_all (xs : List Int) : (u8s xs).toArray.all (·.oneCell') = true := by
  rw [Array.all_eq_true_iff_forall_mem]
  intro v hv
  exact u8s_one xs v (by simpa using hv)
end Go.Proofs.YtoalillggafnpaaGreatDoor

namespace Go.Proofs.YtoalillggafnpaaGreatDoor
open Go.RowKit
set_option linter.unusedVariables false

theorem irot_7 (x : Int) (w : World) (h0 : 0 ≤ x) (h1 : x < 4294967296) : Calls Tryz.prog 92 #[.int .u32 x, .int .i64 7] w fun e w' => e = .returned (.int .u32 (rot7 x)) ∧ w' = w := by
  have e0 : bits BinOp.and IntKind.u64 7 31 = 7 := by decide
  go_enter Tryz.func92, Tryz.ntmps92
  go_wp2
  go_ret
  exact ⟨rfl, rfl⟩
theorem irot_13 (x : Int) (w : World) (h0 : 0 ≤ x) (h1 : x < 4294967296) : Calls Tryz.prog 92 #[.int .u32 x, .int .i64 13] w fun e w' => e = .returned (.int .u32 (rot13 x)) ∧ w' = w := by
  have e0 : bits BinOp.and IntKind.u64 13 31 = 13 := by decide
  go_enter Tryz.func92, Tryz.ntmps92
  go_wp2
  go_ret
  exact ⟨rfl, rfl⟩
theorem irot_17 (x : Int) (w : World) (h0 : 0 ≤ x) (h1 : x < 4294967296) : Calls Tryz.prog 92 #[.int .u32 x, .int .i64 17] w fun e w' => e = .returned (.int .u32 (rot17 x)) ∧ w' = w := by
  have e0 : bits BinOp.and IntKind.u64 17 31 = 17 := by decide
  go_enter Tryz.func92, Tryz.ntmps92
  go_wp2
  go_ret
  exact ⟨rfl, rfl⟩

theorem wrap32 (x : Int) : U32 (IntKind.u32.wrap x) := by
  rw [IntKind.wrap_u32]
  unfold U32
  omega
theorem stB_eq (s : S4) (x : Int) : rot7 (IntKind.u32.wrap (s.b + stA s x)) = stB s x := by
  unfold stB stA
  rw [IntKind.wrap_u32]
  congr 1
  omega
theorem stD_eq (s : S4) (x : Int) : rot17 (IntKind.u32.wrap (s.d + stC s x)) = stD s x := by
  unfold stD
  rw [IntKind.wrap_u32]

/-- Block g holds the state s; nothing else has turned since w. -/
structure StI (g : Nat) (w wx : World) (s : S4) : Prop where
  blk : wx.heap[g]? = some (.cells #[.int .u32 s.a, .int .u32 s.b, .int .u32 s.c, .int .u32 s.d] 105 (0, 0))
  only : Only (some g) w wx
theorem StI.drew {g : Nat} {w wx : World} {s : S4} (h : StI g w wx s) : StI g w wx.drew s := ⟨h.blk, ⟨h.only.1, h.only.2, h.only.3, h.only.4, h.only.5⟩⟩
theorem StI.set {g : Nat} {w wx : World} {s : S4} (h : StI g w wx s) (o : Nat) (u : Value) (t : S4)
    (e : (#[.int .u32 s.a, .int .u32 s.b, .int .u32 s.c, .int .u32 s.d] : Array Value).setIfInBounds o u = #[.int .u32 t.a, .int .u32 t.b, .int .u32 t.c, .int .u32 t.d]) : StI g w (wx.setCell ⟨g, o, none⟩ u) t :=
  ⟨by rw [blkS_setCell h.blk o u, e], h.only.trans (Only.setCell ⟨g, o, none⟩ u)⟩
theorem StI.cells {g : Nat} {w wx : World} {s : S4} (h : StI g w wx s) : wx.cell? ⟨g, 0, none⟩ = some (.int .u32 s.a) ∧ wx.cell? ⟨g, 1, none⟩ = some (.int .u32 s.b) ∧ wx.cell? ⟨g, 2, none⟩ = some (.int .u32 s.c) ∧ wx.cell? ⟨g, 3, none⟩ = some (.int .u32 s.d) :=
  ⟨by rw [blkS_cell h.blk]; rfl, by rw [blkS_cell h.blk]; rfl, by rw [blkS_cell h.blk]; rfl, by rw [blkS_cell h.blk]; rfl⟩

set_option maxHeartbeats 2000000 in
theorem istir (g : Nat) (s : S4) (hs : s.ok) (x : Int) (hx0 : 0 ≤ x) (hx1 : x < 256) (w : World)
    (hb : w.heap[g]? = some (.cells #[.int .u32 s.a, .int .u32 s.b, .int .u32 s.c, .int .u32 s.d] 105 (0, 0))) :
    Calls Tryz.prog 70 #[.pointer (some ⟨g, 0, none⟩), .int .u8 x] w fun e w' => (∃ v, e = .returned v) ∧ StI g w w' (stir1 s x) := by
  have H0 : Hid (StI g w w s) := ⟨hb, Only.refl _ _⟩
  obtain ⟨c0, c1, c2, c3⟩ := H0.out.cells
  have f0 := blkS_free hb 0
  have uA : U32 (stA s x) := by unfold U32 stA; omega
  have uB : U32 (stB s x) := bits32_or _ _
  have uC : U32 (stC s x) := bits32_or _ _
  have uD : U32 (stD s x) := bits32_or _ _
  obtain ⟨⟨a0, a1⟩, ⟨b0, b1⟩, ⟨g0, g1⟩, ⟨d0, d1⟩⟩ := hs
  clear hb
  go_enter Tryz.func70, Tryz.ntmps70
  go_upto_region 0 with fail
  go_cut [4] from 4 to 14 (fun _ wx => StI g w wx ⟨stA s x, s.b, s.c, s.d⟩)
  case first =>
    go_region
    go_wp2_with fail
    go_meet
    exact (H0.out.set 0 _ _ (by rfl)).drew
  case rest =>
  clear c0 c1 c2 c3 f0
  have H1 : Hid _ := hcut
  clear hcut
  obtain ⟨c0, c1, c2, c3⟩ := H1.out.cells
  have f1 := blkS_free H1.out.blk 1
  simp only at c0 c1 c2 c3
  go_upto_region 1 with fail
  go_cut [15] from 15 to 27 (fun _ wx => StI g w wx ⟨stA s x, stB s x, s.c, s.d⟩)
  case first =>
    go_region_with (go_at_call 92; refine (irot_7 _ _ (wrap32 _).1 (wrap32 _).2).mono ?_; rintro e w' ⟨rfl, hw⟩; subst w')
    all_goals (go_wp2_with fail; go_meet; exact (H1.out.set 1 _ _ (by rw [stB_eq]; rfl)).drew)
  case rest =>
  clear c0 c1 c2 c3 f1
  have H2 : Hid _ := hcut
  clear hcut
  obtain ⟨c0, c1, c2, c3⟩ := H2.out.cells
  have f2 := blkS_free H2.out.blk 2
  simp only at c0 c1 c2 c3
  go_upto_region 2 with fail
  go_cut [28] from 28 to 40 (fun _ wx => StI g w wx ⟨stA s x, stB s x, stC s x, s.d⟩)
  case first =>
    go_region_with (go_at_call 92; refine (irot_13 _ _ (bits32_xor _ _).1 (bits32_xor _ _).2).mono ?_; rintro e w' ⟨rfl, hw⟩; subst w')
    all_goals (go_wp2_with fail; go_meet; exact (H2.out.set 2 _ _ (by rfl)).drew)
  case rest =>
  clear c0 c1 c2 c3 f2
  have H3 : Hid _ := hcut
  clear hcut
  obtain ⟨c0, c1, c2, c3⟩ := H3.out.cells
  have f3 := blkS_free H3.out.blk 3
  simp only at c0 c1 c2 c3
  go_upto_region 3 with fail
  go_cut [41] from 41 to 53 (fun _ wx => StI g w wx ⟨stA s x, stB s x, stC s x, stD s x⟩)
  case first =>
    go_region_with (go_at_call 92; refine (irot_17 _ _ (wrap32 _).1 (wrap32 _).2).mono ?_; rintro e w' ⟨rfl, hw⟩; subst w')
    all_goals (go_wp2_with fail; go_meet; exact (H3.out.set 3 _ _ (by rw [stD_eq]; rfl)).drew)
  case rest =>
  clear c0 c1 c2 c3 f3
  have H4 : Hid _ := hcut
  clear hcut
  obtain ⟨c0, c1, c2, c3⟩ := H4.out.cells
  have f0 := blkS_free H4.out.blk 0
  simp only at c0 c1 c2 c3
  go_wp2
  go_region
  go_wp2
  go_end0
  exact ⟨⟨_, rfl⟩, (H4.out.set 0 _ _ (by rfl)).drew⟩
end Go.Proofs.YtoalillggafnpaaGreatDoor

namespace Go.Proofs.YtoalillggafnpaaGreatDoor
open Go.RowKit
set_option linter.unusedVariables false

theorem be_at (v : Int) (n i : Nat) (h : i < n) : (be v n).getD i 0 = v / 256 ^ (n - 1 - i) % 256 := by
  induction n generalizing v with
  | zero => omega
  | succ n ih =>
    unfold be
    by_cases hi : i < n
    · have e := ih (v / 256) hi
      have hl : i < (be (v / 256) n).length := by rw [be_length]; exact hi
      simp only [List.getD, List.getElem?_append_left hl] at e ⊢
      rw [e, Int.ediv_ediv_of_nonneg (by omega)]
      congr 2
      have : n + 1 - 1 - i = (n - 1 - i) + 1 := by omega
      rw [this, Int.pow_succ, Int.mul_comm]
    · obtain rfl : i = n := by omega
      simp [List.getD, be_length]

theorem pow256 (v : Int) (m : Nat) : v / 256 ^ m % 256 = v / 2 ^ (8 * m) % 256 := by
  rw [Int.pow_mul]; rfl

set_option maxHeartbeats 400000 in
theorem high (v : Int) (n : Nat) (w : World) (h0 : 0 ≤ v) (h1 : v ≤ 9223372036854775807) (hn : n ≤ 8) :
    Calls Tryz.prog 41 #[.int .u64 v, .int .i64 n] w fun e w' => ∃ r, e = .returned r ∧ w'.ownsRow w.heap.size 5 1 r n ((be v n).map (Value.int .u8)) ∧ Below w.heap.size w w' := by
  obtain ⟨i0, hi, hz0, hz1, hz2⟩ := info_parts infoU8
  go_enter Tryz.func41, Tryz.ntmps41
  go_wp2_with (at_make; refine wpList_make_full _ rfl _ _ 22 rfl w.heap.size 5 i0 (.int .u8 0) 1 Tryz.underlying22 hi hz0 hz1 .i64 .i64 (n : Int) (n : Int) n rfl rfl rfl rfl (by rw [hz2]; omega) (by unfold maxLen; omega) (Nat.le_refl _) ?_; intro w1 hown hg)
  go_loopw [10] (fun i wr => ∃ k : Nat, k ≤ n ∧ i = .int .i64 k ∧ ∃ zs : List Int, zs.length = n ∧ (∀ j, j < k → zs.getD j 0 = (be v n).getD j 0) ∧
      wr.ownsRow w.heap.size 5 1 (.slice (some ⟨w.heap.size, 0, none⟩) n n) n (zs.map (Value.int .u8)) ∧ Below w.heap.size w wr) (fun i _ => n - (intOf i).toNat)
  case atStart =>
    exact ⟨0, Nat.zero_le _, rfl, List.replicate n 0, by simp, fun j h => by omega, made_zero hown, (Below.refl _ _).grown hg (Nat.le_refl _) (by intro k hk; cases hk)⟩
  case round =>
    obtain ⟨k, hk, rfl, zs, hl, hm, hown', hb⟩ := hrel
    by_cases hlt : k < n
    · have R := fill_step (x := v / 2 ^ (8 * (n - 1 - k)) % 256) (f := fun j => (be v n).getD j 0) (by rw [be_at v n k hlt, pow256]) hl hlt hm hown' hb (Nat.le_refl _)
      have f1 := hown'.frozenAt k
      have c1 := owns_cell hown' hl hlt
      generalize zs.getD k 0 = u at c1
      clear hl hm hown' hb hown hg
      obtain ⟨ys, R⟩ := R
      have HR : Hid _ := R
      clear R
      go_wp2
      go_roundw
      case rel =>
        obtain ⟨r1, r2, r3, r4⟩ := HR.out
        exact ⟨k + 1, by omega, by go_num, ys, r1, r2, r3, r4⟩
      case measure => simp [intOf]; omega
    · have HR : Hid _ := And.intro hl (And.intro hm (And.intro hown' hb))
      clear hl hm hown' hb hown hg
      go_wp2
      go_ret
      obtain rfl : k = n := by omega
      obtain ⟨r1, r2, r3, r4⟩ := HR.out
      obtain rfl : zs = be v k := list_eq_of_getD r1 (be_length v k) r2
      exact ⟨_, rfl, r3, r4⟩
end Go.Proofs.YtoalillggafnpaaGreatDoor

namespace Go.Proofs.YtoalillggafnpaaGreatDoor
open Go.RowKit
set_option linter.unusedVariables false

def S4.cs (s : S4) : Array Value := #[.int .u32 s.a, .int .u32 s.b, .int .u32 s.c, .int .u32 s.d]
/-- A row of bytes does not lie in the state's block. -/
theorem not_state {w : World} {g b o : Nat} {s : S4} {x : Int} (hb : w.heap[g]? = some (.cells #[.int .u32 s.a, .int .u32 s.b, .int .u32 s.c, .int .u32 s.d] 105 (0, 0))) (hc : w.cell? ⟨b, o, none⟩ = some (.int .u8 x)) : b ≠ g := by
  rintro rfl
  rw [blkS_cell hb] at hc
  match o with
  | 0 => simp at hc
  | 1 => simp at hc
  | 2 => simp at hc
  | 3 => simp at hc
  | n + 4 => simp at hc

set_option maxHeartbeats 800000 in
theorem istirAll (g : Nat) (s : S4) (hs : s.ok) (v : Value) (xs : List Int) (w : World) (hrow : Row w .u8 v xs) (hB : Bytes xs) (hl : xs.length ≤ 4611686018427387903)
    (hb : w.heap[g]? = some (.cells #[.int .u32 s.a, .int .u32 s.b, .int .u32 s.c, .int .u32 s.d] 105 (0, 0))) :
    Calls Tryz.prog 69 #[.pointer (some ⟨g, 0, none⟩), v] w fun e w' => (∃ r, e = .returned r) ∧ StI g w w' (stirL s xs) := by
  obtain ⟨ao, cap, rfl⟩ := hrow.form
  obtain ⟨n, en⟩ : ∃ n, n = xs.length := ⟨_, rfl⟩
  have HC : Hid _ := And.intro hrow (And.intro hB (And.intro en (And.intro hs hb)))
  rw [← en] at hl ⊢
  clear hrow hB en hs hb
  go_enter Tryz.func69, Tryz.ntmps69
  go_wp2
  go_loopw [8] (fun i wr => ∃ k : Nat, k ≤ n ∧ i = .int .i64 (k : Int) ∧ StI g w wr (stirL s (xs.take k))) (fun i _ => n - (intOf i).toNat)
  case atStart => exact ⟨0, by omega, rfl, ⟨HC.out.2.2.2.2, Only.refl _ _⟩⟩
  case round =>
    obtain ⟨k, hk, rfl, st⟩ := hrel
    by_cases hlt : k < n
    · have hn := HC.out.2.2.1
      obtain ⟨b, off, cap', e1, hbl, hc⟩ := HC.out.1.at (by omega)
      simp only [Value.slice.injEq] at e1
      obtain ⟨rfl, e2, e3⟩ := e1
      have c0 := hc k (by omega)
      have hne := not_state HC.out.2.2.2.2 c0
      have cx : wr.cell? ⟨b, off + k, none⟩ = some (.int .u8 (xs.getD k 0)) := (cell_of_heap (st.only.block b (fun e => hne (by cases e; rfl))) _).trans c0
      have bx := HC.out.2.1.at k
      have H1 : Hid _ := And.intro st (And.intro (stirL_ok s (xs.take k) HC.out.2.2.2.1) (stirL_take s xs k (by omega)))
      clear st c0 hc e2 e3 hne hbl hn
      generalize xs.getD k 0 = x at cx bx H1
      go_wp2_with fail
      go_at_call 70
      refine (istir g _ H1.out.2.1 x bx.1 bx.2 wr H1.out.1.blk).mono ?_
      rintro e w1 ⟨⟨r, rfl⟩, st⟩
      have H2 : Hid _ := And.intro st True.intro
      clear st cx
      go_wp2
      go_roundw
      case rel =>
        refine ⟨k + 1, by omega, by go_num, ?_⟩
        rw [H1.out.2.2]
        exact ⟨H2.out.1.blk, H1.out.1.only.trans H2.out.1.only⟩
      case measure => simp [intOf]; omega
    · obtain rfl : k = n := by omega
      have el : xs.take k = xs := List.take_of_length_le (by have := HC.out.2.2.1; omega)
      rw [el] at st
      have H1 : Hid _ := And.intro st True.intro
      clear st
      go_wp2
      go_end0
      exact ⟨⟨_, rfl⟩, H1.out.1⟩

/-- Block g holds the state s; of the old blocks no other has turned since w. -/
structure StC (g : Nat) (w wx : World) (s : S4) : Prop where
  blk : wx.heap[g]? = some (.cells #[.int .u32 s.a, .int .u32 s.b, .int .u32 s.c, .int .u32 s.d] 105 (0, 0))
  chg : Chg (fun k => k = g) w wx
theorem StI.toC {g : Nat} {w wx : World} {s : S4} (h : StI g w wx s) : StC g w wx s := ⟨h.blk, Chg.of_only h.only (fun k e => by cases e; rfl)⟩
theorem StC.trans {g : Nat} {a b c : World} {s t : S4} (h : StC g a b s) (k : StC g b c t) : StC g a c t := ⟨k.blk, h.chg.trans k.chg⟩
theorem StC.row {g : Nat} {w wx : World} {s t : S4} {v : Value} {xs : List Int} (h : StC g w wx t) (hb : w.heap[g]? = some (.cells #[.int .u32 s.a, .int .u32 s.b, .int .u32 s.c, .int .u32 s.d] 105 (0, 0))) (hr : Row w .u8 v xs) : Row wx .u8 v xs := by
  rcases hr with hr | ⟨b, off, cap, rfl, hlt, hcap, hc⟩
  · exact Or.inl hr
  · by_cases h0 : xs.length = 0
    · obtain rfl : xs = [] := List.eq_nil_of_length_eq_zero h0
      exact Or.inl ⟨rfl, _, _, rfl⟩
    · have hne := not_state hb (hc 0 (by omega))
      exact Or.inr ⟨b, off, cap, rfl, Nat.lt_of_lt_of_le hlt h.chg.size, hcap, fun j hj => (cell_of_heap (h.chg.block b hlt hne) _).trans (hc j hj)⟩

set_option maxHeartbeats 800000 in
theorem istirCount (g : Nat) (s : S4) (hs : s.ok) (n : Nat) (hn : n ≤ 4611686018427387903) (w : World)
    (hb : w.heap[g]? = some (.cells #[.int .u32 s.a, .int .u32 s.b, .int .u32 s.c, .int .u32 s.d] 105 (0, 0))) :
    Calls Tryz.prog 68 #[.pointer (some ⟨g, 0, none⟩), .int .i64 (n : Int)] w fun e w' => (∃ r, e = .returned r) ∧ StC g w w' (stirL s (be (n : Int) 4)) := by
  have hlt : g < w.heap.size := (Array.getElem?_eq_some_iff.1 hb).1
  have HB : Hid _ := And.intro hb hs
  clear hb hs
  go_enter Tryz.func68, Tryz.ntmps68
  go_wp2_with fail
  go_at_call 41
  refine (high (n : Int) 4 w (by omega) (by omega) (by decide)).mono ?_
  rintro e w1 ⟨r, rfl, o1, b1⟩
  have H1 : Hid _ := And.intro o1 b1
  clear o1 b1
  go_wp2_with fail
  go_at_call 69
  refine (istirAll g s HB.out.2 r _ w1 (row_of_owns H1.out.1) (be_bytes _ _) (by rw [be_length]; decide) ((H1.out.2.block g hlt).trans HB.out.1)).mono ?_
  rintro e w2 ⟨⟨r2, rfl⟩, st⟩
  have H2 : Hid _ := And.intro st True.intro
  clear st
  go_wp2
  go_end0
  exact ⟨⟨_, rfl⟩, ⟨H2.out.1.blk, (Chg.of_below H1.out.2).trans H2.out.1.toC.chg⟩⟩
end Go.Proofs.YtoalillggafnpaaGreatDoor

namespace Go.Proofs.YtoalillggafnpaaGreatDoor
open Go.RowKit
set_option linter.unusedVariables false

def S4.byts (s : S4) : List Int := be s.a 4 ++ (be s.b 4 ++ (be s.c 4 ++ be s.d 4))
theorem byts_length (s : S4) : s.byts.length = 16 := by simp [S4.byts, be_length]
theorem byts_digV (ks ds : List Int) : (digS ks ds).byts = digV ks ds := by simp [S4.byts, digV]
def outL (s : S4) : Nat → List Int
  | 0 => List.replicate 16 0
  | 1 => be s.a 4 ++ List.replicate 12 0
  | 2 => be s.a 4 ++ (be s.b 4 ++ List.replicate 8 0)
  | 3 => be s.a 4 ++ (be s.b 4 ++ (be s.c 4 ++ List.replicate 4 0))
  | _ => s.byts
theorem outL_length (s : S4) (k : Nat) : (outL s k).length = 16 := by
  match k with
  | 0 => simp [outL]
  | 1 => simp [outL, be_length]
  | 2 => simp [outL, be_length]
  | 3 => simp [outL, be_length]
  | n + 4 => simp [outL, byts_length]
theorem outL_0 (s : S4) : splice (outL s 0) 0 ((be s.a 4).take 4) = outL s 1 := by simp [outL, splice, be]
theorem outL_1 (s : S4) : splice (outL s 1) 4 ((be s.b 4).take 4) = outL s 2 := by simp [outL, splice, be]
theorem outL_2 (s : S4) : splice (outL s 2) 8 ((be s.c 4).take 4) = outL s 3 := by simp [outL, splice, be]
theorem outL_3 (s : S4) : splice (outL s 3) 12 ((be s.d 4).take 4) = outL s 4 := by simp [outL, splice, be, S4.byts]
theorem infoU8s : (Tryz.prog.info? 5).map (·.size) = some 1 := by kernel_rfl
theorem infoB16 : (Tryz.prog.info? 76).map (·.size) = some 16 := by kernel_rfl
theorem infoBs (xs : List Int) (h : xs.length = 16) : (Tryz.prog.info? 76).map (·.size) = some (u8s xs).toArray.size := by rw [infoB16]; simp [u8s_length, h]
theorem zeros16 : (#[.int .u8 0, .int .u8 0, .int .u8 0, .int .u8 0, .int .u8 0, .int .u8 0, .int .u8 0, .int .u8 0, .int .u8 0, .int .u8 0, .int .u8 0, .int .u8 0, .int .u8 0, .int .u8 0, .int .u8 0, .int .u8 0] : Array Value) = (u8s (List.replicate 16 0)).toArray := rfl

theorem book_new2 (w : World) (o1 o2 : Obj) : Book ((w.alloc o1).alloc o2) [(w.heap.size + 1, o2), (w.heap.size, o1)] := by
  refine ⟨fun b o hm => ?_⟩
  rcases List.mem_cons.1 hm with e | hm
  · cases e
    exact (bk_new2 w o1 o2).2
  · simp only [List.mem_singleton, Prod.mk.injEq] at hm
    obtain ⟨rfl, rfl⟩ := hm
    exact (bk_new2 w o o2).1
/-- A book of which one block has turned. -/
theorem Book.turn {wx w' : World} {g : Nat} {o o' : Obj} {L : List (Nat × Obj)} (h : Book wx ((g, o) :: L)) (hc : Only (some g) wx w') (hn : w'.heap[g]? = some o') (hs : ∀ b o, (b, o) ∈ L → b ≠ g) : Book w' ((g, o') :: L) := by
  refine ⟨fun b u hm => ?_⟩
  rcases List.mem_cons.1 hm with e | hm
  · cases e
    exact hn
  · exact (hc.block b (fun e => hs b u hm (by cases e; rfl))).trans (h.blk b u (List.mem_cons_of_mem _ hm))

/-- The two blocks of block(): the answer's room and the variable. -/
abbrev BkB (h : Nat) (s : S4) (k : Nat) : List (Nat × Obj) := [(h + 1, .cells (u8s (outL s k)).toArray 76 (0, 0)), (h, .cells (u8s (List.replicate 16 0)).toArray 76 (0, 0))]

set_option maxRecDepth 20000 in
set_option maxHeartbeats 4000000 in
theorem iblock (g : Nat) (s : S4) (hs : s.ok) (w : World)
    (hb : w.heap[g]? = some (.cells #[.int .u32 s.a, .int .u32 s.b, .int .u32 s.c, .int .u32 s.d] 105 (0, 0))) :
    Calls Tryz.prog 71 #[.pointer (some ⟨g, 0, none⟩)] w fun e w' => e = .returned (.agg (u8s s.byts).toArray) ∧ Below w.heap.size w w' := by
  have hlt : g < w.heap.size := (Array.getElem?_eq_some_iff.1 hb).1
  have HB : Hid _ := And.intro hb hs
  clear hb hs
  go_enter Tryz.func71, Tryz.ntmps71
  go_wp2
  go_loopw [7] (fun i wr => ∃ k : Nat, k ≤ 4 ∧ i = .int .i64 (k : Int) ∧ Book wr (BkB w.heap.size s k) ∧ Below w.heap.size w wr) (fun i _ => 4 - (intOf i).toNat)
  case atStart =>
    refine ⟨0, by omega, rfl, ?_, ((Below.refl _ _).alloc (Nat.le_refl _) _).alloc (by simp) _⟩
    rw [zeros16]
    exact book_new2 w _ _
  case round =>
    obtain ⟨k, hk, rfl, bk, bl⟩ := hrel
    have st : StI g w w s := ⟨HB.out.1, Only.refl _ _⟩
    obtain ⟨c0, c1, c2, c3⟩ := st.cells
    clear st
    by_cases hlt4 : k < 4
    · rcases (show k = 0 ∨ k = 1 ∨ k = 2 ∨ k = 3 by omega) with rfl | rfl | rfl | rfl
      · have cx := (bl.cell (p := ⟨g, 0, none⟩) hlt).trans c0
        have H1 : Hid _ := And.intro bk bl
        have hx := HB.out.2.1
        obtain ⟨hx0, hx1⟩ := hx
        clear bk bl c0 c1 c2 c3
        have es := outL_0 s
        have HE : Hid _ := es
        clear es
        generalize s.a = x at cx hx0 hx1 HE
        go_upto_region 5 with (go_quiet (fail))
        have ew : IntKind.i64.wrap 0 = 0 := by decide
        have ex : IntKind.u64.wrap x = x := by rw [IntKind.wrap_u64]; omega
        go_region_law (first
          | (go_simp; go_at_call 41; refine (high x 4 _ (by omega) (by omega) (by decide)).mono ?_; rintro e w1 ⟨r, rfl, o1, b1⟩)
          | (refine step_copy_at rfl (.tmp 15) (.tmp 18) 22 22 rfl 5 Tryz.underlying22 infoU8s (w.heap.size + 1) (0) (16 - 0) (16 - 0) _ rfl rfl _ (row_of_owns o1) (by rw [be_length]; decide) (outL s 0) 76 (((H1.out.1.drewN _).below b1).blk _ _ (by simp)) 4 (by rw [be_length]; rfl) (by rw [outL_length]; decide) ?_; intro w2 h2 n2))
        all_goals
          rw [HE.out] at h2
          have H2 : Hid _ := And.intro (((H1.out.1.drewN _).below b1).turn n2 h2 (by intro b o hm; simp at hm; omega)) (((below_drewN H1.out.2 _).trans (b1.mono H1.out.2.size)).trans (n2.below (by omega)))
          clear h2 n2 o1 b1 cx
          go_wp2
          go_roundw
          case rel => exact ⟨0 + 1, by decide, rfl, H2.out.1, H2.out.2⟩
          case measure => simp [intOf]
      · have cx := (bl.cell (p := ⟨g, 1, none⟩) hlt).trans c1
        have H1 : Hid _ := And.intro bk bl
        have hx := HB.out.2.2.1
        obtain ⟨hx0, hx1⟩ := hx
        clear bk bl c0 c1 c2 c3
        have es := outL_1 s
        have HE : Hid _ := es
        clear es
        generalize s.b = x at cx hx0 hx1 HE
        go_upto_region 5 with (go_quiet (fail))
        have ew : IntKind.i64.wrap 4 = 4 := by decide
        have ex : IntKind.u64.wrap x = x := by rw [IntKind.wrap_u64]; omega
        go_region_law (first
          | (go_simp; go_at_call 41; refine (high x 4 _ (by omega) (by omega) (by decide)).mono ?_; rintro e w1 ⟨r, rfl, o1, b1⟩)
          | (refine step_copy_at rfl (.tmp 15) (.tmp 18) 22 22 rfl 5 Tryz.underlying22 infoU8s (w.heap.size + 1) (4) (16 - 4) (16 - 4) _ rfl rfl _ (row_of_owns o1) (by rw [be_length]; decide) (outL s 1) 76 (((H1.out.1.drewN _).below b1).blk _ _ (by simp)) 4 (by rw [be_length]; rfl) (by rw [outL_length]; decide) ?_; intro w2 h2 n2))
        all_goals
          rw [HE.out] at h2
          have H2 : Hid _ := And.intro (((H1.out.1.drewN _).below b1).turn n2 h2 (by intro b o hm; simp at hm; omega)) (((below_drewN H1.out.2 _).trans (b1.mono H1.out.2.size)).trans (n2.below (by omega)))
          clear h2 n2 o1 b1 cx
          go_wp2
          go_roundw
          case rel => exact ⟨1 + 1, by decide, rfl, H2.out.1, H2.out.2⟩
          case measure => simp [intOf]
      · have cx := (bl.cell (p := ⟨g, 2, none⟩) hlt).trans c2
        have H1 : Hid _ := And.intro bk bl
        have hx := HB.out.2.2.2.1
        obtain ⟨hx0, hx1⟩ := hx
        clear bk bl c0 c1 c2 c3
        have es := outL_2 s
        have HE : Hid _ := es
        clear es
        generalize s.c = x at cx hx0 hx1 HE
        go_upto_region 5 with (go_quiet (fail))
        have ew : IntKind.i64.wrap 8 = 8 := by decide
        have ex : IntKind.u64.wrap x = x := by rw [IntKind.wrap_u64]; omega
        go_region_law (first
          | (go_simp; go_at_call 41; refine (high x 4 _ (by omega) (by omega) (by decide)).mono ?_; rintro e w1 ⟨r, rfl, o1, b1⟩)
          | (refine step_copy_at rfl (.tmp 15) (.tmp 18) 22 22 rfl 5 Tryz.underlying22 infoU8s (w.heap.size + 1) (8) (16 - 8) (16 - 8) _ rfl rfl _ (row_of_owns o1) (by rw [be_length]; decide) (outL s 2) 76 (((H1.out.1.drewN _).below b1).blk _ _ (by simp)) 4 (by rw [be_length]; rfl) (by rw [outL_length]; decide) ?_; intro w2 h2 n2))
        all_goals
          rw [HE.out] at h2
          have H2 : Hid _ := And.intro (((H1.out.1.drewN _).below b1).turn n2 h2 (by intro b o hm; simp at hm; omega)) (((below_drewN H1.out.2 _).trans (b1.mono H1.out.2.size)).trans (n2.below (by omega)))
          clear h2 n2 o1 b1 cx
          go_wp2
          go_roundw
          case rel => exact ⟨2 + 1, by decide, rfl, H2.out.1, H2.out.2⟩
          case measure => simp [intOf]
      · have cx := (bl.cell (p := ⟨g, 3, none⟩) hlt).trans c3
        have H1 : Hid _ := And.intro bk bl
        have hx := HB.out.2.2.2.2
        obtain ⟨hx0, hx1⟩ := hx
        clear bk bl c0 c1 c2 c3
        have es := outL_3 s
        have HE : Hid _ := es
        clear es
        generalize s.d = x at cx hx0 hx1 HE
        go_upto_region 5 with (go_quiet (fail))
        have ew : IntKind.i64.wrap 12 = 12 := by decide
        have ex : IntKind.u64.wrap x = x := by rw [IntKind.wrap_u64]; omega
        go_region_law (first
          | (go_simp; go_at_call 41; refine (high x 4 _ (by omega) (by omega) (by decide)).mono ?_; rintro e w1 ⟨r, rfl, o1, b1⟩)
          | (refine step_copy_at rfl (.tmp 15) (.tmp 18) 22 22 rfl 5 Tryz.underlying22 infoU8s (w.heap.size + 1) (12) (16 - 12) (16 - 12) _ rfl rfl _ (row_of_owns o1) (by rw [be_length]; decide) (outL s 3) 76 (((H1.out.1.drewN _).below b1).blk _ _ (by simp)) 4 (by rw [be_length]; rfl) (by rw [outL_length]; decide) ?_; intro w2 h2 n2))
        all_goals
          rw [HE.out] at h2
          have H2 : Hid _ := And.intro (((H1.out.1.drewN _).below b1).turn n2 h2 (by intro b o hm; simp at hm; omega)) (((below_drewN H1.out.2 _).trans (b1.mono H1.out.2.size)).trans (n2.below (by omega)))
          clear h2 n2 o1 b1 cx
          go_wp2
          go_roundw
          case rel => exact ⟨3 + 1, by decide, rfl, H2.out.1, H2.out.2⟩
          case measure => simp [intOf]
    · obtain rfl : k = 4 := by omega
      have H1 : Hid _ := And.intro bk bl
      clear bk bl c0 c1 c2 c3
      go_wp2_with (first
        | (refine wpList_load_row rfl 76 (.tmp 3) rfl (w.heap.size + 1) rfl 76 _ (0, 0) _ (H1.out.1.blk _ _ (by simp)) Tryz.underlying76 rfl (infoBs _ (outL_length s 4)) ?_)
        | (refine wpList_store_at rfl 76 (.tmp 2) (.tmp 21) rfl w.heap.size _ rfl rfl 76 (u8s (List.replicate 16 0)).toArray (H1.out.1.blk _ _ (by simp)) (infoBs _ (outL_length s 4)) (by simp [u8s_length, outL_length]) (u8s_all _) ?_; intro w2 h2 n2))
      try simp only [Exit.inBlock, Exit.then]
      refine bodyPost_ret (v := .agg (u8s s.byts).toArray) ?_ rfl ?_
      · exact results_cell_row (t := 76) rfl _ _ w.heap.size _ (fr := (0, 0)) _ rfl h2 Tryz.underlying76 rfl (infoBs _ (outL_length s 4))
      · exact ⟨rfl, H1.out.2.trans (n2.below (Nat.le_refl _))⟩
end Go.Proofs.YtoalillggafnpaaGreatDoor

namespace Go.Proofs.YtoalillggafnpaaGreatDoor
open Go.RowKit
set_option linter.unusedVariables false

theorem infoS80 : (Tryz.prog.info? 105).map (·.size) = some 4 := by kernel_rfl
set_option maxHeartbeats 800000 in
theorem inew (w : World) : Calls Tryz.prog 67 #[] w fun e w' => e = .returned (.agg #[.int .u32 1779033703, .int .u32 3144134277, .int .u32 1013904242, .int .u32 2773480762]) ∧ Below w.heap.size w w' := by
  go_enter Tryz.func67, Tryz.ntmps67
  go_wp2
  refine bodyPost_ret (v := .agg #[.int .u32 1779033703, .int .u32 3144134277, .int .u32 1013904242, .int .u32 2773480762]) (by simp [results, Tryz.results67, go_sem]) rfl ⟨rfl, ?_⟩
  exact (Below.refl _ _).alloc (Nat.le_refl _) _

/-- digestParts' own blocks: the answer's room, the state. -/
structure DP (w wx : World) (g : Nat) (s : S4) : Prop where
  blk : wx.heap[g]? = some (.cells #[.int .u32 s.a, .int .u32 s.b, .int .u32 s.c, .int .u32 s.d] 105 (0, 0))
  res : wx.heap[w.heap.size]? = some (.cells (u8s (List.replicate 16 0)).toArray 76 (0, 0))
  bel : Below w.heap.size w wx
  lt : w.heap.size < g
theorem DP.step {w wx wy : World} {g : Nat} {s t : S4} (h : DP w wx g s) (k : StC g wx wy t) : DP w wy g t := by
  have hg : g < wx.heap.size := (Array.getElem?_eq_some_iff.1 h.blk).1
  have hr : w.heap.size < wx.heap.size := (Array.getElem?_eq_some_iff.1 h.res).1
  exact ⟨k.blk, (k.chg.block _ hr (by have := h.lt; omega)).trans h.res, h.bel.trans (k.chg.below h.bel.size (fun i e => by have := h.lt; omega)), h.lt⟩
set_option maxRecDepth 20000 in
set_option maxHeartbeats 4000000 in
theorem iparts (vk vp : Value) (ks : List Int) (L : List (List Int)) (w : World) (rk : Row w .u8 vk ks) (bk : Bytes ks) (lk : ks.length ≤ 4611686018427387903) (hp : Parts w vp L) (bp : ∀ j, Bytes (L.getD j [])) (lp : L.flatten.length ≤ 4611686018427387903) (lL : L.length ≤ 1000) :
    Calls Tryz.prog 43 #[vk, vp] w fun e w' => e = .returned (.agg (u8s (digV ks L.flatten)).toArray) ∧ Below w.heap.size w w' := by
  obtain ⟨p, capp, rfl, hpl, hpc⟩ := hp.at'
  obtain ⟨aok, capk, rfl⟩ := rk.form
  obtain ⟨n, en⟩ : ∃ n, n = ks.length := ⟨_, rfl⟩
  obtain ⟨m, em⟩ : ∃ m, m = L.length := ⟨_, rfl⟩
  have HH : Hid _ := And.intro rk (And.intro bk (And.intro en (And.intro em (And.intro bp (And.intro lp (And.intro hpc hpl))))))
  rw [← en] at lk ⊢
  rw [← em] at lL ⊢
  clear rk bk en em hp bp lp hpc
  go_enter Tryz.func43, Tryz.ntmps43
  go_wp2_with fail
  go_at_call 67
  refine (inew _).mono ?_
  rintro e w1 ⟨rfl, b1⟩
  obtain ⟨g, eg⟩ : ∃ g, g = w1.heap.size := ⟨_, rfl⟩
  have hgl : w.heap.size < g := by have := b1.size; simp at this; omega
  have D0 : Hid (DP w (w1.alloc (.cells #[.int .u32 1779033703, .int .u32 3144134277, .int .u32 1013904242, .int .u32 2773480762] 105 (0, 0))) g dig0) := by
    have hb : Below (w.alloc (.cells (u8s (List.replicate 16 0)).toArray 76 (0, 0))).heap.size (w.alloc (.cells (u8s (List.replicate 16 0)).toArray 76 (0, 0))) w1 := b1
    refine ⟨by rw [eg]; exact (MapKept.heap_alloc w1 _).1, ?_, ?_, hgl⟩
    · rw [Below.heap_alloc w1 _ _ (by omega), hb.block _ (by simp)]
      exact (MapKept.heap_alloc w _).1
    · exact ((((Below.refl _ _).alloc (Nat.le_refl _) _).trans (hb.mono (by simp))).alloc (by omega) _)
  have EG : Hid _ := And.intro eg b1
  clear b1
  go_wp2_with fail
  go_at_call 68
  rw [← eg]
  refine (istirCount g dig0 dig0_ok n (by omega) _ D0.out.blk).mono ?_
  rintro e w2 ⟨⟨r2, rfl⟩, st⟩
  have k2 := stirL_ok dig0 (be (n : Int) 4) dig0_ok
  have H2 : Hid _ := And.intro (D0.out.step st) (And.intro k2 (show stirL dig0 (be (n : Int) 4) = stirL dig0 (be (ks.length : Int) 4) by rw [HH.out.2.2.1]))
  generalize stirL dig0 (be (n : Int) 4) = s2 at H2
  clear st k2 D0 EG eg
  go_wp2_with fail
  go_at_call 69
  refine (istirAll g s2 H2.out.2.1 _ ks w2 (by rw [HH.out.2.2.1]; exact HH.out.1.below H2.out.1.bel) HH.out.2.1 (by have := HH.out.2.2.1; omega) H2.out.1.blk).mono ?_
  rintro e w3 ⟨⟨r3, rfl⟩, st⟩
  have k3 := stirL_ok s2 ks H2.out.2.1
  have H3 : Hid _ := And.intro (H2.out.1.step st.toC) (And.intro k3 (show stirL s2 ks = stirL (stirL dig0 (be (ks.length : Int) 4)) ks by rw [H2.out.2.2]))
  generalize stirL s2 ks = s3 at H3
  clear st k3 H2
  go_wp2_with fail
  go_loopw [17, 6] (fun i c wr => ∃ k : Nat, k ≤ m ∧ i = .int .i64 (k : Int) ∧ c = .int .i64 (((L.take k).flatten.length : Nat) : Int) ∧ DP w wr g (stirL s3 (L.take k).flatten)) (fun i _ _ => m - (intOf i).toNat)
  case atStart => exact ⟨0, by omega, rfl, by simp, by simpa [stirL] using H3.out.1⟩
  case round =>
    obtain ⟨k, hk, rfl, rfl, st⟩ := hrel
    by_cases hlt : k < m
    · obtain ⟨v, hv, hr⟩ := HH.out.2.2.2.2.2.2.1 k (by have := HH.out.2.2.2.1; omega)
      have cv := (st.bel.cell (p := ⟨p, k, none⟩) hpl).trans hv
      have ft := flat_take L k (by have := HH.out.2.2.2.1; omega)
      have fl : (L.take (k + 1)).flatten.length = (L.take k).flatten.length + (L.getD k []).length := by rw [ft, List.length_append]
      have fb : (L.take (k + 1)).flatten.length ≤ L.flatten.length := by
        conv => rhs; rw [← List.take_append_drop (k + 1) L]
        rw [List.flatten_append, List.length_append]
        omega
      have lp := HH.out.2.2.2.2.2.1
      obtain ⟨av, cpv, rfl⟩ := hr.form
      have hlx : (L.getD k []).length ≤ 4611686018427387903 := by omega
      have es : stirL s3 (L.take (k + 1)).flatten = stirL (stirL s3 (L.take k).flatten) (L.getD k []) := by rw [ft, stirL_append]
      have H4 : Hid _ := And.intro (hr.below st.bel) (And.intro (HH.out.2.2.2.2.1 k) (And.intro st (And.intro (stirL_ok s3 (L.take k).flatten H3.out.2.1) (And.intro es fl))))
      have hsum : (L.take k).flatten.length + (L.getD k []).length ≤ 4611686018427387903 := by omega
      clear hv hr ft fl fb lp st es
      generalize L.getD k [] = xs at cv H4 hlx hsum
      obtain ⟨nx, enx⟩ : ∃ q, q = xs.length := ⟨_, rfl⟩
      obtain ⟨nt, ent⟩ : ∃ q, q = (L.take k).flatten.length := ⟨_, rfl⟩
      rw [← enx] at cv hlx hsum
      rw [← ent] at hsum ⊢
      have EN : Hid _ := And.intro enx ent
      clear enx ent
      go_wp2_with fail
      go_at_call 69
      refine (istirAll g _ H4.out.2.2.2.1 _ xs wr (by rw [EN.out.1]; exact H4.out.1) H4.out.2.1 (by rw [← EN.out.1]; exact hlx) H4.out.2.2.1.blk).mono ?_
      rintro e w4 ⟨⟨r4, rfl⟩, st4⟩
      have H5 : Hid _ := And.intro (H4.out.2.2.1.step st4.toC) True.intro
      clear st4 cv
      go_wp2
      go_roundw
      case rel =>
        refine ⟨k + 1, by omega, by go_num, ?_, ?_⟩
        · rw [H4.out.2.2.2.2.2, ← EN.out.1, ← EN.out.2]; simp
        · rw [H4.out.2.2.2.2.1]; exact H5.out.1
      case measure => simp [intOf]; omega
    · obtain rfl : k = m := by omega
      have el : L.take k = L := List.take_of_length_le (by have := HH.out.2.2.2.1; omega)
      rw [el] at st
      rw [el]
      have k4 := stirL_ok s3 L.flatten H3.out.2.1
      have H4 : Hid _ := And.intro st (And.intro k4 (show stirL s3 L.flatten = stirL (stirL (stirL dig0 (be (ks.length : Int) 4)) ks) L.flatten by rw [H3.out.2.2]))
      generalize stirL s3 L.flatten = s4 at H4
      clear st k4
      have lp := HH.out.2.2.2.2.2.1
      obtain ⟨nt, ent⟩ : ∃ q, q = L.flatten.length := ⟨_, rfl⟩
      rw [← ent] at lp ⊢
      have EN : Hid _ := And.intro ent True.intro
      clear ent
      go_wp2_with fail
      go_at_call 68
      refine (istirCount g s4 H4.out.2.1 nt lp _ H4.out.1.blk).mono ?_
      rintro e w5 ⟨⟨r5, rfl⟩, st5⟩
      have k5 := stirL_ok s4 (be (nt : Int) 4) H4.out.2.1
      have H5 : Hid _ := And.intro (H4.out.1.step st5) (And.intro k5 (show stirL s4 (be (nt : Int) 4) = stirL (stirL (stirL (stirL dig0 (be (ks.length : Int) 4)) ks) L.flatten) (be (L.flatten.length : Int) 4) by rw [H4.out.2.2, EN.out.1]))
      generalize stirL s4 (be (nt : Int) 4) = s5 at H5
      clear st5 k5 H4
      go_wp2_with fail
      go_loopw [30] (fun i wr => ∃ k : Nat, k ≤ 16 ∧ i = .int .i64 (k : Int) ∧ DP w wr g (stirL s5 (List.replicate k 165))) (fun i _ => 16 - (intOf i).toNat)
      case atStart => exact ⟨0, by omega, rfl, H5.out.1⟩
      case round =>
        obtain ⟨j, hj, rfl, st⟩ := hrel
        by_cases hlt2 : j < 16
        · have es : stirL s5 (List.replicate (j + 1) 165) = stir1 (stirL s5 (List.replicate j 165)) 165 := by rw [List.replicate_succ', stirL_append]; rfl
          have H6 : Hid _ := And.intro st (And.intro (stirL_ok s5 (List.replicate j 165) H5.out.2.1) es)
          clear st es
          go_wp2_with fail
          go_at_call 70
          refine (istir g _ H6.out.2.1 165 (by decide) (by decide) wr H6.out.1.blk).mono ?_
          rintro e w6 ⟨⟨r6, rfl⟩, st6⟩
          have H7 : Hid _ := And.intro (H6.out.1.step st6.toC) True.intro
          clear st6
          go_wp2
          go_roundw
          case rel => exact ⟨j + 1, by omega, by go_num, by rw [H6.out.2.2]; exact H7.out.1⟩
          case measure => simp [intOf]; omega
        · obtain rfl : j = 16 := by omega
          have k6 := stirL_ok s5 (List.replicate 16 165) H5.out.2.1
          have H6 : Hid _ := And.intro st (And.intro k6 (show stirL s5 (List.replicate 16 165) = digS ks L.flatten by rw [H5.out.2.2]; rfl))
          generalize stirL s5 (List.replicate 16 165) = s6 at H6
          clear st k6
          go_wp2_with fail
          go_at_call 71
          refine (iblock g s6 H6.out.2.1 wr H6.out.1.blk).mono ?_
          rintro e w7 ⟨rfl, b7⟩
          have hrz : w.heap.size < wr.heap.size := (Array.getElem?_eq_some_iff.1 H6.out.1.res).1
          have H7 : Hid _ := And.intro ((b7.block _ hrz).trans H6.out.1.res) (H6.out.1.bel.trans (b7.mono H6.out.1.bel.size))
          clear b7 hrz
          go_wp2_with (refine wpList_store_at rfl 76 (.tmp 4) (.tmp 34) rfl w.heap.size _ rfl rfl 76 (u8s (List.replicate 16 0)).toArray H7.out.1 (infoBs _ (byts_length s6)) (by simp [u8s_length, byts_length]) (u8s_all _) ?_; intro w8 h8 n8)
          try simp only [Exit.inBlock, Exit.then]
          refine bodyPost_ret (v := .agg (u8s s6.byts).toArray) ?_ rfl ?_
          · exact results_cell_row (t := 76) rfl _ _ w.heap.size _ (fr := (0, 0)) _ rfl h8 Tryz.underlying76 rfl (infoBs _ (byts_length s6))
          · exact ⟨by rw [H6.out.2.2, byts_digV], H7.out.2.trans (n8.below (Nat.le_refl _))⟩
end Go.Proofs.YtoalillggafnpaaGreatDoor

namespace Go.Proofs.YtoalillggafnpaaGreatDoor
open Go.RowKit
set_option linter.unusedVariables false

def digestV (ks ds : List Int) : List Int := if ks.length ≤ 65536 ∧ ds.length ≤ 65536 then digV ks ds else []
theorem digestV_length (ks ds : List Int) : (digestV ks ds).length ≤ 16 := by
  unfold digestV
  split
  · rw [digV_length]; decide
  · decide

theorem owns_empty (w : World) (e : TypeId) : (w.alloc (.cells #[] e)).ownsRow w.heap.size e 1 (.slice (some ⟨w.heap.size, 0, none⟩) 0 0) 0 [] :=
  ⟨rfl, Or.inr ⟨w.heap.size, 0, #[], rfl, Nat.le_refl _, (MapKept.heap_alloc w _).1, Nat.le_refl _, Nat.zero_le _, rfl, rfl⟩⟩
end Go.Proofs.YtoalillggafnpaaGreatDoor

namespace Go.Proofs.YtoalillggafnpaaGreatDoor
open Go.RowKit
set_option linter.unusedVariables false

theorem parts_at {w : World} {p n cap : Nat} {vs : List Value} {L : List (List Int)} {t : TypeId} (hp : w.heap[p]? = some (.cells vs.toArray t (0, 0))) (hn : n = L.length) (hr : ∀ j, j < L.length → ∃ v, vs[j]? = some v ∧ Row w .u8 v (L.getD j [])) :
    Parts w (.slice (some ⟨p, 0, none⟩) n cap) L := by
  subst hn
  refine ⟨p, cap, rfl, (Array.getElem?_eq_some_iff.1 hp).1, fun j hj => ?_⟩
  obtain ⟨v, h1, h2⟩ := hr j hj
  exact ⟨v, by rw [blkS_cell hp]; simpa using h1, h2⟩
theorem parts6 {w : World} {v1 v2 v3 v4 v5 v6 : Value} {x1 x2 x3 x4 x5 x6 : List Int} (t : TypeId) (h1 : Row w .u8 v1 x1) (h2 : Row w .u8 v2 x2) (h3 : Row w .u8 v3 x3) (h4 : Row w .u8 v4 x4) (h5 : Row w .u8 v5 x5) (h6 : Row w .u8 v6 x6) :
    Parts (w.alloc (.cells #[v1, v2, v3, v4, v5, v6] t)) (.slice (some ⟨w.heap.size, 0, none⟩) 6 6) [x1, x2, x3, x4, x5, x6] := by
  have hb := (Below.refl w.heap.size w).alloc (Nat.le_refl _) (.cells #[v1, v2, v3, v4, v5, v6] t)
  refine parts_at (vs := [v1, v2, v3, v4, v5, v6]) (MapKept.heap_alloc w _).1 rfl (fun j hj => ?_)
  rcases (show j = 0 ∨ j = 1 ∨ j = 2 ∨ j = 3 ∨ j = 4 ∨ j = 5 by simp at hj; omega) with rfl | rfl | rfl | rfl | rfl | rfl
  · exact ⟨v1, rfl, h1.below hb⟩
  · exact ⟨v2, rfl, h2.below hb⟩
  · exact ⟨v3, rfl, h3.below hb⟩
  · exact ⟨v4, rfl, h4.below hb⟩
  · exact ⟨v5, rfl, h5.below hb⟩
  · exact ⟨v6, rfl, h6.below hb⟩
theorem below_new (w : World) (o : Obj) : Below w.heap.size w (w.alloc o) := (Below.refl _ _).alloc (Nat.le_refl _) _
set_option maxRecDepth 20000 in
set_option maxHeartbeats 2000000 in
/-- What all long packets begin with. -/
theorem ilong (f v : Int) (ad asv : Option Addr) (n m pd ps : Nat) (d s : List Int) (w : World) (h0 : 0 ≤ v) (h1 : v ≤ 9223372036854775807) (rd : Row w .u8 (.slice ad n pd) d) (rs : Row w .u8 (.slice asv m ps) s) (ed : d.length = n) (es : s.length = m) (hn : n ≤ 8) (hm : m ≤ 8) :
    Calls Tryz.prog 30 #[.int .u8 f, .int .i64 v, .slice ad n pd, .slice asv m ps] w fun e w' => ∃ r, e = .returned r ∧ w'.ownsRow w.heap.size 5 1 r (f :: idsV v d s).length ((f :: idsV v d s).map (Value.int .u8)) ∧ Below w.heap.size w w' := by
  have HH : Hid _ := And.intro rd (And.intro rs (And.intro ed es))
  have e1 := wrap8 n hn
  have e2 := wrap8 m hm
  have hv : IntKind.u64.wrap v = v := by rw [IntKind.wrap_u64]; omega
  clear rd rs ed es
  go_enter Tryz.func30, Tryz.ntmps30
  go_wp2_with fail
  go_at_call 41
  refine (high v 4 _ h0 h1 (by decide)).mono ?_
  rintro e w1 ⟨r1, rfl, o1, b1⟩
  obtain ⟨g1, p1, rfl, _, _⟩ := owns_shape o1 (by decide)
  have hb1 := (below_new w (.cells #[.int .u8 f] 5)).trans (b1.mono (by simp))
  have H1 : Hid _ := And.intro o1 (And.intro hb1 (And.intro b1 ((one_row w f).below b1)))
  clear o1 b1 hb1
  go_wp2_with fail
  go_at_call 46
  have a2 := below_new w1 (.cells #[.int .u8 (n : Int)] 5)
  have a3 := below_new (w1.alloc (.cells #[.int .u8 (n : Int)] 5)) (.cells #[.int .u8 (m : Int)] 5)
  have a23 := a2.trans (a3.mono a2.size)
  have H3 : Hid _ := And.intro a23 (H1.out.2.1.trans (a23.mono H1.out.2.1.size))
  have es1 : (w1.alloc (.cells #[.int .u8 (n : Int)] 5)).heap.size = w1.heap.size + 1 := by simp
  have es2 : ((w1.alloc (.cells #[.int .u8 (n : Int)] 5)).alloc (.cells #[.int .u8 (m : Int)] 5)).heap.size = w1.heap.size + 1 + 1 := by simp
  have r5 := one_row (w1.alloc (.cells #[.int .u8 (n : Int)] 5)) (m : Int)
  rw [es1] at r5
  have HP := parts6 22 (H1.out.2.2.2.below a23) ((row_of_owns H1.out.1).below a23) ((one_row w1 _).below a3) (HH.out.1.below H3.out.2) r5 (HH.out.2.1.below H3.out.2)
  rw [es2] at HP
  have HL : ([[f], be v 4, [(n : Int)], d, [(m : Int)], s] : List (List Int)).flatten.length ≤ 1099511627776 := by have := HH.out.2.2.1; have := HH.out.2.2.2; simp [be_length]; omega
  refine (iconcat _ _ _ HP (by simp) HL).mono ?_
  rintro e w4 ⟨r4, rfl, o4, b4⟩
  have e : ([[f], be v 4, [(n : Int)], d, [(m : Int)], s] : List (List Int)).flatten = f :: idsV v d s := by simp [idsV, HH.out.2.2.1, HH.out.2.2.2]
  rw [e] at o4
  have z := H3.out.2.size
  have H4 : Hid _ := And.intro (owns_mono o4 (base' := w.heap.size) (by simp at z ⊢; omega)) ((H3.out.2.alloc H3.out.2.size _).trans (b4.mono (by simp at z ⊢; omega)))
  clear o4 b4 a2 a3 a23 e z es1 es2 r5 HP HL
  go_wp2
  go_ret
  exact ⟨_, rfl, H4.out.1, H4.out.2⟩
end Go.Proofs.YtoalillggafnpaaGreatDoor

namespace Go.Proofs.YtoalillggafnpaaGreatDoor
open Go.RowKit
set_option linter.unusedVariables false

theorem infoR8 : (Tryz.prog.info? 58).map (·.size) = some 8 := by kernel_rfl
theorem infoR8s (xs : List Int) (h : xs.length = 8) : (Tryz.prog.info? 58).map (·.size) = some (u8s xs).toArray.size := by rw [infoR8]; simp [u8s_length, h]
abbrev Z8r : Obj := .cells #[.int .u8 0, .int .u8 0, .int .u8 0, .int .u8 0, .int .u8 0, .int .u8 0, .int .u8 0, .int .u8 0] 58 (0, 0)
abbrev KeyF : Obj := .cells #[.int .u8 114, .int .u8 101, .int .u8 116, .int .u8 114, .int .u8 121] 5 (5, 6)
theorem parts3 {w : World} {v1 v2 v3 : Value} {x1 x2 x3 : List Int} (t : TypeId) (h1 : Row w .u8 v1 x1) (h2 : Row w .u8 v2 x2) (h3 : Row w .u8 v3 x3) :
    Parts (w.alloc (.cells #[v1, v2, v3] t)) (.slice (some ⟨w.heap.size, 0, none⟩) 3 3) [x1, x2, x3] := by
  have hb := (Below.refl w.heap.size w).alloc (Nat.le_refl _) (.cells #[v1, v2, v3] t)
  refine parts_at (vs := [v1, v2, v3]) (MapKept.heap_alloc w _).1 rfl (fun j hj => ?_)
  rcases (show j = 0 ∨ j = 1 ∨ j = 2 by simp at hj; omega) with rfl | rfl | rfl
  · exact ⟨v1, rfl, h1.below hb⟩
  · exact ⟨v2, rfl, h2.below hb⟩
  · exact ⟨v3, rfl, h3.below hb⟩
theorem bytes_getD3 {x1 x2 x3 : List Int} (h1 : Bytes x1) (h2 : Bytes x2) (h3 : Bytes x3) (j : Nat) : Bytes ([x1, x2, x3].getD j []) := by
  match j with
  | 0 => exact h1
  | 1 => exact h2
  | 2 => exact h3
  | n + 3 => intro x h; simp [List.getD] at h
theorem row_partr {w : World} {g t off n c : Nat} {fr : Nat × Nat} {xs : List Int} (h : w.heap[g]? = some (.cells (u8s xs).toArray t fr)) (hn : off + n ≤ xs.length) (hc : n ≤ c) (hm : c ≤ maxLen) : Row w .u8 (.slice (some ⟨g, off, none⟩) n c) ((xs.drop off).take n) := by
  have := row_cut (w := w) (k := .u8) (xs := xs) (b := g) (off := 0) (cap := 0) (at' := off) (n := n) (cap' := c) (Array.getElem?_eq_some_iff.1 h).1 (fun j hj => ?_) hn ⟨hc, hm⟩
  · rwa [Nat.zero_add] at this
  · rw [Nat.zero_add, blkS_cell h]
    simp [u8s, List.getD, hj]
set_option maxRecDepth 20000 in
set_option maxHeartbeats 4000000 in
theorem iretTag (ao ap : Option Addr) (n m po pp : Nat) (o p : List Int) (w : World) (ro : Row w .u8 (.slice ao n po) o) (rp : Row w .u8 (.slice ap m pp) p) (eo : o.length = n) (ep : p.length = m) (hn : n ≤ 8) (hm : m ≤ 4096) (bo : Bytes o) (bp : Bytes p) :
    Calls Tryz.prog 32 #[.slice ao n po, .slice ap m pp] w fun e w' => e = .returned (.agg (u8s (retV o p)).toArray) ∧ Below w.heap.size w w' := by
  have e1 := wrap8 n hn
  have B0 := (Below.refl w.heap.size w).alloc (Nat.le_refl _) Z8r
  have B1 := B0.alloc B0.size KeyF
  have B2 := B1.alloc B1.size (.cells #[.int .u8 (n : Int)] 5)
  have s0 : (w.alloc Z8r).heap.size = w.heap.size + 1 := by simp
  have s1 : ((w.alloc Z8r).alloc KeyF).heap.size = w.heap.size + 1 + 1 := by simp
  have s2 : (((w.alloc Z8r).alloc KeyF).alloc (.cells #[.int .u8 (n : Int)] 5)).heap.size = w.heap.size + 1 + 1 + 1 := by simp
  have kc : (convert 22 22 (.slice (some ⟨w.heap.size + 1, 0, none⟩) 5 5)).run Tryz.prog ((w.alloc Z8r).alloc (.cells #[.int .u8 114, .int .u8 101, .int .u8 116, .int .u8 114, .int .u8 121] 5)) = .ok (.slice (some ⟨w.heap.size + 1, 0, none⟩) 5 5) ((w.alloc Z8r).alloc KeyF) := by
    have h := kconst (w.alloc Z8r) #[.int .u8 114, .int .u8 101, .int .u8 116, .int .u8 114, .int .u8 121] 5 5
    rw [s0] at h
    exact h
  have r1 := one_row ((w.alloc Z8r).alloc KeyF) (n : Int)
  rw [s1] at r1
  have HP := parts3 22 r1 (ro.below B2) (rp.below B2)
  rw [s2] at HP
  have B3 := B2.alloc B2.size (.cells #[.slice (some ⟨w.heap.size + 1 + 1, 0, none⟩) 1 1, .slice ao n po, .slice ap m pp] 22)
  have hk : ((((w.alloc Z8r).alloc KeyF).alloc (.cells #[.int .u8 (n : Int)] 5)).alloc (.cells #[.slice (some ⟨w.heap.size + 1 + 1, 0, none⟩) 1 1, .slice ao n po, .slice ap m pp] 22)).heap[w.heap.size + 1]? = some KeyF := by
    rw [Below.heap_alloc _ _ _ (by rw [s2]; omega), Below.heap_alloc _ _ _ (by rw [s1]; omega), ← s0]
    exact (MapKept.heap_alloc _ _).1
  have hz : ((((w.alloc Z8r).alloc KeyF).alloc (.cells #[.int .u8 (n : Int)] 5)).alloc (.cells #[.slice (some ⟨w.heap.size + 1 + 1, 0, none⟩) 1 1, .slice ao n po, .slice ap m pp] 22)).heap[w.heap.size]? = some Z8r := by
    rw [Below.heap_alloc _ _ _ (by rw [s2]; omega), Below.heap_alloc _ _ _ (by rw [s1]; omega), Below.heap_alloc _ _ _ (by rw [s0]; omega)]
    exact (MapKept.heap_alloc _ _).1
  have ef : ([[(n : Int)], o, p] : List (List Int)).flatten = ((o.length : Int) :: o) ++ p := by rw [eo]; simp
  have CP := iparts _ _ retryK _ _ (key_row hk) retryK_bytes (by decide) HP (bytes_getD3 (bytes_cons (by omega) (by omega) (by intro x hx; simp at hx)) bo bp) (by simp; omega) (by simp)
  rw [ef] at CP
  have hdl := digV_length retryK (((o.length : Int) :: o) ++ p)
  have hz3 : w.heap.size < ((((w.alloc Z8r).alloc KeyF).alloc (.cells #[.int .u8 (n : Int)] 5)).alloc (.cells #[.slice (some ⟨w.heap.size + 1 + 1, 0, none⟩) 1 1, .slice ao n po, .slice ap m pp] 22)).heap.size := (Array.getElem?_eq_some_iff.1 hz).1
  have HH : Hid _ := And.intro CP (And.intro B3 (And.intro hz (And.intro hz3 hdl)))
  clear CP B0 B1 B2 s0 s1 s2 r1 HP B3 hk hz ro rp eo ep bo bp ef hdl hz3
  go_enter Tryz.func32, Tryz.ntmps32
  go_wp2_with fail
  go_at_call 43
  refine HH.out.1.mono ?_
  rintro e w1 ⟨rfl, b1⟩
  have H1 : Hid _ := And.intro (HH.out.2.1.trans (b1.mono HH.out.2.1.size)) ((b1.block w.heap.size HH.out.2.2.2.1).trans HH.out.2.2.1)
  have z1 : w.heap.size < w1.heap.size := (Array.getElem?_eq_some_iff.1 H1.out.2).1
  clear b1
  obtain ⟨D, eD⟩ : ∃ D, D = digV retryK (((o.length : Int) :: o) ++ p) := ⟨_, rfl⟩
  have HD : Hid (D.length = 16 ∧ retV o p = D.take 8) := And.intro (by rw [eD]; exact HH.out.2.2.2.2) (by rw [eD]; rfl)
  rw [← eD]
  clear eD
  go_wp2_with (refine wpList_store_at rfl 76 (.tmp 5) (.tmp 16) rfl w1.heap.size _ rfl rfl 76 _ (MapKept.heap_alloc w1 _).1 (infoBs _ HD.out.1) (by simp [u8s_length, HD.out.1]) (u8s_all _) ?_; intro w2 h2 m2)
  have C2 : Below w.heap.size w w2 := (H1.out.1.alloc H1.out.1.size _).trans (m2.below H1.out.1.size)
  have z2 : w1.heap.size < w2.heap.size := (Array.getElem?_eq_some_iff.1 h2).1
  have k2 : w2.heap[w.heap.size]? = some Z8r := (m2.block w.heap.size (fun e => by have := Option.some.inj e; omega)).trans ((Below.heap_alloc _ _ _ z1).trans H1.out.2)
  have R2 : Hid (Row (w2.alloc Z8r).drew .u8 (.slice (some ⟨w1.heap.size, 0, none⟩) 16 16) D) := by
    show Row _ _ _ _
    have h := row_partr (w := (w2.alloc Z8r).drew) (off := 0) (n := 16) (c := 16) ((Below.heap_alloc w2 Z8r _ z2).trans h2) (by rw [HD.out.1]; decide) (by decide) (by decide)
    rwa [List.drop_zero, List.take_of_length_le (by rw [HD.out.1]; decide)] at h
  have G2 : Hid ((w2.alloc Z8r).drew.heap[w2.heap.size]? = some (.cells (u8s (List.replicate 8 0)).toArray 58 (0, 0))) := (MapKept.heap_alloc w2 Z8r).1
  have H2 : Hid _ := And.intro (C2.alloc C2.size Z8r) ((Below.heap_alloc w2 Z8r _ (Nat.lt_trans z1 z2)).trans k2)
  have z2w : w.heap.size ≤ w2.heap.size := C2.size
  clear h2 m2 C2 k2
  go_region_law (refine step_copy_at rfl (.tmp 17) (.tmp 18) 22 22 rfl 5 Tryz.underlying22 infoU8s w2.heap.size 0 8 8 _ rfl rfl D R2.out (by rw [HD.out.1]; decide) (List.replicate 8 0) 58 G2.out 8 (by rw [HD.out.1]; rfl) (by simp) ?_; intro w3 h3 m3)
  all_goals
    have e3 : splice (List.replicate 8 (0 : Int)) 0 (D.take 8) = retV o p := by
      rw [HD.out.2]
      simp [splice, HD.out.1]
    rw [e3] at h3
    have C3 : Below w.heap.size w w3 := (below_drewN H2.out.1 1).trans (m3.below z2w)
    have k3 : w3.heap[w.heap.size]? = some Z8r := (m3.block w.heap.size (fun e => by have := Option.some.inj e; omega)).trans H2.out.2
    have H3 : Hid _ := And.intro C3 (And.intro h3 k3)
    clear e3 h3 m3 C3 k3
    go_wp2_with (first
      | (refine wpList_load_row rfl 58 (.tmp 6) rfl w2.heap.size rfl 58 _ (0, 0) _ H3.out.2.1 Tryz.underlying58 rfl (infoR8s _ (retV_length _ _)) ?_)
      | (refine wpList_store_at rfl 58 (.tmp 4) (.tmp 20) rfl w.heap.size _ rfl rfl 58 _ H3.out.2.2 (infoR8s _ (retV_length _ _)) (by simp [u8s_length, retV_length]) (u8s_all _) ?_; intro w4 h4 m4))
    try simp only [Exit.inBlock, Exit.then]
    refine bodyPost_ret (v := .agg (u8s (retV o p)).toArray) ?_ rfl ?_
    · exact results_cell_row (t := 58) rfl _ _ w.heap.size _ (fr := (0, 0)) _ rfl h4 Tryz.underlying58 rfl (infoR8s _ (retV_length _ _))
    · exact ⟨rfl, H3.out.1.trans (m4.below (Nat.le_refl _))⟩
end Go.Proofs.YtoalillggafnpaaGreatDoor

namespace Go.Proofs.YtoalillggafnpaaGreatDoor
open Go.RowKit
set_option linter.unusedVariables false
set_option linter.unusedSimpArgs false

theorem eqEl (x y : Int) (d : Nat) (w : World) : (Op.equalIn (d + 1) 5 (.int .u8 x) (.int .u8 y)).run Tryz.prog w = .ok (x == y) w := run_equalIn_int (w := w) d 5 .u8 .u8 x y Tryz.underlying5
theorem eq8 (x0 x1 x2 x3 x4 x5 x6 x7 y0 y1 y2 y3 y4 y5 y6 y7 : Int) (d : Nat) (w : World) :
    (Op.equalIn (d + 1 + 1) 58 (.agg #[.int .u8 x0, .int .u8 x1, .int .u8 x2, .int .u8 x3, .int .u8 x4, .int .u8 x5, .int .u8 x6, .int .u8 x7]) (.agg #[.int .u8 y0, .int .u8 y1, .int .u8 y2, .int .u8 y3, .int .u8 y4, .int .u8 y5, .int .u8 y6, .int .u8 y7])).run Tryz.prog w = .ok (decide ([x0, x1, x2, x3, x4, x5, x6, x7] = [y0, y1, y2, y3, y4, y5, y6, y7])) w := by
  obtain ⟨i0, hi, hz0, hz1, hz2⟩ := info_parts infoU8
  have hs : ∀ w, (sizeOf 5).run Tryz.prog w = .ok 1 w := by
    intro w
    simp [sizeOf, typeInfo, hi, hz1]
  have hp : ∀ (a : Array Value) (i : Nat) (v : Value) (w : World), a[i]? = some v → (part 5 a i).run Tryz.prog w = .ok v w := by
    intro a i v w h
    simp [part, h]
  have px0 : ∀ w, (part 5 #[.int .u8 x0, .int .u8 x1, .int .u8 x2, .int .u8 x3, .int .u8 x4, .int .u8 x5, .int .u8 x6, .int .u8 x7] 0).run Tryz.prog w = .ok (.int .u8 x0) w := fun w => hp _ _ _ w rfl
  have py0 : ∀ w, (part 5 #[.int .u8 y0, .int .u8 y1, .int .u8 y2, .int .u8 y3, .int .u8 y4, .int .u8 y5, .int .u8 y6, .int .u8 y7] 0).run Tryz.prog w = .ok (.int .u8 y0) w := fun w => hp _ _ _ w rfl
  have px1 : ∀ w, (part 5 #[.int .u8 x0, .int .u8 x1, .int .u8 x2, .int .u8 x3, .int .u8 x4, .int .u8 x5, .int .u8 x6, .int .u8 x7] 1).run Tryz.prog w = .ok (.int .u8 x1) w := fun w => hp _ _ _ w rfl
  have py1 : ∀ w, (part 5 #[.int .u8 y0, .int .u8 y1, .int .u8 y2, .int .u8 y3, .int .u8 y4, .int .u8 y5, .int .u8 y6, .int .u8 y7] 1).run Tryz.prog w = .ok (.int .u8 y1) w := fun w => hp _ _ _ w rfl
  have px2 : ∀ w, (part 5 #[.int .u8 x0, .int .u8 x1, .int .u8 x2, .int .u8 x3, .int .u8 x4, .int .u8 x5, .int .u8 x6, .int .u8 x7] 2).run Tryz.prog w = .ok (.int .u8 x2) w := fun w => hp _ _ _ w rfl
  have py2 : ∀ w, (part 5 #[.int .u8 y0, .int .u8 y1, .int .u8 y2, .int .u8 y3, .int .u8 y4, .int .u8 y5, .int .u8 y6, .int .u8 y7] 2).run Tryz.prog w = .ok (.int .u8 y2) w := fun w => hp _ _ _ w rfl
  have px3 : ∀ w, (part 5 #[.int .u8 x0, .int .u8 x1, .int .u8 x2, .int .u8 x3, .int .u8 x4, .int .u8 x5, .int .u8 x6, .int .u8 x7] 3).run Tryz.prog w = .ok (.int .u8 x3) w := fun w => hp _ _ _ w rfl
  have py3 : ∀ w, (part 5 #[.int .u8 y0, .int .u8 y1, .int .u8 y2, .int .u8 y3, .int .u8 y4, .int .u8 y5, .int .u8 y6, .int .u8 y7] 3).run Tryz.prog w = .ok (.int .u8 y3) w := fun w => hp _ _ _ w rfl
  have px4 : ∀ w, (part 5 #[.int .u8 x0, .int .u8 x1, .int .u8 x2, .int .u8 x3, .int .u8 x4, .int .u8 x5, .int .u8 x6, .int .u8 x7] 4).run Tryz.prog w = .ok (.int .u8 x4) w := fun w => hp _ _ _ w rfl
  have py4 : ∀ w, (part 5 #[.int .u8 y0, .int .u8 y1, .int .u8 y2, .int .u8 y3, .int .u8 y4, .int .u8 y5, .int .u8 y6, .int .u8 y7] 4).run Tryz.prog w = .ok (.int .u8 y4) w := fun w => hp _ _ _ w rfl
  have px5 : ∀ w, (part 5 #[.int .u8 x0, .int .u8 x1, .int .u8 x2, .int .u8 x3, .int .u8 x4, .int .u8 x5, .int .u8 x6, .int .u8 x7] 5).run Tryz.prog w = .ok (.int .u8 x5) w := fun w => hp _ _ _ w rfl
  have py5 : ∀ w, (part 5 #[.int .u8 y0, .int .u8 y1, .int .u8 y2, .int .u8 y3, .int .u8 y4, .int .u8 y5, .int .u8 y6, .int .u8 y7] 5).run Tryz.prog w = .ok (.int .u8 y5) w := fun w => hp _ _ _ w rfl
  have px6 : ∀ w, (part 5 #[.int .u8 x0, .int .u8 x1, .int .u8 x2, .int .u8 x3, .int .u8 x4, .int .u8 x5, .int .u8 x6, .int .u8 x7] 6).run Tryz.prog w = .ok (.int .u8 x6) w := fun w => hp _ _ _ w rfl
  have py6 : ∀ w, (part 5 #[.int .u8 y0, .int .u8 y1, .int .u8 y2, .int .u8 y3, .int .u8 y4, .int .u8 y5, .int .u8 y6, .int .u8 y7] 6).run Tryz.prog w = .ok (.int .u8 y6) w := fun w => hp _ _ _ w rfl
  have px7 : ∀ w, (part 5 #[.int .u8 x0, .int .u8 x1, .int .u8 x2, .int .u8 x3, .int .u8 x4, .int .u8 x5, .int .u8 x6, .int .u8 x7] 7).run Tryz.prog w = .ok (.int .u8 x7) w := fun w => hp _ _ _ w rfl
  have py7 : ∀ w, (part 5 #[.int .u8 y0, .int .u8 y1, .int .u8 y2, .int .u8 y3, .int .u8 y4, .int .u8 y5, .int .u8 y6, .int .u8 y7] 7).run Tryz.prog w = .ok (.int .u8 y7) w := fun w => hp _ _ _ w rfl
  rw [Op.equalIn]
  simp only [Sem.run_bind, run_underlying Tryz.underlying58, Result.andThen_ok, hs, Nat.mul_one]
  rw [Std.Legacy.Range.forIn_eq_forIn_range']
  simp only [Std.Legacy.Range.size, List.range'_succ, List.range'_zero, List.forIn_cons, List.forIn_nil]
  by_cases h0 : x0 = y0
  · subst h0
    by_cases h1 : x1 = y1
    · subst h1
      by_cases h2 : x2 = y2
      · subst h2
        by_cases h3 : x3 = y3
        · subst h3
          by_cases h4 : x4 = y4
          · subst h4
            by_cases h5 : x5 = y5
            · subst h5
              by_cases h6 : x6 = y6
              · subst h6
                by_cases h7 : x7 = y7
                · subst h7
                  simp [Sem.run_bind, px0, px1, px2, px3, px4, px5, px6, px7, eqEl]
                · simp [Sem.run_bind, px0, py0, px1, py1, px2, py2, px3, py3, px4, py4, px5, py5, px6, py6, px7, py7, eqEl, h7]
              · simp [Sem.run_bind, px0, py0, px1, py1, px2, py2, px3, py3, px4, py4, px5, py5, px6, py6, eqEl, h6]
            · simp [Sem.run_bind, px0, py0, px1, py1, px2, py2, px3, py3, px4, py4, px5, py5, eqEl, h5]
          · simp [Sem.run_bind, px0, py0, px1, py1, px2, py2, px3, py3, px4, py4, eqEl, h4]
        · simp [Sem.run_bind, px0, py0, px1, py1, px2, py2, px3, py3, eqEl, h3]
      · simp [Sem.run_bind, px0, py0, px1, py1, px2, py2, eqEl, h2]
    · simp [Sem.run_bind, px0, py0, px1, py1, eqEl, h1]
  · simp [Sem.run_bind, px0, py0, eqEl, h0]
end Go.Proofs.YtoalillggafnpaaGreatDoor
