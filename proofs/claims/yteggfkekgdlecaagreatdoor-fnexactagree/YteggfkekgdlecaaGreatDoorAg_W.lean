import Derived.Test.YteggfkekgdlecaaGreatDoorBook
import Derived.Test.YteggfkekgdlecaaGreatDoorAg_S
import Derived.Laws.CopyOwn
import Derived.Deep.RegionWith
import Derived.Deep.RegionLaw
import Derived.Deep.CutRange
import Derived.Test.YteggfkekgdlecaaGreatDoorAg_P
import Derived.Test.YteggfkekgdlecaaGreatDoorBlocks
import Derived.Test.YteggfkekgdlecaaGreatDoorMem
import Derived.Lib.BufferWrite
import Derived.Lib.UnsafeStr
import Derived.Laws.MakeOwn
namespace Go.Proofs.YteggfkekgdlecaaGreatDoor
open Go.RowKit
set_option linter.unusedVariables false

theorem only_setRow (w : World) (g : Nat) (cs : Array Value) : Only (some g) w (w.setRow g cs) :=
  ⟨rfl, rfl, rfl, by simp [World.setRow], fun k hk => setRow_other w g k cs (fun e => hk (by rw [e]))⟩
theorem Only.drew {g : Option Nat} {w w' : World} (h : Only g w w') : Only g w w'.drew := ⟨h.1, h.2, h.3, h.4, h.5⟩
theorem Only.below {g : Nat} {w w' : World} (h : Only (some g) w w') {B : Nat} (hB : B ≤ g) : Below B w w' :=
  ⟨h.os, h.tape, h.output, Nat.le_of_eq h.size.symm, fun k hk => h.block k (fun e => by cases e; omega)⟩
theorem cell_of_heap {w w' : World} {b : Nat} (h : w'.heap[b]? = w.heap[b]?) (o : Nat) : w'.cell? ⟨b, o, none⟩ = w.cell? ⟨b, o, none⟩ := by
  simp [World.cell?, h]
/-- What was read is read where its block has not turned. -/
theorem Row.only {w w' : World} {g : Nat} {v : Value} {xs : List Int} (h : Row w .u8 v xs) (ho : Only (some g) w w') (hg : v.ownBlock ≠ some g) : Row w' .u8 v xs := by
  rcases h with h | ⟨b, off, cap, rfl, hb, hcap, hc⟩
  · exact Or.inl h
  · exact Or.inr ⟨b, off, cap, rfl, by rw [ho.size]; exact hb, hcap, fun j hj => (cell_of_heap (ho.block b (fun e => hg (by cases e; rfl))) _).trans (hc j hj)⟩
/-- The cells of a reading, as a copy's source. -/
theorem row_src {w : World} {v : Value} {xs : List Int} (h : Row w .u8 v xs) (h0 : 0 < xs.length) (m : Nat) (hm : m ≤ xs.length) :
    ∃ ad cap, v = .slice (some ad) xs.length cap ∧ ∀ j u, ((xs.take m).map (Value.int .u8))[j]? = some u → w.cell? (ad.add j) = some u := by
  obtain ⟨b, off, cap, rfl, hb, hc⟩ := h.at h0
  refine ⟨_, _, rfl, fun j u hu => ?_⟩
  have hadd : (⟨b, off, none⟩ : Addr).add j = ⟨b, off + j, none⟩ := by unfold Addr.add; split <;> simp_all
  rw [hadd]
  have hj : j < m := by
    have := List.getElem?_eq_some_iff.1 hu
    obtain ⟨h1, _⟩ := this
    simp at h1
    omega
  rw [hc j (by omega)]
  rw [← hu]
  simp [List.getD, hj, show j < xs.length by omega]

def u8s (xs : List Int) : List Value := xs.map (Value.int .u8)
theorem u8s_length (xs : List Int) : (u8s xs).length = xs.length := by simp [u8s]
theorem u8s_one (xs : List Int) : ∀ v ∈ u8s xs, v.oneCell' = true := by
  intro v hv
  obtain ⟨x, _, rfl⟩ := List.mem_map.1 hv
  rfl
theorem splice_u8s (xs ys : List Int) (off : Nat) : splice (u8s xs) off (u8s ys) = u8s (splice xs off ys) := by
  simp [splice, u8s]

theorem wpList_copy_at {P : Program} {w : World} {ops : Array Oper} {rest : List Oper} {o : Oper} {a : Act} {Q : Exit → Act → World → Prop} (hgd : o.guard = none) (d s : Operand) (dT sT : TypeId)
    (ho : o.op = .call { callee := .builtin .copy, args := #[d, s], argTypes := #[dT, sT] }) (elem : TypeId) (hu : P.underlying dT = some (.slice elem)) (hsz : (P.info? elem).map (·.size) = some 1)
    (g off dLen dCap : Nat) (vs : Value) (hd : a.eval d = .slice (some ⟨g, off, none⟩) dLen dCap) (hs : a.eval s = vs) (xs : List Int) (hrow : Row w .u8 vs xs) (h0 : 0 < xs.length)
    (cur : List Int) (t : TypeId) (hg : w.heap[g]? = some (.cells (u8s cur).toArray t (0, 0))) (m : Nat) (hm : m = Nat.min xs.length dLen) (hfit : off + m ≤ cur.length)
    (h : ∀ w', w'.heap[g]? = some (.cells (u8s (splice cur off (xs.take m))).toArray t (0, 0)) → Only (some g) w w' → wpList P ops Q rest (a.put o.dst (goInt m)) w') :
    wpList P ops Q (o :: rest) a w := by
  have hml : m ≤ xs.length := by rw [hm]; exact Nat.min_le_left _ _
  obtain ⟨ad, cap, rfl, hsrc⟩ := row_src hrow h0 m hml
  have hl : (u8s (xs.take m)).length = m := by rw [u8s_length, List.length_take]; omega
  refine wpList_copy_own hgd d s dT sT ho elem hu hsz g off dLen dCap ad xs.length cap hd hs (u8s cur).toArray t hg (u8s (xs.take m)) (by rw [hl, hm]) hsrc (by rw [hl]; simpa [u8s_length] using hfit) (u8s_one _) ?_
  rw [hl]
  refine h _ ?_ (only_setRow _ _ _)
  rw [setRow_heap w g _ _ t _ hg, ← splice_u8s]
  simp [splice, hl]

theorem step_copy_at {P : Program} {ops : Array Oper} {o : Oper} {a : Act} {w : World} {K : Act → World → Prop} {Q : Exit → Act → World → Prop} {E : Prop} (hgd : o.guard = none) (d s : Operand) (dT sT : TypeId)
    (ho : o.op = .call { callee := .builtin .copy, args := #[d, s], argTypes := #[dT, sT] }) (elem : TypeId) (hu : P.underlying dT = some (.slice elem)) (hsz : (P.info? elem).map (·.size) = some 1)
    (g off dLen dCap : Nat) (vs : Value) (hd : a.eval d = .slice (some ⟨g, off, none⟩) dLen dCap) (hs : a.eval s = vs) (xs : List Int) (hrow : Row w .u8 vs xs) (h0 : 0 < xs.length)
    (cur : List Int) (t : TypeId) (hg : w.heap[g]? = some (.cells (u8s cur).toArray t (0, 0))) (m : Nat) (hm : m = Nat.min xs.length dLen) (hfit : off + m ≤ cur.length)
    (h : ∀ w', w'.heap[g]? = some (.cells (u8s (splice cur off (xs.take m))).toArray t (0, 0)) → Only (some g) w w' → K (a.put o.dst (goInt m)) w') :
    if Region.wanted o (yielded ops a.tmps) = true then Oper.wp P o a w K Q else E := by
  have hw : Region.wanted o (yielded ops a.tmps) = true := by simp [Region.wanted, hgd]
  rw [if_pos hw]
  have hml : m ≤ xs.length := by rw [hm]; exact Nat.min_le_left _ _
  obtain ⟨ad, cap, rfl, hsrc⟩ := row_src hrow h0 m hml
  have hl : (u8s (xs.take m)).length = m := by rw [u8s_length, List.length_take]; omega
  have hrun := run_copy_row (P := P) w dT sT o.type elem g off dLen dCap ad xs.length cap (u8s cur).toArray t (u8s (xs.take m)) hu hsz hg (by rw [hl, hm]) hsrc (by rw [hl]; simpa [u8s_length] using hfit) (u8s_one _)
  unfold Oper.wp
  simp [execOp, ho, resolve, invoke, builtin, hd, hs, hrun, Result.andThen]
  have := h _ (by rw [setRow_heap w g _ _ t _ hg]) (only_setRow w g (u8s (splice cur off (xs.take m))).toArray)
  rw [← splice_u8s] at this
  have this' : K (a.put o.dst (goInt m)) (w.setRow g (List.take off (u8s cur) ++ (u8s (List.take m xs) ++ List.drop (off + m) (u8s cur))).toArray) := by simpa [splice, hl] using this
  rw [hl]
  exact this'

/-- A whole array or struct stored into a block. -/
theorem wpList_store_at {P : Program} {ops : Array Oper} {rest : List Oper} {o : Oper} {a : Act} {w : World} {Q : Exit → Act → World → Prop} (hgd : o.guard = none) (ty : TypeId) (x y : Operand) (ho : o.op = .store ty x y)
    (g : Nat) (cells : Array Value) (hx : a.eval x = .pointer (some ⟨g, 0, none⟩)) (hy : a.eval y = .agg cells)
    (t : TypeId) (old : Array Value) (hg : w.heap[g]? = some (.cells old t (0, 0))) (hi : (P.info? ty).map (·.size) = some cells.size)
    (hold : old.size = cells.size) (h1 : cells.all (·.oneCell') = true)
    (h : ∀ w', w'.heap[g]? = some (.cells cells t (0, 0)) → Only (some g) w w' → wpList P ops Q rest (a.put o.dst undef) w') : wpList P ops Q (o :: rest) a w :=
  wpList_store_row hgd ty x y ho g cells hx hy t old hg hi hold h1 (h _ (setRow_heap w g old cells t _ hg) (only_setRow w g cells))
theorem u8s_all (xs : List Int) : (u8s xs).toArray.all (·.oneCell') = true := by
  rw [Array.all_eq_true_iff_forall_mem]
  intro v hv
  exact u8s_one xs v (by simpa using hv)
end Go.Proofs.YteggfkekgdlecaaGreatDoor

namespace Go.Proofs.YteggfkekgdlecaaGreatDoor
open Go.RowKit
set_option linter.unusedVariables false

theorem irot_7 (x : Int) (w : World) (h0 : 0 ≤ x) (h1 : x < 4294967296) : Calls Tryz.prog 78 #[.int .u32 x, .int .i64 7] w fun e w' => e = .returned (.int .u32 (rot7 x)) ∧ w' = w := by
  have e0 : bits BinOp.and IntKind.u64 7 31 = 7 := by decide
  go_enter Tryz.func78, Tryz.ntmps78
  go_wp2
  go_ret
  exact ⟨rfl, rfl⟩
theorem irot_13 (x : Int) (w : World) (h0 : 0 ≤ x) (h1 : x < 4294967296) : Calls Tryz.prog 78 #[.int .u32 x, .int .i64 13] w fun e w' => e = .returned (.int .u32 (rot13 x)) ∧ w' = w := by
  have e0 : bits BinOp.and IntKind.u64 13 31 = 13 := by decide
  go_enter Tryz.func78, Tryz.ntmps78
  go_wp2
  go_ret
  exact ⟨rfl, rfl⟩
theorem irot_17 (x : Int) (w : World) (h0 : 0 ≤ x) (h1 : x < 4294967296) : Calls Tryz.prog 78 #[.int .u32 x, .int .i64 17] w fun e w' => e = .returned (.int .u32 (rot17 x)) ∧ w' = w := by
  have e0 : bits BinOp.and IntKind.u64 17 31 = 17 := by decide
  go_enter Tryz.func78, Tryz.ntmps78
  go_wp2
  go_ret
  exact ⟨rfl, rfl⟩

theorem wrap32 (x : Int) : U32 (IntKind.u32.wrap x) := by
  rw [IntKind.wrap_u32]
  unfold U32
  omega
theorem stB_eq (s : S4) (x : Int) : rot7 (IntKind.u32.wrap (s.b + stA s x)) = stB s x := by
  unfold stB stA
  rw [IntKind.wrap_u32]
  congr 1
  omega
theorem stD_eq (s : S4) (x : Int) : rot17 (IntKind.u32.wrap (s.d + stC s x)) = stD s x := by
  unfold stD
  rw [IntKind.wrap_u32]

/-- Block g holds the state s; nothing else has turned since w. -/
structure StI (g : Nat) (w wx : World) (s : S4) : Prop where
  blk : wx.heap[g]? = some (.cells #[.int .u32 s.a, .int .u32 s.b, .int .u32 s.c, .int .u32 s.d] 83 (0, 0))
  only : Only (some g) w wx
theorem StI.drew {g : Nat} {w wx : World} {s : S4} (h : StI g w wx s) : StI g w wx.drew s := ⟨h.blk, ⟨h.only.1, h.only.2, h.only.3, h.only.4, h.only.5⟩⟩
theorem StI.set {g : Nat} {w wx : World} {s : S4} (h : StI g w wx s) (o : Nat) (u : Value) (t : S4)
    (e : (#[.int .u32 s.a, .int .u32 s.b, .int .u32 s.c, .int .u32 s.d] : Array Value).setIfInBounds o u = #[.int .u32 t.a, .int .u32 t.b, .int .u32 t.c, .int .u32 t.d]) : StI g w (wx.setCell ⟨g, o, none⟩ u) t :=
  ⟨by rw [blkS_setCell h.blk o u, e], h.only.trans (Only.setCell ⟨g, o, none⟩ u)⟩
theorem StI.cells {g : Nat} {w wx : World} {s : S4} (h : StI g w wx s) : wx.cell? ⟨g, 0, none⟩ = some (.int .u32 s.a) ∧ wx.cell? ⟨g, 1, none⟩ = some (.int .u32 s.b) ∧ wx.cell? ⟨g, 2, none⟩ = some (.int .u32 s.c) ∧ wx.cell? ⟨g, 3, none⟩ = some (.int .u32 s.d) :=
  ⟨by rw [blkS_cell h.blk]; rfl, by rw [blkS_cell h.blk]; rfl, by rw [blkS_cell h.blk]; rfl, by rw [blkS_cell h.blk]; rfl⟩

set_option maxHeartbeats 2000000 in
theorem istir (g : Nat) (s : S4) (hs : s.ok) (x : Int) (hx0 : 0 ≤ x) (hx1 : x < 256) (w : World)
    (hb : w.heap[g]? = some (.cells #[.int .u32 s.a, .int .u32 s.b, .int .u32 s.c, .int .u32 s.d] 83 (0, 0))) :
    Calls Tryz.prog 61 #[.pointer (some ⟨g, 0, none⟩), .int .u8 x] w fun e w' => (∃ v, e = .returned v) ∧ StI g w w' (stir1 s x) := by
  have H0 : Hid (StI g w w s) := ⟨hb, Only.refl _ _⟩
  obtain ⟨c0, c1, c2, c3⟩ := H0.out.cells
  have f0 := blkS_free hb 0
  have uA : U32 (stA s x) := by unfold U32 stA; omega
  have uB : U32 (stB s x) := bits32_or _ _
  have uC : U32 (stC s x) := bits32_or _ _
  have uD : U32 (stD s x) := bits32_or _ _
  obtain ⟨⟨a0, a1⟩, ⟨b0, b1⟩, ⟨g0, g1⟩, ⟨d0, d1⟩⟩ := hs
  clear hb
  go_enter Tryz.func61, Tryz.ntmps61
  go_upto_region 0 with fail
  go_cut [4] from 4 to 14 (fun _ wx => StI g w wx ⟨stA s x, s.b, s.c, s.d⟩)
  case first =>
    go_region
    go_wp2_with fail
    go_meet
    exact (H0.out.set 0 _ _ (by rfl)).drew
  case rest =>
  clear c0 c1 c2 c3 f0
  have H1 : Hid _ := hcut
  clear hcut
  obtain ⟨c0, c1, c2, c3⟩ := H1.out.cells
  have f1 := blkS_free H1.out.blk 1
  simp only at c0 c1 c2 c3
  go_upto_region 1 with fail
  go_cut [15] from 15 to 27 (fun _ wx => StI g w wx ⟨stA s x, stB s x, s.c, s.d⟩)
  case first =>
    go_region_with (go_at_call 78; refine (irot_7 _ _ (wrap32 _).1 (wrap32 _).2).mono ?_; rintro e w' ⟨rfl, hw⟩; subst w')
    all_goals (go_wp2_with fail; go_meet; exact (H1.out.set 1 _ _ (by rw [stB_eq]; rfl)).drew)
  case rest =>
  clear c0 c1 c2 c3 f1
  have H2 : Hid _ := hcut
  clear hcut
  obtain ⟨c0, c1, c2, c3⟩ := H2.out.cells
  have f2 := blkS_free H2.out.blk 2
  simp only at c0 c1 c2 c3
  go_upto_region 2 with fail
  go_cut [28] from 28 to 40 (fun _ wx => StI g w wx ⟨stA s x, stB s x, stC s x, s.d⟩)
  case first =>
    go_region_with (go_at_call 78; refine (irot_13 _ _ (bits32_xor _ _).1 (bits32_xor _ _).2).mono ?_; rintro e w' ⟨rfl, hw⟩; subst w')
    all_goals (go_wp2_with fail; go_meet; exact (H2.out.set 2 _ _ (by rfl)).drew)
  case rest =>
  clear c0 c1 c2 c3 f2
  have H3 : Hid _ := hcut
  clear hcut
  obtain ⟨c0, c1, c2, c3⟩ := H3.out.cells
  have f3 := blkS_free H3.out.blk 3
  simp only at c0 c1 c2 c3
  go_upto_region 3 with fail
  go_cut [41] from 41 to 53 (fun _ wx => StI g w wx ⟨stA s x, stB s x, stC s x, stD s x⟩)
  case first =>
    go_region_with (go_at_call 78; refine (irot_17 _ _ (wrap32 _).1 (wrap32 _).2).mono ?_; rintro e w' ⟨rfl, hw⟩; subst w')
    all_goals (go_wp2_with fail; go_meet; exact (H3.out.set 3 _ _ (by rw [stD_eq]; rfl)).drew)
  case rest =>
  clear c0 c1 c2 c3 f3
  have H4 : Hid _ := hcut
  clear hcut
  obtain ⟨c0, c1, c2, c3⟩ := H4.out.cells
  have f0 := blkS_free H4.out.blk 0
  simp only at c0 c1 c2 c3
  go_wp2
  go_region
  go_wp2
  go_end0
  exact ⟨⟨_, rfl⟩, (H4.out.set 0 _ _ (by rfl)).drew⟩
end Go.Proofs.YteggfkekgdlecaaGreatDoor

namespace Go.Proofs.YteggfkekgdlecaaGreatDoor
open Go.RowKit
set_option linter.unusedVariables false

def S4.cs (s : S4) : Array Value := #[.int .u32 s.a, .int .u32 s.b, .int .u32 s.c, .int .u32 s.d]
/-- A row of bytes does not lie in the state's block. -/
theorem not_state {w : World} {g b o : Nat} {s : S4} {x : Int} (hb : w.heap[g]? = some (.cells #[.int .u32 s.a, .int .u32 s.b, .int .u32 s.c, .int .u32 s.d] 83 (0, 0))) (hc : w.cell? ⟨b, o, none⟩ = some (.int .u8 x)) : b ≠ g := by
  rintro rfl
  rw [blkS_cell hb] at hc
  match o with
  | 0 => simp at hc
  | 1 => simp at hc
  | 2 => simp at hc
  | 3 => simp at hc
  | n + 4 => simp at hc

set_option maxHeartbeats 800000 in
theorem istirAll (g : Nat) (s : S4) (hs : s.ok) (v : Value) (xs : List Int) (w : World) (hrow : Row w .u8 v xs) (hB : Bytes xs) (hl : xs.length ≤ 4611686018427387903)
    (hb : w.heap[g]? = some (.cells #[.int .u32 s.a, .int .u32 s.b, .int .u32 s.c, .int .u32 s.d] 83 (0, 0))) :
    Calls Tryz.prog 60 #[.pointer (some ⟨g, 0, none⟩), v] w fun e w' => (∃ r, e = .returned r) ∧ StI g w w' (stirL s xs) := by
  obtain ⟨ao, cap, rfl⟩ := hrow.form
  obtain ⟨n, en⟩ : ∃ n, n = xs.length := ⟨_, rfl⟩
  have HC : Hid _ := And.intro hrow (And.intro hB (And.intro en (And.intro hs hb)))
  rw [← en] at hl ⊢
  clear hrow hB en hs hb
  go_enter Tryz.func60, Tryz.ntmps60
  go_wp2
  go_loopw [8] (fun i wr => ∃ k : Nat, k ≤ n ∧ i = .int .i64 (k : Int) ∧ StI g w wr (stirL s (xs.take k))) (fun i _ => n - (intOf i).toNat)
  case atStart => exact ⟨0, by omega, rfl, ⟨HC.out.2.2.2.2, Only.refl _ _⟩⟩
  case round =>
    obtain ⟨k, hk, rfl, st⟩ := hrel
    by_cases hlt : k < n
    · have hn := HC.out.2.2.1
      obtain ⟨b, off, cap', e1, hbl, hc⟩ := HC.out.1.at (by omega)
      simp only [Value.slice.injEq] at e1
      obtain ⟨rfl, e2, e3⟩ := e1
      have c0 := hc k (by omega)
      have hne := not_state HC.out.2.2.2.2 c0
      have cx : wr.cell? ⟨b, off + k, none⟩ = some (.int .u8 (xs.getD k 0)) := (cell_of_heap (st.only.block b (fun e => hne (by cases e; rfl))) _).trans c0
      have bx := HC.out.2.1.at k
      have H1 : Hid _ := And.intro st (And.intro (stirL_ok s (xs.take k) HC.out.2.2.2.1) (stirL_take s xs k (by omega)))
      clear st c0 hc e2 e3 hne hbl hn
      generalize xs.getD k 0 = x at cx bx H1
      go_wp2_with fail
      go_at_call 61
      refine (istir g _ H1.out.2.1 x bx.1 bx.2 wr H1.out.1.blk).mono ?_
      rintro e w1 ⟨⟨r, rfl⟩, st⟩
      have H2 : Hid _ := And.intro st True.intro
      clear st cx
      go_wp2
      go_roundw
      case rel =>
        refine ⟨k + 1, by omega, by go_num, ?_⟩
        rw [H1.out.2.2]
        exact ⟨H2.out.1.blk, H1.out.1.only.trans H2.out.1.only⟩
      case measure => simp [intOf]; omega
    · obtain rfl : k = n := by omega
      have el : xs.take k = xs := List.take_of_length_le (by have := HC.out.2.2.1; omega)
      rw [el] at st
      have H1 : Hid _ := And.intro st True.intro
      clear st
      go_wp2
      go_end0
      exact ⟨⟨_, rfl⟩, H1.out.1⟩

/-- Block g holds the state s; of the old blocks no other has turned since w. -/
structure StC (g : Nat) (w wx : World) (s : S4) : Prop where
  blk : wx.heap[g]? = some (.cells #[.int .u32 s.a, .int .u32 s.b, .int .u32 s.c, .int .u32 s.d] 83 (0, 0))
  chg : Chg (fun k => k = g) w wx
theorem StI.toC {g : Nat} {w wx : World} {s : S4} (h : StI g w wx s) : StC g w wx s := ⟨h.blk, Chg.of_only h.only (fun k e => by cases e; rfl)⟩
theorem StC.trans {g : Nat} {a b c : World} {s t : S4} (h : StC g a b s) (k : StC g b c t) : StC g a c t := ⟨k.blk, h.chg.trans k.chg⟩
theorem StC.row {g : Nat} {w wx : World} {s t : S4} {v : Value} {xs : List Int} (h : StC g w wx t) (hb : w.heap[g]? = some (.cells #[.int .u32 s.a, .int .u32 s.b, .int .u32 s.c, .int .u32 s.d] 83 (0, 0))) (hr : Row w .u8 v xs) : Row wx .u8 v xs := by
  rcases hr with hr | ⟨b, off, cap, rfl, hlt, hcap, hc⟩
  · exact Or.inl hr
  · by_cases h0 : xs.length = 0
    · obtain rfl : xs = [] := List.eq_nil_of_length_eq_zero h0
      exact Or.inl ⟨rfl, _, _, rfl⟩
    · have hne := not_state hb (hc 0 (by omega))
      exact Or.inr ⟨b, off, cap, rfl, Nat.lt_of_lt_of_le hlt h.chg.size, hcap, fun j hj => (cell_of_heap (h.chg.block b hlt hne) _).trans (hc j hj)⟩

set_option maxHeartbeats 800000 in
theorem istirCount (g : Nat) (s : S4) (hs : s.ok) (n : Nat) (hn : n ≤ 4611686018427387903) (w : World)
    (hb : w.heap[g]? = some (.cells #[.int .u32 s.a, .int .u32 s.b, .int .u32 s.c, .int .u32 s.d] 83 (0, 0))) :
    Calls Tryz.prog 59 #[.pointer (some ⟨g, 0, none⟩), .int .i64 (n : Int)] w fun e w' => (∃ r, e = .returned r) ∧ StC g w w' (stirL s (be (n : Int) 4)) := by
  have hlt : g < w.heap.size := (Array.getElem?_eq_some_iff.1 hb).1
  have HB : Hid _ := And.intro hb hs
  clear hb hs
  go_enter Tryz.func59, Tryz.ntmps59
  go_wp2_with fail
  go_at_call 74
  refine (high (n : Int) 4 w (by omega) (by omega) (by decide)).mono ?_
  rintro e w1 ⟨r, rfl, o1, b1⟩
  have H1 : Hid _ := And.intro o1 b1
  clear o1 b1
  go_wp2_with fail
  go_at_call 60
  refine (istirAll g s HB.out.2 r _ w1 (row_of_owns H1.out.1) (be_bytes _ _) (by rw [be_length]; decide) ((H1.out.2.block g hlt).trans HB.out.1)).mono ?_
  rintro e w2 ⟨⟨r2, rfl⟩, st⟩
  have H2 : Hid _ := And.intro st True.intro
  clear st
  go_wp2
  go_end0
  exact ⟨⟨_, rfl⟩, ⟨H2.out.1.blk, (Chg.of_below H1.out.2).trans H2.out.1.toC.chg⟩⟩
end Go.Proofs.YteggfkekgdlecaaGreatDoor

namespace Go.Proofs.YteggfkekgdlecaaGreatDoor
open Go.RowKit
set_option linter.unusedVariables false

def S4.byts (s : S4) : List Int := be s.a 4 ++ (be s.b 4 ++ (be s.c 4 ++ be s.d 4))
theorem byts_length (s : S4) : s.byts.length = 16 := by simp [S4.byts, be_length]
theorem byts_digV (ks ds : List Int) : (digS ks ds).byts = digV ks ds := by simp [S4.byts, digV]
def outL (s : S4) : Nat → List Int
  | 0 => List.replicate 16 0
  | 1 => be s.a 4 ++ List.replicate 12 0
  | 2 => be s.a 4 ++ (be s.b 4 ++ List.replicate 8 0)
  | 3 => be s.a 4 ++ (be s.b 4 ++ (be s.c 4 ++ List.replicate 4 0))
  | _ => s.byts
theorem outL_length (s : S4) (k : Nat) : (outL s k).length = 16 := by
  match k with
  | 0 => simp [outL]
  | 1 => simp [outL, be_length]
  | 2 => simp [outL, be_length]
  | 3 => simp [outL, be_length]
  | n + 4 => simp [outL, byts_length]
theorem outL_0 (s : S4) : splice (outL s 0) 0 ((be s.a 4).take 4) = outL s 1 := by simp [outL, splice, be]
theorem outL_1 (s : S4) : splice (outL s 1) 4 ((be s.b 4).take 4) = outL s 2 := by simp [outL, splice, be]
theorem outL_2 (s : S4) : splice (outL s 2) 8 ((be s.c 4).take 4) = outL s 3 := by simp [outL, splice, be]
theorem outL_3 (s : S4) : splice (outL s 3) 12 ((be s.d 4).take 4) = outL s 4 := by simp [outL, splice, be, S4.byts]
theorem infoU8s : (Tryz.prog.info? 5).map (·.size) = some 1 := by kernel_rfl
theorem infoB16 : (Tryz.prog.info? 61).map (·.size) = some 16 := by kernel_rfl
theorem infoBs (xs : List Int) (h : xs.length = 16) : (Tryz.prog.info? 61).map (·.size) = some (u8s xs).toArray.size := by rw [infoB16]; simp [u8s_length, h]
theorem zeros16 : (#[.int .u8 0, .int .u8 0, .int .u8 0, .int .u8 0, .int .u8 0, .int .u8 0, .int .u8 0, .int .u8 0, .int .u8 0, .int .u8 0, .int .u8 0, .int .u8 0, .int .u8 0, .int .u8 0, .int .u8 0, .int .u8 0] : Array Value) = (u8s (List.replicate 16 0)).toArray := rfl

theorem book_new2 (w : World) (o1 o2 : Obj) : Book ((w.alloc o1).alloc o2) [(w.heap.size + 1, o2), (w.heap.size, o1)] := by
  refine ⟨fun b o hm => ?_⟩
  rcases List.mem_cons.1 hm with e | hm
  · cases e
    exact (bk_new2 w o1 o2).2
  · simp only [List.mem_singleton, Prod.mk.injEq] at hm
    obtain ⟨rfl, rfl⟩ := hm
    exact (bk_new2 w o o2).1
/-- A book of which one block has turned. -/
theorem Book.turn {wx w' : World} {g : Nat} {o o' : Obj} {L : List (Nat × Obj)} (h : Book wx ((g, o) :: L)) (hc : Only (some g) wx w') (hn : w'.heap[g]? = some o') (hs : ∀ b o, (b, o) ∈ L → b ≠ g) : Book w' ((g, o') :: L) := by
  refine ⟨fun b u hm => ?_⟩
  rcases List.mem_cons.1 hm with e | hm
  · cases e
    exact hn
  · exact (hc.block b (fun e => hs b u hm (by cases e; rfl))).trans (h.blk b u (List.mem_cons_of_mem _ hm))

/-- The two blocks of block(): the answer's room and the variable. -/
abbrev BkB (h : Nat) (s : S4) (k : Nat) : List (Nat × Obj) := [(h + 1, .cells (u8s (outL s k)).toArray 61 (0, 0)), (h, .cells (u8s (List.replicate 16 0)).toArray 61 (0, 0))]

set_option maxRecDepth 20000 in
set_option maxHeartbeats 4000000 in
theorem iblock (g : Nat) (s : S4) (hs : s.ok) (w : World)
    (hb : w.heap[g]? = some (.cells #[.int .u32 s.a, .int .u32 s.b, .int .u32 s.c, .int .u32 s.d] 83 (0, 0))) :
    Calls Tryz.prog 62 #[.pointer (some ⟨g, 0, none⟩)] w fun e w' => e = .returned (.agg (u8s s.byts).toArray) ∧ Below w.heap.size w w' := by
  have hlt : g < w.heap.size := (Array.getElem?_eq_some_iff.1 hb).1
  have HB : Hid _ := And.intro hb hs
  clear hb hs
  go_enter Tryz.func62, Tryz.ntmps62
  go_wp2
  go_loopw [7] (fun i wr => ∃ k : Nat, k ≤ 4 ∧ i = .int .i64 (k : Int) ∧ Book wr (BkB w.heap.size s k) ∧ Below w.heap.size w wr) (fun i _ => 4 - (intOf i).toNat)
  case atStart =>
    refine ⟨0, by omega, rfl, ?_, ((Below.refl _ _).alloc (Nat.le_refl _) _).alloc (by simp) _⟩
    rw [zeros16]
    exact book_new2 w _ _
  case round =>
    obtain ⟨k, hk, rfl, bk, bl⟩ := hrel
    have st : StI g w w s := ⟨HB.out.1, Only.refl _ _⟩
    obtain ⟨c0, c1, c2, c3⟩ := st.cells
    clear st
    by_cases hlt4 : k < 4
    · rcases (show k = 0 ∨ k = 1 ∨ k = 2 ∨ k = 3 by omega) with rfl | rfl | rfl | rfl
      · have cx := (bl.cell (p := ⟨g, 0, none⟩) hlt).trans c0
        have H1 : Hid _ := And.intro bk bl
        have hx := HB.out.2.1
        obtain ⟨hx0, hx1⟩ := hx
        clear bk bl c0 c1 c2 c3
        have es := outL_0 s
        have HE : Hid _ := es
        clear es
        generalize s.a = x at cx hx0 hx1 HE
        go_upto_region 5 with (go_quiet (fail))
        have ew : IntKind.i64.wrap 0 = 0 := by decide
        have ex : IntKind.u64.wrap x = x := by rw [IntKind.wrap_u64]; omega
        go_region_law (first
          | (go_simp; go_at_call 74; refine (high x 4 _ (by omega) (by omega) (by decide)).mono ?_; rintro e w1 ⟨r, rfl, o1, b1⟩)
          | (refine step_copy_at rfl (.tmp 15) (.tmp 18) 22 22 rfl 5 Tryz.underlying22 infoU8s (w.heap.size + 1) (0) (16 - 0) (16 - 0) _ rfl rfl _ (row_of_owns o1) (by rw [be_length]; decide) (outL s 0) 61 (((H1.out.1.drewN _).below b1).blk _ _ (by simp)) 4 (by rw [be_length]; rfl) (by rw [outL_length]; decide) ?_; intro w2 h2 n2))
        all_goals
          rw [HE.out] at h2
          have H2 : Hid _ := And.intro (((H1.out.1.drewN _).below b1).turn n2 h2 (by intro b o hm; simp at hm; omega)) (((below_drewN H1.out.2 _).trans (b1.mono H1.out.2.size)).trans (n2.below (by omega)))
          clear h2 n2 o1 b1 cx
          go_wp2
          go_roundw
          case rel => exact ⟨0 + 1, by decide, rfl, H2.out.1, H2.out.2⟩
          case measure => simp [intOf]
      · have cx := (bl.cell (p := ⟨g, 1, none⟩) hlt).trans c1
        have H1 : Hid _ := And.intro bk bl
        have hx := HB.out.2.2.1
        obtain ⟨hx0, hx1⟩ := hx
        clear bk bl c0 c1 c2 c3
        have es := outL_1 s
        have HE : Hid _ := es
        clear es
        generalize s.b = x at cx hx0 hx1 HE
        go_upto_region 5 with (go_quiet (fail))
        have ew : IntKind.i64.wrap 4 = 4 := by decide
        have ex : IntKind.u64.wrap x = x := by rw [IntKind.wrap_u64]; omega
        go_region_law (first
          | (go_simp; go_at_call 74; refine (high x 4 _ (by omega) (by omega) (by decide)).mono ?_; rintro e w1 ⟨r, rfl, o1, b1⟩)
          | (refine step_copy_at rfl (.tmp 15) (.tmp 18) 22 22 rfl 5 Tryz.underlying22 infoU8s (w.heap.size + 1) (4) (16 - 4) (16 - 4) _ rfl rfl _ (row_of_owns o1) (by rw [be_length]; decide) (outL s 1) 61 (((H1.out.1.drewN _).below b1).blk _ _ (by simp)) 4 (by rw [be_length]; rfl) (by rw [outL_length]; decide) ?_; intro w2 h2 n2))
        all_goals
          rw [HE.out] at h2
          have H2 : Hid _ := And.intro (((H1.out.1.drewN _).below b1).turn n2 h2 (by intro b o hm; simp at hm; omega)) (((below_drewN H1.out.2 _).trans (b1.mono H1.out.2.size)).trans (n2.below (by omega)))
          clear h2 n2 o1 b1 cx
          go_wp2
          go_roundw
          case rel => exact ⟨1 + 1, by decide, rfl, H2.out.1, H2.out.2⟩
          case measure => simp [intOf]
      · have cx := (bl.cell (p := ⟨g, 2, none⟩) hlt).trans c2
        have H1 : Hid _ := And.intro bk bl
        have hx := HB.out.2.2.2.1
        obtain ⟨hx0, hx1⟩ := hx
        clear bk bl c0 c1 c2 c3
        have es := outL_2 s
        have HE : Hid _ := es
        clear es
        generalize s.c = x at cx hx0 hx1 HE
        go_upto_region 5 with (go_quiet (fail))
        have ew : IntKind.i64.wrap 8 = 8 := by decide
        have ex : IntKind.u64.wrap x = x := by rw [IntKind.wrap_u64]; omega
        go_region_law (first
          | (go_simp; go_at_call 74; refine (high x 4 _ (by omega) (by omega) (by decide)).mono ?_; rintro e w1 ⟨r, rfl, o1, b1⟩)
          | (refine step_copy_at rfl (.tmp 15) (.tmp 18) 22 22 rfl 5 Tryz.underlying22 infoU8s (w.heap.size + 1) (8) (16 - 8) (16 - 8) _ rfl rfl _ (row_of_owns o1) (by rw [be_length]; decide) (outL s 2) 61 (((H1.out.1.drewN _).below b1).blk _ _ (by simp)) 4 (by rw [be_length]; rfl) (by rw [outL_length]; decide) ?_; intro w2 h2 n2))
        all_goals
          rw [HE.out] at h2
          have H2 : Hid _ := And.intro (((H1.out.1.drewN _).below b1).turn n2 h2 (by intro b o hm; simp at hm; omega)) (((below_drewN H1.out.2 _).trans (b1.mono H1.out.2.size)).trans (n2.below (by omega)))
          clear h2 n2 o1 b1 cx
          go_wp2
          go_roundw
          case rel => exact ⟨2 + 1, by decide, rfl, H2.out.1, H2.out.2⟩
          case measure => simp [intOf]
      · have cx := (bl.cell (p := ⟨g, 3, none⟩) hlt).trans c3
        have H1 : Hid _ := And.intro bk bl
        have hx := HB.out.2.2.2.2
        obtain ⟨hx0, hx1⟩ := hx
        clear bk bl c0 c1 c2 c3
        have es := outL_3 s
        have HE : Hid _ := es
        clear es
        generalize s.d = x at cx hx0 hx1 HE
        go_upto_region 5 with (go_quiet (fail))
        have ew : IntKind.i64.wrap 12 = 12 := by decide
        have ex : IntKind.u64.wrap x = x := by rw [IntKind.wrap_u64]; omega
        go_region_law (first
          | (go_simp; go_at_call 74; refine (high x 4 _ (by omega) (by omega) (by decide)).mono ?_; rintro e w1 ⟨r, rfl, o1, b1⟩)
          | (refine step_copy_at rfl (.tmp 15) (.tmp 18) 22 22 rfl 5 Tryz.underlying22 infoU8s (w.heap.size + 1) (12) (16 - 12) (16 - 12) _ rfl rfl _ (row_of_owns o1) (by rw [be_length]; decide) (outL s 3) 61 (((H1.out.1.drewN _).below b1).blk _ _ (by simp)) 4 (by rw [be_length]; rfl) (by rw [outL_length]; decide) ?_; intro w2 h2 n2))
        all_goals
          rw [HE.out] at h2
          have H2 : Hid _ := And.intro (((H1.out.1.drewN _).below b1).turn n2 h2 (by intro b o hm; simp at hm; omega)) (((below_drewN H1.out.2 _).trans (b1.mono H1.out.2.size)).trans (n2.below (by omega)))
          clear h2 n2 o1 b1 cx
          go_wp2
          go_roundw
          case rel => exact ⟨3 + 1, by decide, rfl, H2.out.1, H2.out.2⟩
          case measure => simp [intOf]
    · obtain rfl : k = 4 := by omega
      have H1 : Hid _ := And.intro bk bl
      clear bk bl c0 c1 c2 c3
      go_wp2_with (first
        | (refine wpList_load_row rfl 61 (.tmp 3) rfl (w.heap.size + 1) rfl 61 _ (0, 0) _ (H1.out.1.blk _ _ (by simp)) Tryz.underlying61 rfl (infoBs _ (outL_length s 4)) ?_)
        | (refine wpList_store_at rfl 61 (.tmp 2) (.tmp 21) rfl w.heap.size _ rfl rfl 61 (u8s (List.replicate 16 0)).toArray (H1.out.1.blk _ _ (by simp)) (infoBs _ (outL_length s 4)) (by simp [u8s_length, outL_length]) (u8s_all _) ?_; intro w2 h2 n2))
      try simp only [Exit.inBlock, Exit.then]
      refine bodyPost_ret (v := .agg (u8s s.byts).toArray) ?_ rfl ?_
      · exact results_cell_row (t := 61) rfl _ _ w.heap.size _ (fr := (0, 0)) _ rfl h2 Tryz.underlying61 rfl (infoBs _ (outL_length s 4))
      · exact ⟨rfl, H1.out.2.trans (n2.below (Nat.le_refl _))⟩
end Go.Proofs.YteggfkekgdlecaaGreatDoor

namespace Go.Proofs.YteggfkekgdlecaaGreatDoor
open Go.RowKit
set_option linter.unusedVariables false

theorem infoS80 : (Tryz.prog.info? 83).map (·.size) = some 4 := by kernel_rfl
set_option maxHeartbeats 800000 in
theorem inew (w : World) : Calls Tryz.prog 58 #[] w fun e w' => e = .returned (.agg #[.int .u32 1779033703, .int .u32 3144134277, .int .u32 1013904242, .int .u32 2773480762]) ∧ Below w.heap.size w w' := by
  go_enter Tryz.func58, Tryz.ntmps58
  go_wp2
  refine bodyPost_ret (v := .agg #[.int .u32 1779033703, .int .u32 3144134277, .int .u32 1013904242, .int .u32 2773480762]) (by simp [results, Tryz.results58, go_sem]) rfl ⟨rfl, ?_⟩
  exact (Below.refl _ _).alloc (Nat.le_refl _) _

/-- digestParts' own blocks: the answer's room, the state. -/
structure DP (w wx : World) (g : Nat) (s : S4) : Prop where
  blk : wx.heap[g]? = some (.cells #[.int .u32 s.a, .int .u32 s.b, .int .u32 s.c, .int .u32 s.d] 83 (0, 0))
  res : wx.heap[w.heap.size]? = some (.cells (u8s (List.replicate 16 0)).toArray 61 (0, 0))
  bel : Below w.heap.size w wx
  lt : w.heap.size < g
theorem DP.step {w wx wy : World} {g : Nat} {s t : S4} (h : DP w wx g s) (k : StC g wx wy t) : DP w wy g t := by
  have hg : g < wx.heap.size := (Array.getElem?_eq_some_iff.1 h.blk).1
  have hr : w.heap.size < wx.heap.size := (Array.getElem?_eq_some_iff.1 h.res).1
  exact ⟨k.blk, (k.chg.block _ hr (by have := h.lt; omega)).trans h.res, h.bel.trans (k.chg.below h.bel.size (fun i e => by have := h.lt; omega)), h.lt⟩
set_option maxRecDepth 20000 in
set_option maxHeartbeats 4000000 in
theorem iparts (vk vp : Value) (ks : List Int) (L : List (List Int)) (w : World) (rk : Row w .u8 vk ks) (bk : Bytes ks) (lk : ks.length ≤ 4611686018427387903) (hp : Parts w vp L) (bp : ∀ j, Bytes (L.getD j [])) (lp : L.flatten.length ≤ 4611686018427387903) (lL : L.length ≤ 1000) :
    Calls Tryz.prog 32 #[vk, vp] w fun e w' => e = .returned (.agg (u8s (digV ks L.flatten)).toArray) ∧ Below w.heap.size w w' := by
  obtain ⟨p, capp, rfl, hpl, hpc⟩ := hp.at'
  obtain ⟨aok, capk, rfl⟩ := rk.form
  obtain ⟨n, en⟩ : ∃ n, n = ks.length := ⟨_, rfl⟩
  obtain ⟨m, em⟩ : ∃ m, m = L.length := ⟨_, rfl⟩
  have HH : Hid _ := And.intro rk (And.intro bk (And.intro en (And.intro em (And.intro bp (And.intro lp (And.intro hpc hpl))))))
  rw [← en] at lk ⊢
  rw [← em] at lL ⊢
  clear rk bk en em hp bp lp hpc
  go_enter Tryz.func32, Tryz.ntmps32
  go_wp2_with fail
  go_at_call 58
  refine (inew _).mono ?_
  rintro e w1 ⟨rfl, b1⟩
  obtain ⟨g, eg⟩ : ∃ g, g = w1.heap.size := ⟨_, rfl⟩
  have hgl : w.heap.size < g := by have := b1.size; simp at this; omega
  have D0 : Hid (DP w (w1.alloc (.cells #[.int .u32 1779033703, .int .u32 3144134277, .int .u32 1013904242, .int .u32 2773480762] 83 (0, 0))) g dig0) := by
    have hb : Below (w.alloc (.cells (u8s (List.replicate 16 0)).toArray 61 (0, 0))).heap.size (w.alloc (.cells (u8s (List.replicate 16 0)).toArray 61 (0, 0))) w1 := b1
    refine ⟨by rw [eg]; exact (MapKept.heap_alloc w1 _).1, ?_, ?_, hgl⟩
    · rw [Below.heap_alloc w1 _ _ (by omega), hb.block _ (by simp)]
      exact (MapKept.heap_alloc w _).1
    · exact ((((Below.refl _ _).alloc (Nat.le_refl _) _).trans (hb.mono (by simp))).alloc (by omega) _)
  have EG : Hid _ := And.intro eg b1
  clear b1
  go_wp2_with fail
  go_at_call 59
  rw [← eg]
  refine (istirCount g dig0 dig0_ok n (by omega) _ D0.out.blk).mono ?_
  rintro e w2 ⟨⟨r2, rfl⟩, st⟩
  have k2 := stirL_ok dig0 (be (n : Int) 4) dig0_ok
  have H2 : Hid _ := And.intro (D0.out.step st) (And.intro k2 (show stirL dig0 (be (n : Int) 4) = stirL dig0 (be (ks.length : Int) 4) by rw [HH.out.2.2.1]))
  generalize stirL dig0 (be (n : Int) 4) = s2 at H2
  clear st k2 D0 EG eg
  go_wp2_with fail
  go_at_call 60
  refine (istirAll g s2 H2.out.2.1 _ ks w2 (by rw [HH.out.2.2.1]; exact HH.out.1.below H2.out.1.bel) HH.out.2.1 (by have := HH.out.2.2.1; omega) H2.out.1.blk).mono ?_
  rintro e w3 ⟨⟨r3, rfl⟩, st⟩
  have k3 := stirL_ok s2 ks H2.out.2.1
  have H3 : Hid _ := And.intro (H2.out.1.step st.toC) (And.intro k3 (show stirL s2 ks = stirL (stirL dig0 (be (ks.length : Int) 4)) ks by rw [H2.out.2.2]))
  generalize stirL s2 ks = s3 at H3
  clear st k3 H2
  go_wp2_with fail
  go_loopw [17, 6] (fun i c wr => ∃ k : Nat, k ≤ m ∧ i = .int .i64 (k : Int) ∧ c = .int .i64 (((L.take k).flatten.length : Nat) : Int) ∧ DP w wr g (stirL s3 (L.take k).flatten)) (fun i _ _ => m - (intOf i).toNat)
  case atStart => exact ⟨0, by omega, rfl, by simp, by simpa [stirL] using H3.out.1⟩
  case round =>
    obtain ⟨k, hk, rfl, rfl, st⟩ := hrel
    by_cases hlt : k < m
    · obtain ⟨v, hv, hr⟩ := HH.out.2.2.2.2.2.2.1 k (by have := HH.out.2.2.2.1; omega)
      have cv := (st.bel.cell (p := ⟨p, k, none⟩) hpl).trans hv
      have ft := flat_take L k (by have := HH.out.2.2.2.1; omega)
      have fl : (L.take (k + 1)).flatten.length = (L.take k).flatten.length + (L.getD k []).length := by rw [ft, List.length_append]
      have fb : (L.take (k + 1)).flatten.length ≤ L.flatten.length := by
        conv => rhs; rw [← List.take_append_drop (k + 1) L]
        rw [List.flatten_append, List.length_append]
        omega
      have lp := HH.out.2.2.2.2.2.1
      obtain ⟨av, cpv, rfl⟩ := hr.form
      have hlx : (L.getD k []).length ≤ 4611686018427387903 := by omega
      have es : stirL s3 (L.take (k + 1)).flatten = stirL (stirL s3 (L.take k).flatten) (L.getD k []) := by rw [ft, stirL_append]
      have H4 : Hid _ := And.intro (hr.below st.bel) (And.intro (HH.out.2.2.2.2.1 k) (And.intro st (And.intro (stirL_ok s3 (L.take k).flatten H3.out.2.1) (And.intro es fl))))
      have hsum : (L.take k).flatten.length + (L.getD k []).length ≤ 4611686018427387903 := by omega
      clear hv hr ft fl fb lp st es
      generalize L.getD k [] = xs at cv H4 hlx hsum
      obtain ⟨nx, enx⟩ : ∃ q, q = xs.length := ⟨_, rfl⟩
      obtain ⟨nt, ent⟩ : ∃ q, q = (L.take k).flatten.length := ⟨_, rfl⟩
      rw [← enx] at cv hlx hsum
      rw [← ent] at hsum ⊢
      have EN : Hid _ := And.intro enx ent
      clear enx ent
      go_wp2_with fail
      go_at_call 60
      refine (istirAll g _ H4.out.2.2.2.1 _ xs wr (by rw [EN.out.1]; exact H4.out.1) H4.out.2.1 (by rw [← EN.out.1]; exact hlx) H4.out.2.2.1.blk).mono ?_
      rintro e w4 ⟨⟨r4, rfl⟩, st4⟩
      have H5 : Hid _ := And.intro (H4.out.2.2.1.step st4.toC) True.intro
      clear st4 cv
      go_wp2
      go_roundw
      case rel =>
        refine ⟨k + 1, by omega, by go_num, ?_, ?_⟩
        · rw [H4.out.2.2.2.2.2, ← EN.out.1, ← EN.out.2]; simp
        · rw [H4.out.2.2.2.2.1]; exact H5.out.1
      case measure => simp [intOf]; omega
    · obtain rfl : k = m := by omega
      have el : L.take k = L := List.take_of_length_le (by have := HH.out.2.2.2.1; omega)
      rw [el] at st
      rw [el]
      have k4 := stirL_ok s3 L.flatten H3.out.2.1
      have H4 : Hid _ := And.intro st (And.intro k4 (show stirL s3 L.flatten = stirL (stirL (stirL dig0 (be (ks.length : Int) 4)) ks) L.flatten by rw [H3.out.2.2]))
      generalize stirL s3 L.flatten = s4 at H4
      clear st k4
      have lp := HH.out.2.2.2.2.2.1
      obtain ⟨nt, ent⟩ : ∃ q, q = L.flatten.length := ⟨_, rfl⟩
      rw [← ent] at lp ⊢
      have EN : Hid _ := And.intro ent True.intro
      clear ent
      go_wp2_with fail
      go_at_call 59
      refine (istirCount g s4 H4.out.2.1 nt lp _ H4.out.1.blk).mono ?_
      rintro e w5 ⟨⟨r5, rfl⟩, st5⟩
      have k5 := stirL_ok s4 (be (nt : Int) 4) H4.out.2.1
      have H5 : Hid _ := And.intro (H4.out.1.step st5) (And.intro k5 (show stirL s4 (be (nt : Int) 4) = stirL (stirL (stirL (stirL dig0 (be (ks.length : Int) 4)) ks) L.flatten) (be (L.flatten.length : Int) 4) by rw [H4.out.2.2, EN.out.1]))
      generalize stirL s4 (be (nt : Int) 4) = s5 at H5
      clear st5 k5 H4
      go_wp2_with fail
      go_loopw [30] (fun i wr => ∃ k : Nat, k ≤ 16 ∧ i = .int .i64 (k : Int) ∧ DP w wr g (stirL s5 (List.replicate k 165))) (fun i _ => 16 - (intOf i).toNat)
      case atStart => exact ⟨0, by omega, rfl, H5.out.1⟩
      case round =>
        obtain ⟨j, hj, rfl, st⟩ := hrel
        by_cases hlt2 : j < 16
        · have es : stirL s5 (List.replicate (j + 1) 165) = stir1 (stirL s5 (List.replicate j 165)) 165 := by rw [List.replicate_succ', stirL_append]; rfl
          have H6 : Hid _ := And.intro st (And.intro (stirL_ok s5 (List.replicate j 165) H5.out.2.1) es)
          clear st es
          go_wp2_with fail
          go_at_call 61
          refine (istir g _ H6.out.2.1 165 (by decide) (by decide) wr H6.out.1.blk).mono ?_
          rintro e w6 ⟨⟨r6, rfl⟩, st6⟩
          have H7 : Hid _ := And.intro (H6.out.1.step st6.toC) True.intro
          clear st6
          go_wp2
          go_roundw
          case rel => exact ⟨j + 1, by omega, by go_num, by rw [H6.out.2.2]; exact H7.out.1⟩
          case measure => simp [intOf]; omega
        · obtain rfl : j = 16 := by omega
          have k6 := stirL_ok s5 (List.replicate 16 165) H5.out.2.1
          have H6 : Hid _ := And.intro st (And.intro k6 (show stirL s5 (List.replicate 16 165) = digS ks L.flatten by rw [H5.out.2.2]; rfl))
          generalize stirL s5 (List.replicate 16 165) = s6 at H6
          clear st k6
          go_wp2_with fail
          go_at_call 62
          refine (iblock g s6 H6.out.2.1 wr H6.out.1.blk).mono ?_
          rintro e w7 ⟨rfl, b7⟩
          have hrz : w.heap.size < wr.heap.size := (Array.getElem?_eq_some_iff.1 H6.out.1.res).1
          have H7 : Hid _ := And.intro ((b7.block _ hrz).trans H6.out.1.res) (H6.out.1.bel.trans (b7.mono H6.out.1.bel.size))
          clear b7 hrz
          go_wp2_with (refine wpList_store_at rfl 61 (.tmp 4) (.tmp 34) rfl w.heap.size _ rfl rfl 61 (u8s (List.replicate 16 0)).toArray H7.out.1 (infoBs _ (byts_length s6)) (by simp [u8s_length, byts_length]) (u8s_all _) ?_; intro w8 h8 n8)
          try simp only [Exit.inBlock, Exit.then]
          refine bodyPost_ret (v := .agg (u8s s6.byts).toArray) ?_ rfl ?_
          · exact results_cell_row (t := 61) rfl _ _ w.heap.size _ (fr := (0, 0)) _ rfl h8 Tryz.underlying61 rfl (infoBs _ (byts_length s6))
          · exact ⟨by rw [H6.out.2.2, byts_digV], H7.out.2.trans (n8.below (Nat.le_refl _))⟩
end Go.Proofs.YteggfkekgdlecaaGreatDoor

namespace Go.Proofs.YteggfkekgdlecaaGreatDoor
open Go.RowKit
set_option linter.unusedVariables false

def digestV (ks ds : List Int) : List Int := if ks.length ≤ 65536 ∧ ds.length ≤ 65536 then digV ks ds else []
theorem digestV_length (ks ds : List Int) : (digestV ks ds).length ≤ 16 := by
  unfold digestV
  split
  · rw [digV_length]; decide
  · decide

theorem owns_empty (w : World) (e : TypeId) : (w.alloc (.cells #[] e)).ownsRow w.heap.size e 1 (.slice (some ⟨w.heap.size, 0, none⟩) 0 0) 0 [] :=
  ⟨rfl, Or.inr ⟨w.heap.size, 0, #[], rfl, Nat.le_refl _, (MapKept.heap_alloc w _).1, Nat.le_refl _, Nat.zero_le _, rfl, rfl⟩⟩
end Go.Proofs.YteggfkekgdlecaaGreatDoor

namespace Go.Proofs.YteggfkekgdlecaaGreatDoor
open Go.RowKit
set_option linter.unusedVariables false

theorem owns_full {w : World} {base e g n : Nat} {xs : List Int} (h : w.ownsRow base e 1 (.slice (some ⟨g, 0, none⟩) n n) n (u8s xs)) : w.heap[g]? = some (.cells (u8s xs).toArray e (0, 0)) := by
  rcases h.2 with ⟨h1, _⟩ | ⟨g', cap, cur, h1, _, h2, _, _, h3, h4⟩
  · cases h1
  · cases h1
    rw [h2]
    have : cur.toList = u8s xs := by
      rw [← h4, List.take_of_length_le (by simp; omega)]
    rw [← this]
theorem owns_of_full {w : World} {base e g n : Nat} {xs : List Int} (h : w.heap[g]? = some (.cells (u8s xs).toArray e (0, 0))) (hb : base ≤ g) (hn : xs.length = n) (hm : n ≤ maxLen) : w.ownsRow base e 1 (.slice (some ⟨g, 0, none⟩) n n) n (xs.map (Value.int .u8)) := by
  refine ⟨by simp [hn], Or.inr ⟨g, n, _, rfl, hb, h, Nat.le_refl _, hm, by simp [u8s_length, hn], ?_⟩⟩
  show (u8s xs).take (n * 1) = u8s xs
  rw [List.take_of_length_le (by rw [u8s_length]; omega)]

/-- Derive's row behind k blocks. -/
def dOut (ss ls : List Int) (n k : Nat) : List Int := (blk ss ls k).take n ++ List.replicate (n - 16 * k) 0
theorem dOut_length (ss ls : List Int) (n k : Nat) : (dOut ss ls n k).length = n := by
  simp [dOut, blk_length]
  omega
theorem dOut_0 (ss ls : List Int) (n : Nat) : dOut ss ls n 0 = List.replicate n 0 := by simp [dOut, blk]
theorem dOut_step (ss ls : List Int) (n k : Nat) (h : 16 * k < n) : splice (dOut ss ls n k) (16 * k) ((digV ss (ls ++ [(k : Int)])).take (min 16 (n - 16 * k))) = dOut ss ls n (k + 1) := by
  have hb := blk_length ss ls k
  have hd := digV_length ss (ls ++ [(k : Int)])
  have e0 : (blk ss ls k).take n = blk ss ls k := List.take_of_length_le (by omega)
  have e1 : blk ss ls (k + 1) = blk ss ls k ++ digV ss (ls ++ [(k : Int)]) := rfl
  have e2 : (digV ss (ls ++ [(k : Int)])).take (n - 16 * k) = (digV ss (ls ++ [(k : Int)])).take (min 16 (n - 16 * k)) := by
    by_cases hm : n - 16 * k ≤ 16
    · rw [Nat.min_eq_right hm]
    · rw [Nat.min_eq_left (by omega), List.take_of_length_le (by omega), List.take_of_length_le (by omega)]
  unfold splice dOut
  have eR : List.take n (blk ss ls k ++ digV ss (ls ++ [(k : Int)])) = blk ss ls k ++ (digV ss (ls ++ [(k : Int)])).take (n - 16 * k) := by rw [List.take_append, hb, e0]
  rw [e0, e1, eR, e2]
  generalize digV ss (ls ++ [(k : Int)]) = d at hd
  have hl : (d.take (min 16 (n - 16 * k))).length = min 16 (n - 16 * k) := by rw [List.length_take, hd]; omega
  rw [hl, List.take_left' hb, List.append_assoc]
  congr 2
  rw [List.drop_append, hb]
  rw [List.drop_of_length_le (by omega)]
  simp
  omega
theorem dOut_end (ss ls : List Int) (n k : Nat) (h : n ≤ 16 * k) (hk : k ≤ 4) : dOut ss ls n k = drvV ss ls n := by
  unfold dOut drvV
  have := blk_take ss ls n k (4 - k) h
  rw [show k + (4 - k) = 4 by omega] at this
  rw [this, show n - 16 * k = 0 by omega]
  simp

theorem Parts.drew {w : World} {vp : Value} {L : List (List Int)} (h : Parts w vp L) : Parts w.drew vp L := ⟨h.at'⟩
theorem derParts (wr : World) (s : ByteArray) (C k : Nat) (hC : s.size ≤ C) (hC1 : C ≤ maxLen) :
    Parts (((wr.alloc (.cells (bytesRow s C) 5 ((bytesRow s C).size, (bytesRow s C).size + 1))).alloc (.cells #[.int .u8 (k : Int)] 5)).alloc
      (.cells #[.slice (some ⟨wr.heap.size, 0, none⟩) s.size C, .slice (some ⟨wr.heap.size + 1, 0, none⟩) 1 1] 22)).drew (.slice (some ⟨wr.heap.size + 1 + 1, 0, none⟩) 2 2) [lab s, [(k : Int)]] := by
  have h1 : ((wr.alloc (.cells (bytesRow s C) 5 ((bytesRow s C).size, (bytesRow s C).size + 1))).alloc (.cells #[.int .u8 (k : Int)] 5)).heap[wr.heap.size]? = some (.cells (bytesRow s C) 5 ((bytesRow s C).size, (bytesRow s C).size + 1)) := (two_newS wr _ _).1
  have h2 := (two_newS wr (.cells (bytesRow s C) 5 ((bytesRow s C).size, (bytesRow s C).size + 1)) (.cells #[.int .u8 (k : Int)] 5)).2
  have r1 : Row ((wr.alloc (.cells (bytesRow s C) 5 ((bytesRow s C).size, (bytesRow s C).size + 1))).alloc (.cells #[.int .u8 (k : Int)] 5)) .u8 (.slice (some ⟨wr.heap.size, 0, none⟩) s.size C) (lab s) := by
    refine Or.inr ⟨wr.heap.size, 0, C, by rw [lab_length], by simp; omega, by rw [lab_length]; exact ⟨hC, hC1⟩, fun j hj => ?_⟩
    rw [lab_length] at hj
    rw [Nat.zero_add, blkS_cell h1]
    exact lab_at s C j hj
  have r2 : Row ((wr.alloc (.cells (bytesRow s C) 5 ((bytesRow s C).size, (bytesRow s C).size + 1))).alloc (.cells #[.int .u8 (k : Int)] 5)) .u8 (.slice (some ⟨wr.heap.size + 1, 0, none⟩) 1 1) [(k : Int)] := by
    refine Or.inr ⟨wr.heap.size + 1, 0, 1, rfl, by simp, ⟨Nat.le_refl _, by decide⟩, fun j hj => ?_⟩
    obtain rfl : j = 0 := by simp at hj; omega
    rw [blkS_cell h2]
    rfl
  have := (parts2 r1 r2 22).drew
  simp only [World.size_alloc] at this
  exact this

theorem row_full {w : World} {g n e : Nat} {xs : List Int} (h : w.heap[g]? = some (.cells (u8s xs).toArray e (0, 0))) (hn : xs.length = n) (hm : n ≤ maxLen) : Row w .u8 (.slice (some ⟨g, 0, none⟩) n n) xs :=
  row_of_owns (owns_of_full (base := 0) h (Nat.zero_le _) hn hm)

theorem implDer_bad (ao : Option Addr) (m cap : Nat) (s : ByteArray) (n : Int) (w : World) (hm : m ≤ 9223372036854775807) (hs : s.size ≤ 9223372036854775807) (h : ¬ (m = 16 ∧ s.size ≤ 32 ∧ 1 ≤ n ∧ n ≤ 64)) :
    Calls Tryz.prog 34 #[.slice ao m cap, .string s, .int .i64 n] w fun e w' => ∃ r, e = .returned r ∧ w'.ownsRow w.heap.size 5 1 r 0 (([] : List Int).map (Value.int .u8)) ∧ Below w.heap.size w w' := by
  by_cases a : m = 16
  · subst a
    by_cases b : s.size ≤ 32
    · by_cases c : 1 ≤ n
      · have d : 64 < n := by omega
        clear h
        go_enter Tryz.func34, Tryz.ntmps34
        go_wp2
        go_ret
        exact ⟨_, rfl, World.ownsRow_nil _ _ _ _, Below.refl _ _⟩
      · clear h
        go_enter Tryz.func34, Tryz.ntmps34
        go_wp2
        go_ret
        exact ⟨_, rfl, World.ownsRow_nil _ _ _ _, Below.refl _ _⟩
    · clear h
      go_enter Tryz.func34, Tryz.ntmps34
      go_wp2
      go_ret
      exact ⟨_, rfl, World.ownsRow_nil _ _ _ _, Below.refl _ _⟩
  · have a' : ((m : Int) != 16) = true := by simp; omega
    clear h
    go_enter Tryz.func34, Tryz.ntmps34
    go_wp2
    go_ret
    exact ⟨_, rfl, World.ownsRow_nil _ _ _ _, Below.refl _ _⟩

set_option maxRecDepth 20000 in
set_option maxHeartbeats 4000000 in
theorem implDer_ok (b off cap : Nat) (ss : List Int) (s : ByteArray) (n : Nat) (w : World) (hrow : Row w .u8 (.slice (some ⟨b, off, none⟩) 16 cap) ss) (hB : Bytes ss) (hl : ss.length = 16) (hs : s.size ≤ 32) (hn0 : 1 ≤ n) (hn : n ≤ 64) :
    Calls Tryz.prog 34 #[.slice (some ⟨b, off, none⟩) 16 cap, .string s, .int .i64 (n : Int)] w fun e w' => ∃ r, e = .returned r ∧ w'.ownsRow w.heap.size 5 1 r n ((drvV ss (lab s) n).map (Value.int .u8)) ∧ Below w.heap.size w w' := by
  obtain ⟨i0, hi, hz0, hz1, hz2⟩ := info_parts infoU8
  have HH : Hid _ := And.intro hrow (And.intro hB hl)
  have kc := fun (w : World) => run_bytes_of_string (P := Tryz.prog) w 9 22 5 s Tryz.underlying9 Tryz.underlying22 Tryz.underlying5
  clear hrow hB hl
  go_enter Tryz.func34, Tryz.ntmps34
  go_wp2_with (at_make; refine wpList_make_full _ rfl _ _ 22 rfl w.heap.size 5 i0 (.int .u8 0) 1 Tryz.underlying22 hi hz0 hz1 .i64 .i64 (n : Int) (n : Int) n rfl rfl rfl rfl (by rw [hz2]; omega) (by unfold maxLen; omega) (Nat.le_refl _) ?_; intro w1 hown hg)
  have H1 : Hid (w1.heap[w.heap.size]? = some (.cells (u8s (dOut ss (lab s) n 0)).toArray 5 (0, 0)) ∧ Below w.heap.size w w1) := by
    refine ⟨?_, (Below.refl _ _).grown hg (Nat.le_refl _) (by intro k hk; cases hk)⟩
    rw [dOut_0]
    exact owns_full (made_zero hown)
  clear hown hg
  go_loopw [32] (fun i wr => ∃ k : Nat, k ≤ 4 ∧ (16 * k < n + 16) ∧ i = .int .i64 (k : Int) ∧ wr.heap[w.heap.size]? = some (.cells (u8s (dOut ss (lab s) n k)).toArray 5 (0, 0)) ∧ Below w.heap.size w wr) (fun i _ => 5 - (intOf i).toNat)
  case atStart => exact ⟨0, by omega, by omega, rfl, H1.out.1, H1.out.2⟩
  case round =>
    obtain ⟨k, hk, hk2, rfl, hblk, hb⟩ := hrel
    have H2 : Hid _ := And.intro hblk hb
    clear hblk hb
    by_cases hlt : 16 * k < n
    · go_wp2_with fail
      go_at_call 32
      have hge := grownCap_ge wr s.size 0 5
      have hle := grownCap_le_maxLen wr s.size 0 5 (by unfold maxLen; omega)
      have BB : Below wr.heap.size wr (((wr.alloc (.cells (bytesRow s (grownCap wr s.size 0 5)) 5 ((bytesRow s (grownCap wr s.size 0 5)).size, (bytesRow s (grownCap wr s.size 0 5)).size + 1))).alloc (.cells #[.int .u8 (k : Int)] 5)).alloc (.cells #[.slice (some ⟨wr.heap.size, 0, none⟩) s.size (grownCap wr s.size 0 5), .slice (some ⟨wr.heap.size + 1, 0, none⟩) 1 1] 22)).drew := by
        have := (((Below.refl wr.heap.size wr).alloc (Nat.le_refl _) (.cells (bytesRow s (grownCap wr s.size 0 5)) 5 ((bytesRow s (grownCap wr s.size 0 5)).size, (bytesRow s (grownCap wr s.size 0 5)).size + 1))).alloc (by simp) (.cells #[.int .u8 (k : Int)] 5)).alloc (by simp; omega) (.cells #[.slice (some ⟨wr.heap.size, 0, none⟩) s.size (grownCap wr s.size 0 5), .slice (some ⟨wr.heap.size + 1, 0, none⟩) 1 1] 22)
        exact ⟨this.os, this.tape, this.output, this.size, this.block⟩
      refine (iparts _ _ ss [lab s, [(k : Int)]] _ (HH.out.1.below (H2.out.2.trans (BB.mono H2.out.2.size))) HH.out.2.1 (by rw [HH.out.2.2]; decide) (derParts wr s _ k hge hle) (bytes_getD2 (lab_bytes s) (by intro x hx; simp at hx; subst hx; omega)) (by simp [lab_length]; omega) (by simp)).mono ?_
      rintro e w2 ⟨rfl, b2⟩
      have ef : [lab s, [(k : Int)]].flatten = lab s ++ [(k : Int)] := by simp
      rw [ef]
      have hz : wr.heap.size ≤ w2.heap.size := Nat.le_trans BB.size b2.size
      have B2 : Hid (Below wr.heap.size wr w2) := BB.trans (b2.mono BB.size)
      have hz0' := H2.out.2.size
      have hzr : w.heap.size < wr.heap.size := (Array.getElem?_eq_some_iff.1 H2.out.1).1
      have hdl := digV_length ss (lab s ++ [(k : Int)])
      have ES : Hid _ := dOut_step ss (lab s) n k hlt
      obtain ⟨D, eD⟩ : ∃ D, D = digV ss (lab s ++ [(k : Int)]) := ⟨_, rfl⟩
      rw [← eD] at hdl ES ⊢
      have DL : Hid _ := And.intro hdl eD
      clear b2 BB ef hdl eD hge hle
      go_wp2_with (refine wpList_store_at rfl 61 (.tmp 9) (.tmp 42) rfl w2.heap.size _ rfl rfl 61 _ (MapKept.heap_alloc w2 _).1 (infoBs _ DL.out.1) (by simp [u8s_length, DL.out.1]) (u8s_all _) ?_; intro w3 h3 n3)
      have o3 : w3.heap[w.heap.size]? = some (.cells (u8s (dOut ss (lab s) n k)).toArray 5 (0, 0)) := by
        rw [n3.block _ (by simp; omega), Below.heap_alloc w2 _ _ (by omega), B2.out.block _ hzr]
        exact H2.out.1
      have B3 : Hid (Below w.heap.size w w3) := ((H2.out.2.trans (B2.out.mono H2.out.2.size)).alloc (by omega) _).trans (n3.below (by omega))
      have H3 : Hid _ := And.intro o3 (row_full h3 DL.out.1 (by decide))
      have hm : min 16 (n - 16 * k) = Nat.min 16 (n - 16 * k) := rfl
      clear n3 o3 h3
      have ew : IntKind.i64.wrap ((k : Int) * 16) = 16 * (k : Int) := by rw [IntKind.wrap_i64]; omega
      have hin0 : 0 ≤ 16 * (k : Int) := by omega
      have hin1 : 16 * (k : Int) ≤ (n : Int) := by omega
      have hto : (16 * (k : Int)).toNat = 16 * k := by omega
      have hne : ¬ n = 16 * k := by omega
      go_wp2_with fail
      go_region_law (refine step_copy_at rfl (.tmp 46) (.tmp 47) 22 22 rfl 5 Tryz.underlying22 infoU8s w.heap.size (16 * k) (n - 16 * k) (n - 16 * k) _ rfl rfl D (H3.out.2.drewN 1) (by rw [DL.out.1]; decide) (dOut ss (lab s) n k) 5 H3.out.1 (min 16 (n - 16 * k)) (by rw [DL.out.1]) (by rw [dOut_length]; omega) ?_; intro w4 h4 n4)
      rw [ES.out] at h4
      have H4 : Hid _ := And.intro h4 (B3.out.trans (Only.below (g := w.heap.size) (w := w3) ⟨n4.os, n4.tape, n4.output, n4.size, n4.block⟩ (Nat.le_refl _)))
      clear h4 n4
      go_wp2
      go_roundw
      case rel => exact ⟨k + 1, by omega, by omega, by go_num, H4.out.1, H4.out.2⟩
      case measure => simp [intOf]; omega
    · go_wp2
      go_ret
      have h := H2.out.1
      rw [dOut_end ss (lab s) n k (by omega) hk] at h
      exact ⟨_, rfl, owns_of_full h (Nat.le_refl _) (drvV_length _ _ _ hn) (by unfold maxLen; omega), H2.out.2⟩

theorem implDerive (v : Value) (ss : List Int) (s : ByteArray) (n : Int) (w : World) (hrow : Row w .u8 v ss) (hB : Bytes ss) (hl : ss.length ≤ 9223372036854775807) (hs : s.size ≤ 9223372036854775807) :
    Calls Tryz.prog 34 #[v, .string s, .int .i64 n] w fun e w' => ∃ r, e = .returned r ∧ w'.ownsRow w.heap.size 5 1 r (derV ss s n).length ((derV ss s n).map (Value.int .u8)) ∧ Below w.heap.size w w' := by
  by_cases h : ss.length = 16 ∧ s.size ≤ 32 ∧ 1 ≤ n ∧ n ≤ 64
  · obtain ⟨b, off, cap, rfl, hb⟩ := hrow.at (by omega)
    have e : derV ss s n = drvV ss (lab s) n.toNat := if_pos h
    obtain ⟨m, rfl⟩ : ∃ m : Nat, n = m := ⟨n.toNat, by omega⟩
    rw [e, drvV_length _ _ _ (by omega)]
    rw [h.1] at hrow ⊢
    exact implDer_ok b off cap ss s m w hrow hB h.1 h.2.1 (by omega) (by omega)
  · obtain ⟨ao, cap, rfl⟩ := hrow.form
    have e : derV ss s n = [] := if_neg h
    rw [e]
    exact implDer_bad ao _ cap s n w hl hs h
end Go.Proofs.YteggfkekgdlecaaGreatDoor

namespace Go.Proofs.YteggfkekgdlecaaGreatDoor
open Go.RowKit
set_option linter.unusedVariables false

theorem infoU8c : (Tryz.prog.info? 5).map (fun i => (i.zero, i.size, i.bytes)) = some (some (.int .u8 0), 1, 1) := by kernel_rfl
/-- What a copy of a text that is not empty does, step by step: room is made, the bytes go over, and the room becomes a text. -/
theorem clone_runs (s : ByteArray) (w : World) (h0 : 0 < s.size) (h : s.size ≤ 1048576) :
    ∃ (M : Array Value) (w2 w3 : World),
      (∀ W : World, (Instr.makeSlice 22 (.int .i64 (s.size : Int)) (.int .i64 (s.size : Int))).run Tryz.prog W = .ok (.slice (some ⟨W.heap.size, 0, none⟩) s.size s.size) (W.alloc (.cells M 5))) ∧
      (Builtin.copy_ #[22, 9] 3 #[.slice (some ⟨w.heap.size, 0, none⟩) s.size s.size, .string s]).run Tryz.prog (w.alloc (.cells M 5)) = .ok (goInt s.size) w2 ∧
      (Builtin.unsafeString_ #[107, 3] 9 #[.pointer (some ⟨w.heap.size, 0, none⟩), .int .i64 s.size]).run Tryz.prog w2 = .ok (.string s) w3 ∧
      Below w.heap.size w w3 := by
  obtain ⟨i, hi, hz, hsz, hby⟩ := info_parts infoU8c
  have one : (Tryz.prog.info? 5).map (·.size) = some 1 := by rw [hi]; simp [hsz]
  have cell1 : Tryz.prog.cellsOf 5 = 1 := by kernel_rfl
  have len : s.data.toList.length = s.size := (Lib.size_eq s).symm
  obtain ⟨M, eM⟩ : ∃ M, M = madeCells (Value.int .u8 0).cells s.size := ⟨_, rfl⟩
  have mk : ∀ W : World, (Instr.makeSlice 22 (.int .i64 (s.size : Int)) (.int .i64 (s.size : Int))).run Tryz.prog W = .ok (.slice (some ⟨W.heap.size, 0, none⟩) s.size s.size) (W.alloc (.cells M 5)) := by
    intro W
    have r := run_make (P := Tryz.prog) W 22 5 i (.int .u8 0) Tryz.underlying22 hi hz .i64 .i64 (s.size : Int) (s.size : Int) (by omega) (Int.le_refl _) (by rw [hby]; omega) (by omega)
    rw [hsz] at r
    rw [eM]
    simpa using r
  have zM : M.size = s.size := by rw [eM, size_madeCells]
  have new := (MapKept.heap_alloc w (.cells M 5)).1
  have cp := Lib.run_copy_row_string (P := Tryz.prog) (w.alloc (.cells M 5)) 22 9 3 5 w.heap.size 0 s.size s.size s M 5 Tryz.underlying22 one new (Nat.le_refl _) (by omega)
  have all : (M.toList.take 0 ++ Lib.byteCells s.data.toList ++ M.toList.drop (0 + s.size)).toArray = (Lib.byteCells s.data.toList).toArray := by
    rw [List.take_zero, List.nil_append, List.drop_of_length_le (by rw [Array.length_toList]; omega), List.append_nil]
  rw [all] at cp
  have row := setRow_heap (w.alloc (.cells M 5)) w.heap.size M (Lib.byteCells s.data.toList).toArray 5 (0, 0) new
  have tx := Lib.run_unsafeString_row (P := Tryz.prog) ((w.alloc (.cells M 5)).setRow w.heap.size (Lib.byteCells s.data.toList).toArray) 107 3 9 5 Tryz.underlying107 cell1 w.heap.size s.size
    (by unfold World.shape?; rw [row]; simp [Lib.byteCells_length, len]) s.data.toList (fun e => by rw [e] at len; simp at len; omega) (by omega) (by omega)
    (fun j x hx => Lib.cells_of_row row s.size j _ (by
      have hj : j < s.data.toList.length := (List.getElem?_eq_some_iff.1 hx).1
      rw [List.take_of_length_le (by simp [Lib.byteCells_length, len])]
      simp only [Lib.byteCells, List.getElem?_map, hx, Option.map_some]))
  rw [len] at tx
  have b1 : Below w.heap.size w (w.alloc (.cells M 5)) := (Below.refl _ w).alloc (Nat.le_refl _) _
  have b2 : Below w.heap.size (w.alloc (.cells M 5)) ((w.alloc (.cells M 5)).setRow w.heap.size (Lib.byteCells s.data.toList).toArray) := ⟨rfl, rfl, rfl, by simp, fun k hk => setRow_other _ _ _ _ (by omega)⟩
  exact ⟨M, _, _, mk, cp, tx, Lib.below_freeze (b1.trans b2) (p := ⟨w.heap.size, 0, none⟩) (Nat.le_refl _) _⟩
theorem cloneL (s : ByteArray) (w : World) (h : s.size ≤ 1048576) : Calls Tryz.prog 63 #[.string s] w fun e w' => e = .returned (.string s) ∧ Below w.heap.size w w' := by
  by_cases h0 : s.size = 0
  · obtain rfl : s = ⟨#[]⟩ := ByteArray.ext (Array.eq_empty_of_size_eq_zero h0)
    go_enter Tryz.func63, Tryz.ntmps63
    go_wp2
    go_ret
    exact ⟨rfl, Below.refl _ _⟩
  · obtain ⟨M, w2, w3, r1, r2, r3, b⟩ := clone_runs s w (by omega) h
    have HB : Hid _ := And.intro b True.intro
    clear b
    have hz : ¬ (s.size : Int) = 0 := by omega
    have hne : ((s.size : Int) == 0) = false := by simpa using hz
    have hpos : 0 < s.size := by omega
    go_enter Tryz.func63, Tryz.ntmps63
    go_wp2
    go_ret
    exact ⟨rfl, HB.out.1⟩
theorem cloneC (s : ByteArray) (w : World) (h : s.size ≤ 1048576) : Calls Tryz.prog 33 #[.string s] w fun e w' => e = .returned (.string s) ∧ Below w.heap.size w w' := by
  have C := cloneL s w h
  have H : Hid _ := And.intro C True.intro
  clear C
  go_enter Tryz.func33, Tryz.ntmps33
  go_wp2_with (go_at_call 63; refine H.out.1.mono ?_; rintro e w1 ⟨rfl, b1⟩; have H1 : Hid _ := And.intro b1 True.intro; clear b1)
  go_ret
  exact ⟨rfl, H1.out.1⟩
end Go.Proofs.YteggfkekgdlecaaGreatDoor
