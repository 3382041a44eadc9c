import Derived.Test.YtkpmdcmgcdnpfaaIPart
import Derived.Test.YtkpmdcmgcdnpfaaSealS
import Derived.Great.BuildSlice
namespace Go.Proofs.Ytkpmdcmgcdnpfaa
open Go.RowKit
set_option linter.unusedVariables false

theorem list16 (A : List Int) (h : A.length = 16) : ∃ a0 a1 a2 a3 a4 a5 a6 a7 a8 a9 a10 a11 a12 a13 a14 a15 : Int, A = [a0, a1, a2, a3, a4, a5, a6, a7, a8, a9, a10, a11, a12, a13, a14, a15] := by
  obtain ⟨a0, A, rfl⟩ : ∃ x t, A = x :: t := List.exists_cons_of_length_pos (by omega)
  simp only [List.length_cons] at h
  obtain ⟨a1, A, rfl⟩ : ∃ x t, A = x :: t := List.exists_cons_of_length_pos (by omega)
  simp only [List.length_cons] at h
  obtain ⟨a2, A, rfl⟩ : ∃ x t, A = x :: t := List.exists_cons_of_length_pos (by omega)
  simp only [List.length_cons] at h
  obtain ⟨a3, A, rfl⟩ : ∃ x t, A = x :: t := List.exists_cons_of_length_pos (by omega)
  simp only [List.length_cons] at h
  obtain ⟨a4, A, rfl⟩ : ∃ x t, A = x :: t := List.exists_cons_of_length_pos (by omega)
  simp only [List.length_cons] at h
  obtain ⟨a5, A, rfl⟩ : ∃ x t, A = x :: t := List.exists_cons_of_length_pos (by omega)
  simp only [List.length_cons] at h
  obtain ⟨a6, A, rfl⟩ : ∃ x t, A = x :: t := List.exists_cons_of_length_pos (by omega)
  simp only [List.length_cons] at h
  obtain ⟨a7, A, rfl⟩ : ∃ x t, A = x :: t := List.exists_cons_of_length_pos (by omega)
  simp only [List.length_cons] at h
  obtain ⟨a8, A, rfl⟩ : ∃ x t, A = x :: t := List.exists_cons_of_length_pos (by omega)
  simp only [List.length_cons] at h
  obtain ⟨a9, A, rfl⟩ : ∃ x t, A = x :: t := List.exists_cons_of_length_pos (by omega)
  simp only [List.length_cons] at h
  obtain ⟨a10, A, rfl⟩ : ∃ x t, A = x :: t := List.exists_cons_of_length_pos (by omega)
  simp only [List.length_cons] at h
  obtain ⟨a11, A, rfl⟩ : ∃ x t, A = x :: t := List.exists_cons_of_length_pos (by omega)
  simp only [List.length_cons] at h
  obtain ⟨a12, A, rfl⟩ : ∃ x t, A = x :: t := List.exists_cons_of_length_pos (by omega)
  simp only [List.length_cons] at h
  obtain ⟨a13, A, rfl⟩ : ∃ x t, A = x :: t := List.exists_cons_of_length_pos (by omega)
  simp only [List.length_cons] at h
  obtain ⟨a14, A, rfl⟩ : ∃ x t, A = x :: t := List.exists_cons_of_length_pos (by omega)
  simp only [List.length_cons] at h
  obtain ⟨a15, A, rfl⟩ : ∃ x t, A = x :: t := List.exists_cons_of_length_pos (by omega)
  simp only [List.length_cons] at h
  obtain rfl : A = [] := List.eq_nil_of_length_eq_zero (by omega)
  exact ⟨a0, a1, a2, a3, a4, a5, a6, a7, a8, a9, a10, a11, a12, a13, a14, a15, rfl⟩
theorem list8 (A : List Int) (h : A.length = 8) : ∃ a0 a1 a2 a3 a4 a5 a6 a7 : Int, A = [a0, a1, a2, a3, a4, a5, a6, a7] := by
  obtain ⟨a0, A, rfl⟩ : ∃ x t, A = x :: t := List.exists_cons_of_length_pos (by omega)
  simp only [List.length_cons] at h
  obtain ⟨a1, A, rfl⟩ : ∃ x t, A = x :: t := List.exists_cons_of_length_pos (by omega)
  simp only [List.length_cons] at h
  obtain ⟨a2, A, rfl⟩ : ∃ x t, A = x :: t := List.exists_cons_of_length_pos (by omega)
  simp only [List.length_cons] at h
  obtain ⟨a3, A, rfl⟩ : ∃ x t, A = x :: t := List.exists_cons_of_length_pos (by omega)
  simp only [List.length_cons] at h
  obtain ⟨a4, A, rfl⟩ : ∃ x t, A = x :: t := List.exists_cons_of_length_pos (by omega)
  simp only [List.length_cons] at h
  obtain ⟨a5, A, rfl⟩ : ∃ x t, A = x :: t := List.exists_cons_of_length_pos (by omega)
  simp only [List.length_cons] at h
  obtain ⟨a6, A, rfl⟩ : ∃ x t, A = x :: t := List.exists_cons_of_length_pos (by omega)
  simp only [List.length_cons] at h
  obtain ⟨a7, A, rfl⟩ : ∃ x t, A = x :: t := List.exists_cons_of_length_pos (by omega)
  simp only [List.length_cons] at h
  obtain rfl : A = [] := List.eq_nil_of_length_eq_zero (by omega)
  exact ⟨a0, a1, a2, a3, a4, a5, a6, a7, rfl⟩
theorem built_seal0 (b0 b1 b2 b3 b4 b5 b6 b7 b8 b9 b10 b11 b12 b13 b14 b15 c0 c1 c2 c3 c4 c5 c6 c7 : Value) : Try.prog.built 59 [(0, .agg #[b0, b1, b2, b3, b4, b5, b6, b7, b8, b9, b10, b11, b12, b13, b14, b15]), (1, .agg #[c0, c1, c2, c3, c4, c5, c6, c7])] = some #[b0, b1, b2, b3, b4, b5, b6, b7, b8, b9, b10, b11, b12, b13, b14, b15, c0, c1, c2, c3, c4, c5, c6, c7] := by kernel_rfl
theorem built_seal (A B : List Int) (hA : A.length = 16) (hB : B.length = 8) : Try.prog.built 59 [(0, .agg (u8s A).toArray), (1, .agg (u8s B).toArray)] = some (u8s (A ++ B)).toArray := by
  obtain ⟨b0, b1, b2, b3, b4, b5, b6, b7, b8, b9, b10, b11, b12, b13, b14, b15, rfl⟩ := list16 A hA
  obtain ⟨c0, c1, c2, c3, c4, c5, c6, c7, rfl⟩ := list8 B hB
  exact built_seal0 (.int .u8 b0) (.int .u8 b1) (.int .u8 b2) (.int .u8 b3) (.int .u8 b4) (.int .u8 b5) (.int .u8 b6) (.int .u8 b7) (.int .u8 b8) (.int .u8 b9) (.int .u8 b10) (.int .u8 b11) (.int .u8 b12) (.int .u8 b13) (.int .u8 b14) (.int .u8 b15) (.int .u8 c0) (.int .u8 c1) (.int .u8 c2) (.int .u8 c3) (.int .u8 c4) (.int .u8 c5) (.int .u8 c6) (.int .u8 c7)
theorem infoP24 : (Try.prog.info? 59).map (·.size) = some 24 := by kernel_rfl
theorem infoPs (xs : List Int) (h : xs.length = 24) : (Try.prog.info? 59).map (·.size) = some (u8s xs).toArray.size := by rw [infoP24]; simp [u8s_length, h]
abbrev Z24 : Obj := .cells (u8s (List.replicate 24 0)).toArray 59 (0, 0)

/-- The nonce behind i rounds. -/
def nst (c d : List Int) (i : Nat) : List Int := xl c d i ++ c.drop i
theorem nst_length (c d : List Int) (i : Nat) (h : i ≤ c.length) : (nst c d i).length = c.length := by simp [nst, xl_length]; omega
theorem nst_at (c d : List Int) (i : Nat) (h : i < c.length) : (nst c d i).getD i 0 = c.getD i 0 := by
  simp [nst, List.getD, List.getElem?_append_right, xl_length]
theorem nst_set (c d : List Int) (i : Nat) (h : i < c.length) : (nst c d i).set i (bits .xor .u8 (c.getD i 0) (d.getD i 0)) = nst c d (i + 1) := by
  unfold nst
  rw [xl_succ, List.set_append_right _ _ (by rw [xl_length]; omega), xl_length, Nat.sub_self, List.append_assoc]
  congr 1
  rw [List.drop_eq_getElem_cons h]
  rfl
theorem nst_end (c d : List Int) : nst c d c.length = xl c d c.length := by simp [nst]
theorem u8s_get (xs : List Int) (i : Nat) (h : i < xs.length) : (u8s xs).toArray[i]? = some (.int .u8 (xs.getD i 0)) := by
  simp [u8s, List.getD, h]
theorem set_u8s (xs : List Int) (i : Nat) (x : Int) : (u8s xs).toArray.setIfInBounds i (.int .u8 x) = (u8s (xs.set i x)).toArray := by
  simp [u8s, List.map_set]
theorem set_right (A B : List Int) (n i : Nat) (x : Int) (h : A.length = n) : (A ++ B).set (n + i) x = A ++ B.set i x := by
  rw [List.set_append_right _ _ (by omega), h, Nat.add_sub_cancel_left]
theorem getD_right (A B : List Int) (n i : Nat) (h : A.length = n) : (A ++ B).getD (n + i) 0 = B.getD i 0 := by
  simp [List.getD, List.getElem?_append_right, h]

/-- packet's blocks: the variable, the answer's room, the keys. -/
abbrev BkP (h : Nat) (k : K4) (d : List Int) (i : Nat) : List (Nat × Obj) :=
  [(h + 2, .cells (u8s (k.b ++ nst k.c d i)).toArray 59 (0, 0)), (h + 1, Z24), (h, .cells (u8s (inL k)).toArray 55 (0, 0))]

set_option maxRecDepth 20000 in
set_option maxHeartbeats 8000000 in
theorem packet_ok (k : K4) (num : Int) (w : World) (hk : kok k) (h0 : 0 ≤ num) (h1 : num ≤ 4611686018427387903) :
    Calls Try.prog 35 #[.agg (u8s (inL k)).toArray, .int .i64 num] w fun e w' => e = .returned (.agg (u8s (k.b ++ nonV k num)).toArray) ∧ Below w.heap.size w w' := by
  have B0 : Book _ [(w.heap.size + 1, Z24), (w.heap.size, _)] := book_new2 w (.cells (u8s (inL k)).toArray 55 (0, 0)) Z24
  have C0 : Below w.heap.size w ((w.alloc (.cells (u8s (inL k)).toArray 55 (0, 0))).alloc Z24) := ((Below.refl _ _).alloc (Nat.le_refl _) _).alloc (by simp) _
  have HH : Hid _ := And.intro B0 (And.intro C0 (And.intro hk (And.intro (inL_length k hk) (And.intro (built_seal k.b k.c hk.2.1 hk.2.2.1) (show (k.b ++ k.c).length = 24 by rw [List.length_append, hk.2.1, hk.2.2.1])))))
  clear B0 C0 hk
  go_enter Try.func35, Try.ntmps35
  go_wp2_with (first
    | (refine wpList_load_part rfl 52 (.tmp 8) rfl w.heap.size 16 16 rfl 55 (inL k) (0, 0) _ (HH.out.1.blk _ _ (List.mem_cons_of_mem _ (List.mem_cons_self ..))) (by rw [HH.out.2.2.2.1]; decide) Try.underlying52 rfl infoA16 k.b (inL_b k HH.out.2.2.1) ?_)
    | (refine wpList_load_part rfl 53 (.tmp 10) rfl w.heap.size 48 8 rfl 55 (inL k) (0, 0) _ (HH.out.1.blk _ _ (List.mem_cons_of_mem _ (List.mem_cons_self ..))) (by rw [HH.out.2.2.2.1]; decide) Try.underlying53 rfl infoA8 k.c (inL_c k HH.out.2.2.1) ?_)
    | (refine wpList_buildTo rfl 59 _ rfl _ rfl (u8s (k.b ++ k.c)).toArray (by simp [go_sem, HH.out.2.2.2.2.1]) ?_)
    | (refine wpList_store_at rfl 59 (.tmp 5) (.tmp 12) rfl (w.heap.size + 2) _ rfl rfl 59 (u8s (List.replicate 24 0)).toArray ((book_new3 w (.cells (u8s (inL k)).toArray 55 (0, 0)) Z24 Z24).blk _ _ (List.mem_cons_self ..)) (infoPs _ HH.out.2.2.2.2.2) (by simp [u8s_length, HH.out.2.2.2.2.2]) (u8s_all _) ?_; intro w1 h2 m1))
  go_at_call 18
  have B1 : Book w1 (BkP w.heap.size k (be num 8) 0) := (book_new3 w (.cells (u8s (inL k)).toArray 55 (0, 0)) Z24 Z24).turn m1 h2 (by intro b o hm; simp only [List.mem_cons, Prod.mk.injEq, List.not_mem_nil, or_false] at hm; omega)
  have C1 : Below w.heap.size w w1 := (below3 w (.cells (u8s (inL k)).toArray 55 (0, 0)) Z24 Z24).trans (m1.below (by omega))
  have H1 : Hid _ := And.intro B1 C1
  clear B1 C1 h2 m1
  refine (high num 8 w1 h0 (by omega) (by decide)).mono ?_
  rintro e w2 ⟨r, rfl, o2, b2⟩
  have eh := be_length num 8
  obtain ⟨g, cap, er, hg1, hg2⟩ := owns_shape o2 (by decide)
  subst er
  have H2 : Hid _ := And.intro (H1.out.1.below b2) (And.intro (H1.out.2.trans (b2.mono H1.out.2.size)) o2)
  have z1 : w.heap.size + 2 < w1.heap.size := H1.out.1.lt (List.mem_cons_self ..)
  clear o2 b2 eh
  go_wp2_with fail
  go_loopw [17] (fun i wr => ∃ j : Nat, j ≤ 8 ∧ i = .int .i64 (j : Int) ∧ Book wr (BkP w.heap.size k (be num 8) j) ∧ Below w.heap.size w wr ∧ wr.ownsRow w1.heap.size 5 1 (.slice (some ⟨g, 0, none⟩) 8 cap) 8 ((be num 8).map (Value.int .u8))) (fun i _ => 8 - (intOf i).toNat)
  case atStart => exact ⟨0, by omega, rfl, H2.out.1, H2.out.2.1, H2.out.2.2⟩
  case round =>
    obtain ⟨j, hj, rfl, bk, bl, ow⟩ := hrel
    by_cases hlt : j < 8
    · have c1 := owns_cell ow (be_length num 8) hlt
      have hb := bk.blk _ _ (List.mem_cons_self ..)
      have hcl : k.c.length = 8 := HH.out.2.2.1.2.2.1
      have hbl : k.b.length = 16 := HH.out.2.2.1.2.1
      have c2 : wr.cell? ⟨w.heap.size + 2, 16 + j, none⟩ = some (.int .u8 (k.c.getD j 0)) := by
        rw [blkS_cell hb]
        have : 16 + j < (k.b ++ nst k.c (be num 8) j).length := by rw [List.length_append, hbl, nst_length _ _ _ (by omega)]; omega
        rw [← nst_at k.c (be num 8) j (by omega), ← getD_right k.b _ 16 j hbl]
        exact u8s_get _ _ this
      have f2 := blkS_free hb (16 + j)
      have HE : Hid _ := nst_set k.c (be num 8) j (by omega)
      have H3 : Hid _ := And.intro bk (And.intro bl (And.intro ow (And.intro hbl hcl)))
      clear bk bl ow hb hcl hbl
      generalize k.c.getD j 0 = x at c2 HE
      generalize (be num 8).getD j 0 = y at c1 HE
      go_wp2
      go_roundw
      case rel =>
        refine ⟨j + 1, by omega, by go_num, ?_, ?_, ?_⟩
        · refine H3.out.1.turn (Only.setCell (w := wr) ⟨w.heap.size + 2, 16 + j, none⟩ _) ?_ (by intro b o hm; simp only [List.mem_cons, Prod.mk.injEq, List.not_mem_nil, or_false] at hm; omega)
          rw [blkS_setCell (H3.out.1.blk _ _ (List.mem_cons_self ..)), set_u8s, set_right _ _ 16 j _ H3.out.2.2.2.1, HE.out]
        · exact H3.out.2.1.setCell (by simp; omega) _
        · exact (Only.setCell (w := wr) ⟨w.heap.size + 2, 16 + j, none⟩ _).owns H3.out.2.2.1 (fun q hq e => by cases hq; simp at e; omega)
      case measure => simp [intOf]; omega
    · obtain rfl : j = 8 := by omega
      have H3 : Hid _ := And.intro bk bl
      have e8 : k.b ++ nst k.c (be num 8) 8 = k.b ++ nonV k num := by
        have := nst_end k.c (be num 8)
        rw [HH.out.2.2.1.2.2.1] at this
        rw [this]
        unfold nonV
        rw [HH.out.2.2.1.2.2.1]
      have l8 : (k.b ++ nst k.c (be num 8) 8).length = 24 := by rw [e8, List.length_append, nonV_length, HH.out.2.2.1.2.1, HH.out.2.2.1.2.2.1]
      have HE : Hid _ := And.intro e8 l8
      clear bk bl ow e8 l8
      go_wp2_with (first
        | (refine wpList_load_row rfl 59 (.tmp 5) rfl (w.heap.size + 2) rfl 59 _ (0, 0) _ (H3.out.1.blk _ _ (List.mem_cons_self ..)) Try.underlying59 rfl (infoPs _ HE.out.2) ?_)
        | (refine wpList_store_at rfl 59 (.tmp 4) (.tmp 31) rfl (w.heap.size + 1) _ rfl rfl 59 (u8s (List.replicate 24 0)).toArray (H3.out.1.blk _ _ (List.mem_cons_of_mem _ (List.mem_cons_self ..))) (infoPs _ HE.out.2) (by simp [u8s_length, HE.out.2]) (u8s_all _) ?_; intro w6 h6 m6))
      try simp only [Exit.inBlock, Exit.then]
      refine bodyPost_ret (v := .agg (u8s (k.b ++ nst k.c (be num 8) 8)).toArray) ?_ rfl ?_
      · exact results_cell_row (t := 59) rfl _ _ (w.heap.size + 1) _ (fr := (0, 0)) _ rfl h6 Try.underlying59 rfl (infoPs _ HE.out.2)
      · exact ⟨by rw [HE.out.1], H3.out.2.trans (m6.below (by omega))⟩
end Go.Proofs.Ytkpmdcmgcdnpfaa
