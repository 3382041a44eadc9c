import Derived.Test.YtjdmknlcjejecaaIDig
import Derived.Test.YtjdmknlcjejecaaBlocks
namespace Go.Proofs.Ytjdmknlcjejecaa
open Go.RowKit
set_option linter.unusedVariables false

def S4.byts (s : S4) : List Int := be s.a 4 ++ (be s.b 4 ++ (be s.c 4 ++ be s.d 4))
theorem byts_length (s : S4) : s.byts.length = 16 := by simp [S4.byts, be_length]
theorem byts_digV (ks ds : List Int) : (digS ks ds).byts = digV ks ds := by simp [S4.byts, digV]
def outL (s : S4) : Nat → List Int
  | 0 => List.replicate 16 0
  | 1 => be s.a 4 ++ List.replicate 12 0
  | 2 => be s.a 4 ++ (be s.b 4 ++ List.replicate 8 0)
  | 3 => be s.a 4 ++ (be s.b 4 ++ (be s.c 4 ++ List.replicate 4 0))
  | _ => s.byts
theorem outL_length (s : S4) (k : Nat) : (outL s k).length = 16 := by
  match k with
  | 0 => simp [outL]
  | 1 => simp [outL, be_length]
  | 2 => simp [outL, be_length]
  | 3 => simp [outL, be_length]
  | n + 4 => simp [outL, byts_length]
theorem outL_0 (s : S4) : splice (outL s 0) 0 ((be s.a 4).take 4) = outL s 1 := by simp [outL, splice, be]
theorem outL_1 (s : S4) : splice (outL s 1) 4 ((be s.b 4).take 4) = outL s 2 := by simp [outL, splice, be]
theorem outL_2 (s : S4) : splice (outL s 2) 8 ((be s.c 4).take 4) = outL s 3 := by simp [outL, splice, be]
theorem outL_3 (s : S4) : splice (outL s 3) 12 ((be s.d 4).take 4) = outL s 4 := by simp [outL, splice, be, S4.byts]
theorem infoU8s : (Try.prog.info? 5).map (·.size) = some 1 := by kernel_rfl
theorem infoB16 : (Try.prog.info? 40).map (·.size) = some 16 := by kernel_rfl
theorem infoBs (xs : List Int) (h : xs.length = 16) : (Try.prog.info? 40).map (·.size) = some (u8s xs).toArray.size := by rw [infoB16]; simp [u8s_length, h]
theorem zeros16 : (#[.int .u8 0, .int .u8 0, .int .u8 0, .int .u8 0, .int .u8 0, .int .u8 0, .int .u8 0, .int .u8 0, .int .u8 0, .int .u8 0, .int .u8 0, .int .u8 0, .int .u8 0, .int .u8 0, .int .u8 0, .int .u8 0] : Array Value) = (u8s (List.replicate 16 0)).toArray := rfl

theorem book_new2 (w : World) (o1 o2 : Obj) : Book ((w.alloc o1).alloc o2) [(w.heap.size + 1, o2), (w.heap.size, o1)] := by
  refine ⟨fun b o hm => ?_⟩
  rcases List.mem_cons.1 hm with e | hm
  · cases e
    exact (bk_new2 w o1 o2).2
  · simp only [List.mem_singleton, Prod.mk.injEq] at hm
    obtain ⟨rfl, rfl⟩ := hm
    exact (bk_new2 w o o2).1
/-- A book of which one block has turned. -/
theorem Book.turn {wx w' : World} {g : Nat} {o o' : Obj} {L : List (Nat × Obj)} (h : Book wx ((g, o) :: L)) (hc : Only (some g) wx w') (hn : w'.heap[g]? = some o') (hs : ∀ b o, (b, o) ∈ L → b ≠ g) : Book w' ((g, o') :: L) := by
  refine ⟨fun b u hm => ?_⟩
  rcases List.mem_cons.1 hm with e | hm
  · cases e
    exact hn
  · exact (hc.block b (fun e => hs b u hm (by cases e; rfl))).trans (h.blk b u (List.mem_cons_of_mem _ hm))

/-- The two blocks of block(): the answer's room and the variable. -/
abbrev BkB (h : Nat) (s : S4) (k : Nat) : List (Nat × Obj) := [(h + 1, .cells (u8s (outL s k)).toArray 40 (0, 0)), (h, .cells (u8s (List.replicate 16 0)).toArray 40 (0, 0))]

set_option maxRecDepth 20000 in
set_option maxHeartbeats 4000000 in
theorem iblock (g : Nat) (s : S4) (hs : s.ok) (w : World)
    (hb : w.heap[g]? = some (.cells #[.int .u32 s.a, .int .u32 s.b, .int .u32 s.c, .int .u32 s.d] 49 (0, 0))) :
    Calls Try.prog 30 #[.pointer (some ⟨g, 0, none⟩)] w fun e w' => e = .returned (.agg (u8s s.byts).toArray) ∧ Below w.heap.size w w' := by
  have hlt : g < w.heap.size := (Array.getElem?_eq_some_iff.1 hb).1
  have HB : Hid _ := And.intro hb hs
  clear hb hs
  go_enter Try.func30, Try.ntmps30
  go_wp2
  go_loopw [7] (fun i wr => ∃ k : Nat, k ≤ 4 ∧ i = .int .i64 (k : Int) ∧ Book wr (BkB w.heap.size s k) ∧ Below w.heap.size w wr) (fun i _ => 4 - (intOf i).toNat)
  case atStart =>
    refine ⟨0, by omega, rfl, ?_, ((Below.refl _ _).alloc (Nat.le_refl _) _).alloc (by simp) _⟩
    rw [zeros16]
    exact book_new2 w _ _
  case round =>
    obtain ⟨k, hk, rfl, bk, bl⟩ := hrel
    have st : StI g w w s := ⟨HB.out.1, Only.refl _ _⟩
    obtain ⟨c0, c1, c2, c3⟩ := st.cells
    clear st
    by_cases hlt4 : k < 4
    · rcases (show k = 0 ∨ k = 1 ∨ k = 2 ∨ k = 3 by omega) with rfl | rfl | rfl | rfl
      · have cx := (bl.cell (p := ⟨g, 0, none⟩) hlt).trans c0
        have H1 : Hid _ := And.intro bk bl
        have hx := HB.out.2.1
        obtain ⟨hx0, hx1⟩ := hx
        clear bk bl c0 c1 c2 c3
        have es := outL_0 s
        have HE : Hid _ := es
        clear es
        generalize s.a = x at cx hx0 hx1 HE
        go_upto_region 5 with (go_quiet (fail))
        have ew : IntKind.i64.wrap 0 = 0 := by decide
        have ex : IntKind.u64.wrap x = x := by rw [IntKind.wrap_u64]; omega
        go_region_law (first
          | (go_simp; go_at_call 31; refine (high x 4 _ (by omega) (by omega) (by decide)).mono ?_; rintro e w1 ⟨r, rfl, o1, b1⟩)
          | (refine step_copy_at rfl (.tmp 15) (.tmp 18) 22 22 rfl 5 Try.underlying22 infoU8s (w.heap.size + 1) (0) (16 - 0) (16 - 0) _ rfl rfl _ (row_of_owns o1) (by rw [be_length]; decide) (outL s 0) 40 (((H1.out.1.drewN _).below b1).blk _ _ (by simp)) 4 (by rw [be_length]; rfl) (by rw [outL_length]; decide) ?_; intro w2 h2 n2))
        all_goals
          rw [HE.out] at h2
          have H2 : Hid _ := And.intro (((H1.out.1.drewN _).below b1).turn n2 h2 (by intro b o hm; simp at hm; omega)) (((below_drewN H1.out.2 _).trans (b1.mono H1.out.2.size)).trans (n2.below (by omega)))
          clear h2 n2 o1 b1 cx
          go_wp2
          go_roundw
          case rel => exact ⟨0 + 1, by decide, rfl, H2.out.1, H2.out.2⟩
          case measure => simp [intOf]
      · have cx := (bl.cell (p := ⟨g, 1, none⟩) hlt).trans c1
        have H1 : Hid _ := And.intro bk bl
        have hx := HB.out.2.2.1
        obtain ⟨hx0, hx1⟩ := hx
        clear bk bl c0 c1 c2 c3
        have es := outL_1 s
        have HE : Hid _ := es
        clear es
        generalize s.b = x at cx hx0 hx1 HE
        go_upto_region 5 with (go_quiet (fail))
        have ew : IntKind.i64.wrap 4 = 4 := by decide
        have ex : IntKind.u64.wrap x = x := by rw [IntKind.wrap_u64]; omega
        go_region_law (first
          | (go_simp; go_at_call 31; refine (high x 4 _ (by omega) (by omega) (by decide)).mono ?_; rintro e w1 ⟨r, rfl, o1, b1⟩)
          | (refine step_copy_at rfl (.tmp 15) (.tmp 18) 22 22 rfl 5 Try.underlying22 infoU8s (w.heap.size + 1) (4) (16 - 4) (16 - 4) _ rfl rfl _ (row_of_owns o1) (by rw [be_length]; decide) (outL s 1) 40 (((H1.out.1.drewN _).below b1).blk _ _ (by simp)) 4 (by rw [be_length]; rfl) (by rw [outL_length]; decide) ?_; intro w2 h2 n2))
        all_goals
          rw [HE.out] at h2
          have H2 : Hid _ := And.intro (((H1.out.1.drewN _).below b1).turn n2 h2 (by intro b o hm; simp at hm; omega)) (((below_drewN H1.out.2 _).trans (b1.mono H1.out.2.size)).trans (n2.below (by omega)))
          clear h2 n2 o1 b1 cx
          go_wp2
          go_roundw
          case rel => exact ⟨1 + 1, by decide, rfl, H2.out.1, H2.out.2⟩
          case measure => simp [intOf]
      · have cx := (bl.cell (p := ⟨g, 2, none⟩) hlt).trans c2
        have H1 : Hid _ := And.intro bk bl
        have hx := HB.out.2.2.2.1
        obtain ⟨hx0, hx1⟩ := hx
        clear bk bl c0 c1 c2 c3
        have es := outL_2 s
        have HE : Hid _ := es
        clear es
        generalize s.c = x at cx hx0 hx1 HE
        go_upto_region 5 with (go_quiet (fail))
        have ew : IntKind.i64.wrap 8 = 8 := by decide
        have ex : IntKind.u64.wrap x = x := by rw [IntKind.wrap_u64]; omega
        go_region_law (first
          | (go_simp; go_at_call 31; refine (high x 4 _ (by omega) (by omega) (by decide)).mono ?_; rintro e w1 ⟨r, rfl, o1, b1⟩)
          | (refine step_copy_at rfl (.tmp 15) (.tmp 18) 22 22 rfl 5 Try.underlying22 infoU8s (w.heap.size + 1) (8) (16 - 8) (16 - 8) _ rfl rfl _ (row_of_owns o1) (by rw [be_length]; decide) (outL s 2) 40 (((H1.out.1.drewN _).below b1).blk _ _ (by simp)) 4 (by rw [be_length]; rfl) (by rw [outL_length]; decide) ?_; intro w2 h2 n2))
        all_goals
          rw [HE.out] at h2
          have H2 : Hid _ := And.intro (((H1.out.1.drewN _).below b1).turn n2 h2 (by intro b o hm; simp at hm; omega)) (((below_drewN H1.out.2 _).trans (b1.mono H1.out.2.size)).trans (n2.below (by omega)))
          clear h2 n2 o1 b1 cx
          go_wp2
          go_roundw
          case rel => exact ⟨2 + 1, by decide, rfl, H2.out.1, H2.out.2⟩
          case measure => simp [intOf]
      · have cx := (bl.cell (p := ⟨g, 3, none⟩) hlt).trans c3
        have H1 : Hid _ := And.intro bk bl
        have hx := HB.out.2.2.2.2
        obtain ⟨hx0, hx1⟩ := hx
        clear bk bl c0 c1 c2 c3
        have es := outL_3 s
        have HE : Hid _ := es
        clear es
        generalize s.d = x at cx hx0 hx1 HE
        go_upto_region 5 with (go_quiet (fail))
        have ew : IntKind.i64.wrap 12 = 12 := by decide
        have ex : IntKind.u64.wrap x = x := by rw [IntKind.wrap_u64]; omega
        go_region_law (first
          | (go_simp; go_at_call 31; refine (high x 4 _ (by omega) (by omega) (by decide)).mono ?_; rintro e w1 ⟨r, rfl, o1, b1⟩)
          | (refine step_copy_at rfl (.tmp 15) (.tmp 18) 22 22 rfl 5 Try.underlying22 infoU8s (w.heap.size + 1) (12) (16 - 12) (16 - 12) _ rfl rfl _ (row_of_owns o1) (by rw [be_length]; decide) (outL s 3) 40 (((H1.out.1.drewN _).below b1).blk _ _ (by simp)) 4 (by rw [be_length]; rfl) (by rw [outL_length]; decide) ?_; intro w2 h2 n2))
        all_goals
          rw [HE.out] at h2
          have H2 : Hid _ := And.intro (((H1.out.1.drewN _).below b1).turn n2 h2 (by intro b o hm; simp at hm; omega)) (((below_drewN H1.out.2 _).trans (b1.mono H1.out.2.size)).trans (n2.below (by omega)))
          clear h2 n2 o1 b1 cx
          go_wp2
          go_roundw
          case rel => exact ⟨3 + 1, by decide, rfl, H2.out.1, H2.out.2⟩
          case measure => simp [intOf]
    · obtain rfl : k = 4 := by omega
      have H1 : Hid _ := And.intro bk bl
      clear bk bl c0 c1 c2 c3
      go_wp2_with (first
        | (refine wpList_load_row rfl 40 (.tmp 3) rfl (w.heap.size + 1) rfl 40 _ (0, 0) _ (H1.out.1.blk _ _ (by simp)) Try.underlying40 rfl (infoBs _ (outL_length s 4)) ?_)
        | (refine wpList_store_at rfl 40 (.tmp 2) (.tmp 21) rfl w.heap.size _ rfl rfl 40 (u8s (List.replicate 16 0)).toArray (H1.out.1.blk _ _ (by simp)) (infoBs _ (outL_length s 4)) (by simp [u8s_length, outL_length]) (u8s_all _) ?_; intro w2 h2 n2))
      try simp only [Exit.inBlock, Exit.then]
      refine bodyPost_ret (v := .agg (u8s s.byts).toArray) ?_ rfl ?_
      · exact results_cell_row (t := 40) rfl _ _ w.heap.size _ (fr := (0, 0)) _ rfl h2 Try.underlying40 rfl (infoBs _ (outL_length s 4))
      · exact ⟨rfl, H1.out.2.trans (n2.below (Nat.le_refl _))⟩
end Go.Proofs.Ytjdmknlcjejecaa
