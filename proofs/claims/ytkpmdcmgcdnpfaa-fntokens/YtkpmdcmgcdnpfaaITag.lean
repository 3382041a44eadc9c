import Derived.Test.YtkpmdcmgcdnpfaaISum
namespace Go.Proofs.Ytkpmdcmgcdnpfaa
open Go.RowKit
set_option linter.unusedVariables false

set_option maxRecDepth 20000 in
set_option maxHeartbeats 16000000 in
theorem tag_ok (kb nn hd cp : List Int) (hv cv : Value) (w : World) (hh : Row w .u8 hv hd) (hc : Row w .u8 cv cp) (lk : kb.length = 16) (ln : nn.length = 8) (bk : Bytes kb) (bn : Bytes nn) (bh : Bytes hd) (bc : Bytes cp) (lh : hd.length ≤ 1048576) (lc : cp.length ≤ 1048576) :
    Calls Try.prog 37 #[.agg (u8s (kb ++ nn)).toArray, hv, cv] w fun e w' => e = .returned (.agg (u8s (tagV kb nn hd cp)).toArray) ∧ Below w.heap.size w w' := by
  obtain ⟨aoh, cph, rfl⟩ := hh.form
  obtain ⟨aoc, cpc, rfl⟩ := hc.form
  obtain ⟨nh, enh⟩ : ∃ n, n = hd.length := ⟨_, rfl⟩
  obtain ⟨nc, enc⟩ : ∃ n, n = cp.length := ⟨_, rfl⟩
  rw [← enh] at hh lh ⊢
  rw [← enc] at hc lc ⊢
  have t0 : Book ((w.alloc (.cells (u8s (kb ++ nn)).toArray 59 (0, 0))).alloc Z8e) [(w.heap.size + 1, Z8e), (w.heap.size, .cells (u8s (kb ++ nn)).toArray 59 (0, 0))] := book_new2 w (.cells (u8s (kb ++ nn)).toArray 59 (0, 0)) Z8e
  have C0 : Below w.heap.size w ((w.alloc (.cells (u8s (kb ++ nn)).toArray 59 (0, 0))).alloc Z8e) := ((Below.refl _ _).alloc (Nat.le_refl _) _).alloc (by simp) _
  have HH : Hid _ := And.intro t0 (And.intro C0 (And.intro (And.intro hh hc) (And.intro (And.intro lk ln) (And.intro (And.intro bk (And.intro bn (And.intro bh bc))) (And.intro enh enc)))))
  clear t0 C0 hh hc lk ln bk bn bh bc enh enc
  go_enter Try.func37, Try.ntmps37
  go_upto_region 1 with fail
  go_cut [7] from 9 to 21 (fun v wx => SumAt w wx (digV kb (nn ++ ff4 ++ be (hd.length : Int) 4 ++ hd ++ cp)) Z8e (w.heap.size + 1) v)
  case first =>
    have ew : IntKind.u64.wrap (nh : Int) = (nh : Int) := by rw [IntKind.wrap_u64]; omega
    go_region_law (first
      | (go_simp; go_at_call 18; refine (high (nh : Int) 4 _ (by omega) (by omega) (by decide)).mono ?_; rintro e w2 ⟨r, rfl, o2, b2⟩; obtain ⟨g2, cap2, er2, hg1, hg2⟩ := owns_shape o2 (by decide); subst er2
         have CX : Hid (Below w.heap.size w w2) := Below.trans (by show Below w.heap.size w _; repeat (first | exact HH.out.2.1 | refine below_drewN ?_ 1 | refine Below.alloc ?_ (by simp <;> omega) _)) (b2.mono (by simp <;> omega))
         first
           | have BX := And.intro ((HH.out.1.add FF4).drew.below b2) True.intro
           | have BX := And.intro (((HH.out.1.add FF4).add Z16e).drew.below b2) True.intro
           | have BX := And.intro (((HH.out.1.add Z16e).add FF4).drew.below b2) True.intro
           | have BX := And.intro (HH.out.1.drew.below b2) True.intro
           | have BX := And.intro ((HH.out.1.add Z16e).drew.below b2) True.intro
         have HX : Hid _ := BX; clear BX)
      | (go_simp; go_at_call 49
         first
           | ((with_reducible show Calls _ _ _ (w2.alloc (Obj.cells #[_, .slice (some ⟨w.heap.size + 1 + 1, 0, none⟩) 4 4, _, _, _] _ _)) _); have BZ := And.intro (HX.out.1.add (.cells #[.slice (some ⟨w.heap.size, 16, none⟩) 8 8, .slice (some ⟨w.heap.size + 1 + 1, 0, none⟩) 4 4, .slice (some ⟨g2, 0, none⟩) 4 cap2, .slice aoh nh cph, .slice aoc nc cpc] 22)) True.intro; refine (tag_call (kb := kb) (nn := nn) (hd := hd) (cp := cp) (pS := w.heap.size) (pP := w2.heap.size) (pF := w.heap.size + 1 + 1) (v3 := .slice (some ⟨g2, 0, none⟩) 4 cap2) (nh := nh) (nc := nc) (cph := cph) (cpc := cpc) (aoh := aoh) (aoc := aoc) (BZ.1.blk _ _ (by simp)) (BZ.1.blk _ _ (by simp)) (BZ.1.blk _ _ (by simp)) ((row_of_owns o2).below (by repeat (first | exact Below.refl _ _ | refine Below.alloc ?_ (by simp <;> omega) _))) (HH.out.2.2.1.1.below (CX.out.trans (Below.mono (B := w2.heap.size) (by repeat (first | exact Below.refl _ _ | refine Below.alloc ?_ (by simp <;> omega) _)) CX.out.size))) (HH.out.2.2.1.2.below (CX.out.trans (Below.mono (B := w2.heap.size) (by repeat (first | exact Below.refl _ _ | refine Below.alloc ?_ (by simp <;> omega) _)) CX.out.size))) HH.out.2.2.2.1.1 HH.out.2.2.2.1.2 HH.out.2.2.2.2.1.1 HH.out.2.2.2.2.1.2.1 HH.out.2.2.2.2.1.2.2.1 HH.out.2.2.2.2.1.2.2.2 HH.out.2.2.2.2.2.1 HH.out.2.2.2.2.2.2 lh lc).mono ?_)
           | ((with_reducible show Calls _ _ _ ((w2.alloc (Obj.cells #[_, .slice (some ⟨w.heap.size + 1 + 1, 0, none⟩) 4 4, _, _, _] _ _)).alloc (Obj.cells _ 74 _)) _); have BZ := And.intro ((HX.out.1.add (.cells #[.slice (some ⟨w.heap.size, 16, none⟩) 8 8, .slice (some ⟨w.heap.size + 1 + 1, 0, none⟩) 4 4, .slice (some ⟨g2, 0, none⟩) 4 cap2, .slice aoh nh cph, .slice aoc nc cpc] 22)).add Z16e) True.intro; refine (tag_call (kb := kb) (nn := nn) (hd := hd) (cp := cp) (pS := w.heap.size) (pP := w2.heap.size) (pF := w.heap.size + 1 + 1) (v3 := .slice (some ⟨g2, 0, none⟩) 4 cap2) (nh := nh) (nc := nc) (cph := cph) (cpc := cpc) (aoh := aoh) (aoc := aoc) (BZ.1.blk _ _ (by simp)) (BZ.1.blk _ _ (by simp)) (BZ.1.blk _ _ (by simp)) ((row_of_owns o2).below (by repeat (first | exact Below.refl _ _ | refine Below.alloc ?_ (by simp <;> omega) _))) (HH.out.2.2.1.1.below (CX.out.trans (Below.mono (B := w2.heap.size) (by repeat (first | exact Below.refl _ _ | refine Below.alloc ?_ (by simp <;> omega) _)) CX.out.size))) (HH.out.2.2.1.2.below (CX.out.trans (Below.mono (B := w2.heap.size) (by repeat (first | exact Below.refl _ _ | refine Below.alloc ?_ (by simp <;> omega) _)) CX.out.size))) HH.out.2.2.2.1.1 HH.out.2.2.2.1.2 HH.out.2.2.2.2.1.1 HH.out.2.2.2.2.1.2.1 HH.out.2.2.2.2.1.2.2.1 HH.out.2.2.2.2.1.2.2.2 HH.out.2.2.2.2.2.1 HH.out.2.2.2.2.2.2 lh lc).mono ?_)
           | ((with_reducible show Calls _ _ _ ((w2.alloc (Obj.cells _ 74 _)).alloc (Obj.cells #[_, .slice (some ⟨w.heap.size + 1 + 1, 0, none⟩) 4 4, _, _, _] _ _)) _); have BZ := And.intro ((HX.out.1.add Z16e).add (.cells #[.slice (some ⟨w.heap.size, 16, none⟩) 8 8, .slice (some ⟨w.heap.size + 1 + 1, 0, none⟩) 4 4, .slice (some ⟨g2, 0, none⟩) 4 cap2, .slice aoh nh cph, .slice aoc nc cpc] 22)) True.intro; refine (tag_call (kb := kb) (nn := nn) (hd := hd) (cp := cp) (pS := w.heap.size) (pP := w2.heap.size + 1) (pF := w.heap.size + 1 + 1) (v3 := .slice (some ⟨g2, 0, none⟩) 4 cap2) (nh := nh) (nc := nc) (cph := cph) (cpc := cpc) (aoh := aoh) (aoc := aoc) (BZ.1.blk _ _ (by simp)) (BZ.1.blk _ _ (by simp)) (BZ.1.blk _ _ (by simp)) ((row_of_owns o2).below (by repeat (first | exact Below.refl _ _ | refine Below.alloc ?_ (by simp <;> omega) _))) (HH.out.2.2.1.1.below (CX.out.trans (Below.mono (B := w2.heap.size) (by repeat (first | exact Below.refl _ _ | refine Below.alloc ?_ (by simp <;> omega) _)) CX.out.size))) (HH.out.2.2.1.2.below (CX.out.trans (Below.mono (B := w2.heap.size) (by repeat (first | exact Below.refl _ _ | refine Below.alloc ?_ (by simp <;> omega) _)) CX.out.size))) HH.out.2.2.2.1.1 HH.out.2.2.2.1.2 HH.out.2.2.2.2.1.1 HH.out.2.2.2.2.1.2.1 HH.out.2.2.2.2.1.2.2.1 HH.out.2.2.2.2.1.2.2.2 HH.out.2.2.2.2.2.1 HH.out.2.2.2.2.2.2 lh lc).mono ?_)
           | ((with_reducible show Calls _ _ _ (w2.alloc (Obj.cells #[_, .slice (some ⟨w.heap.size + 1 + 1 + 1, 0, none⟩) 4 4, _, _, _] _ _)) _); have BZ := And.intro (HX.out.1.add (.cells #[.slice (some ⟨w.heap.size, 16, none⟩) 8 8, .slice (some ⟨w.heap.size + 1 + 1 + 1, 0, none⟩) 4 4, .slice (some ⟨g2, 0, none⟩) 4 cap2, .slice aoh nh cph, .slice aoc nc cpc] 22)) True.intro; refine (tag_call (kb := kb) (nn := nn) (hd := hd) (cp := cp) (pS := w.heap.size) (pP := w2.heap.size) (pF := w.heap.size + 1 + 1 + 1) (v3 := .slice (some ⟨g2, 0, none⟩) 4 cap2) (nh := nh) (nc := nc) (cph := cph) (cpc := cpc) (aoh := aoh) (aoc := aoc) (BZ.1.blk _ _ (by simp)) (BZ.1.blk _ _ (by simp)) (BZ.1.blk _ _ (by simp)) ((row_of_owns o2).below (by repeat (first | exact Below.refl _ _ | refine Below.alloc ?_ (by simp <;> omega) _))) (HH.out.2.2.1.1.below (CX.out.trans (Below.mono (B := w2.heap.size) (by repeat (first | exact Below.refl _ _ | refine Below.alloc ?_ (by simp <;> omega) _)) CX.out.size))) (HH.out.2.2.1.2.below (CX.out.trans (Below.mono (B := w2.heap.size) (by repeat (first | exact Below.refl _ _ | refine Below.alloc ?_ (by simp <;> omega) _)) CX.out.size))) HH.out.2.2.2.1.1 HH.out.2.2.2.1.2 HH.out.2.2.2.2.1.1 HH.out.2.2.2.2.1.2.1 HH.out.2.2.2.2.1.2.2.1 HH.out.2.2.2.2.1.2.2.2 HH.out.2.2.2.2.2.1 HH.out.2.2.2.2.2.2 lh lc).mono ?_)
           | ((with_reducible show Calls _ _ _ ((w2.alloc (Obj.cells #[_, .slice (some ⟨w.heap.size + 1 + 1 + 1, 0, none⟩) 4 4, _, _, _] _ _)).alloc (Obj.cells _ 74 _)) _); have BZ := And.intro ((HX.out.1.add (.cells #[.slice (some ⟨w.heap.size, 16, none⟩) 8 8, .slice (some ⟨w.heap.size + 1 + 1 + 1, 0, none⟩) 4 4, .slice (some ⟨g2, 0, none⟩) 4 cap2, .slice aoh nh cph, .slice aoc nc cpc] 22)).add Z16e) True.intro; refine (tag_call (kb := kb) (nn := nn) (hd := hd) (cp := cp) (pS := w.heap.size) (pP := w2.heap.size) (pF := w.heap.size + 1 + 1 + 1) (v3 := .slice (some ⟨g2, 0, none⟩) 4 cap2) (nh := nh) (nc := nc) (cph := cph) (cpc := cpc) (aoh := aoh) (aoc := aoc) (BZ.1.blk _ _ (by simp)) (BZ.1.blk _ _ (by simp)) (BZ.1.blk _ _ (by simp)) ((row_of_owns o2).below (by repeat (first | exact Below.refl _ _ | refine Below.alloc ?_ (by simp <;> omega) _))) (HH.out.2.2.1.1.below (CX.out.trans (Below.mono (B := w2.heap.size) (by repeat (first | exact Below.refl _ _ | refine Below.alloc ?_ (by simp <;> omega) _)) CX.out.size))) (HH.out.2.2.1.2.below (CX.out.trans (Below.mono (B := w2.heap.size) (by repeat (first | exact Below.refl _ _ | refine Below.alloc ?_ (by simp <;> omega) _)) CX.out.size))) HH.out.2.2.2.1.1 HH.out.2.2.2.1.2 HH.out.2.2.2.2.1.1 HH.out.2.2.2.2.1.2.1 HH.out.2.2.2.2.1.2.2.1 HH.out.2.2.2.2.1.2.2.2 HH.out.2.2.2.2.2.1 HH.out.2.2.2.2.2.2 lh lc).mono ?_)
           | ((with_reducible show Calls _ _ _ ((w2.alloc (Obj.cells _ 74 _)).alloc (Obj.cells #[_, .slice (some ⟨w.heap.size + 1 + 1 + 1, 0, none⟩) 4 4, _, _, _] _ _)) _); have BZ := And.intro ((HX.out.1.add Z16e).add (.cells #[.slice (some ⟨w.heap.size, 16, none⟩) 8 8, .slice (some ⟨w.heap.size + 1 + 1 + 1, 0, none⟩) 4 4, .slice (some ⟨g2, 0, none⟩) 4 cap2, .slice aoh nh cph, .slice aoc nc cpc] 22)) True.intro; refine (tag_call (kb := kb) (nn := nn) (hd := hd) (cp := cp) (pS := w.heap.size) (pP := w2.heap.size + 1) (pF := w.heap.size + 1 + 1 + 1) (v3 := .slice (some ⟨g2, 0, none⟩) 4 cap2) (nh := nh) (nc := nc) (cph := cph) (cpc := cpc) (aoh := aoh) (aoc := aoc) (BZ.1.blk _ _ (by simp)) (BZ.1.blk _ _ (by simp)) (BZ.1.blk _ _ (by simp)) ((row_of_owns o2).below (by repeat (first | exact Below.refl _ _ | refine Below.alloc ?_ (by simp <;> omega) _))) (HH.out.2.2.1.1.below (CX.out.trans (Below.mono (B := w2.heap.size) (by repeat (first | exact Below.refl _ _ | refine Below.alloc ?_ (by simp <;> omega) _)) CX.out.size))) (HH.out.2.2.1.2.below (CX.out.trans (Below.mono (B := w2.heap.size) (by repeat (first | exact Below.refl _ _ | refine Below.alloc ?_ (by simp <;> omega) _)) CX.out.size))) HH.out.2.2.2.1.1 HH.out.2.2.2.1.2 HH.out.2.2.2.2.1.1 HH.out.2.2.2.2.1.2.1 HH.out.2.2.2.2.1.2.2.1 HH.out.2.2.2.2.1.2.2.2 HH.out.2.2.2.2.2.1 HH.out.2.2.2.2.2.2 lh lc).mono ?_)
           | ((with_reducible show Calls _ _ _ ((w2.alloc (Obj.cells _ 5 _)).alloc (Obj.cells #[_, .slice (some ⟨w2.heap.size, 0, none⟩) 4 4, _, _, _] _ _)) _); have BZ := And.intro ((HX.out.1.add FF4).add (.cells #[.slice (some ⟨w.heap.size, 16, none⟩) 8 8, .slice (some ⟨w2.heap.size, 0, none⟩) 4 4, .slice (some ⟨g2, 0, none⟩) 4 cap2, .slice aoh nh cph, .slice aoc nc cpc] 22)) True.intro; refine (tag_call (kb := kb) (nn := nn) (hd := hd) (cp := cp) (pS := w.heap.size) (pP := w2.heap.size + 1) (pF := w2.heap.size) (v3 := .slice (some ⟨g2, 0, none⟩) 4 cap2) (nh := nh) (nc := nc) (cph := cph) (cpc := cpc) (aoh := aoh) (aoc := aoc) (BZ.1.blk _ _ (by simp)) (BZ.1.blk _ _ (by simp)) (BZ.1.blk _ _ (by simp)) ((row_of_owns o2).below (by repeat (first | exact Below.refl _ _ | refine Below.alloc ?_ (by simp <;> omega) _))) (HH.out.2.2.1.1.below (CX.out.trans (Below.mono (B := w2.heap.size) (by repeat (first | exact Below.refl _ _ | refine Below.alloc ?_ (by simp <;> omega) _)) CX.out.size))) (HH.out.2.2.1.2.below (CX.out.trans (Below.mono (B := w2.heap.size) (by repeat (first | exact Below.refl _ _ | refine Below.alloc ?_ (by simp <;> omega) _)) CX.out.size))) HH.out.2.2.2.1.1 HH.out.2.2.2.1.2 HH.out.2.2.2.2.1.1 HH.out.2.2.2.2.1.2.1 HH.out.2.2.2.2.1.2.2.1 HH.out.2.2.2.2.1.2.2.2 HH.out.2.2.2.2.2.1 HH.out.2.2.2.2.2.2 lh lc).mono ?_)
           | ((with_reducible show Calls _ _ _ (((w2.alloc (Obj.cells _ 5 _)).alloc (Obj.cells #[_, .slice (some ⟨w2.heap.size, 0, none⟩) 4 4, _, _, _] _ _)).alloc (Obj.cells _ 74 _)) _); have BZ := And.intro (((HX.out.1.add FF4).add (.cells #[.slice (some ⟨w.heap.size, 16, none⟩) 8 8, .slice (some ⟨w2.heap.size, 0, none⟩) 4 4, .slice (some ⟨g2, 0, none⟩) 4 cap2, .slice aoh nh cph, .slice aoc nc cpc] 22)).add Z16e) True.intro; refine (tag_call (kb := kb) (nn := nn) (hd := hd) (cp := cp) (pS := w.heap.size) (pP := w2.heap.size + 1) (pF := w2.heap.size) (v3 := .slice (some ⟨g2, 0, none⟩) 4 cap2) (nh := nh) (nc := nc) (cph := cph) (cpc := cpc) (aoh := aoh) (aoc := aoc) (BZ.1.blk _ _ (by simp)) (BZ.1.blk _ _ (by simp)) (BZ.1.blk _ _ (by simp)) ((row_of_owns o2).below (by repeat (first | exact Below.refl _ _ | refine Below.alloc ?_ (by simp <;> omega) _))) (HH.out.2.2.1.1.below (CX.out.trans (Below.mono (B := w2.heap.size) (by repeat (first | exact Below.refl _ _ | refine Below.alloc ?_ (by simp <;> omega) _)) CX.out.size))) (HH.out.2.2.1.2.below (CX.out.trans (Below.mono (B := w2.heap.size) (by repeat (first | exact Below.refl _ _ | refine Below.alloc ?_ (by simp <;> omega) _)) CX.out.size))) HH.out.2.2.2.1.1 HH.out.2.2.2.1.2 HH.out.2.2.2.2.1.1 HH.out.2.2.2.2.1.2.1 HH.out.2.2.2.2.1.2.2.1 HH.out.2.2.2.2.1.2.2.2 HH.out.2.2.2.2.2.1 HH.out.2.2.2.2.2.2 lh lc).mono ?_)
           | ((with_reducible show Calls _ _ _ (((w2.alloc (Obj.cells _ 74 _)).alloc (Obj.cells _ 5 _)).alloc (Obj.cells #[_, .slice (some ⟨w2.heap.size + 1, 0, none⟩) 4 4, _, _, _] _ _)) _); have BZ := And.intro (((HX.out.1.add Z16e).add FF4).add (.cells #[.slice (some ⟨w.heap.size, 16, none⟩) 8 8, .slice (some ⟨w2.heap.size + 1, 0, none⟩) 4 4, .slice (some ⟨g2, 0, none⟩) 4 cap2, .slice aoh nh cph, .slice aoc nc cpc] 22)) True.intro; refine (tag_call (kb := kb) (nn := nn) (hd := hd) (cp := cp) (pS := w.heap.size) (pP := w2.heap.size + 1 + 1) (pF := w2.heap.size + 1) (v3 := .slice (some ⟨g2, 0, none⟩) 4 cap2) (nh := nh) (nc := nc) (cph := cph) (cpc := cpc) (aoh := aoh) (aoc := aoc) (BZ.1.blk _ _ (by simp)) (BZ.1.blk _ _ (by simp)) (BZ.1.blk _ _ (by simp)) ((row_of_owns o2).below (by repeat (first | exact Below.refl _ _ | refine Below.alloc ?_ (by simp <;> omega) _))) (HH.out.2.2.1.1.below (CX.out.trans (Below.mono (B := w2.heap.size) (by repeat (first | exact Below.refl _ _ | refine Below.alloc ?_ (by simp <;> omega) _)) CX.out.size))) (HH.out.2.2.1.2.below (CX.out.trans (Below.mono (B := w2.heap.size) (by repeat (first | exact Below.refl _ _ | refine Below.alloc ?_ (by simp <;> omega) _)) CX.out.size))) HH.out.2.2.2.1.1 HH.out.2.2.2.1.2 HH.out.2.2.2.2.1.1 HH.out.2.2.2.2.1.2.1 HH.out.2.2.2.2.1.2.2.1 HH.out.2.2.2.2.1.2.2.2 HH.out.2.2.2.2.2.1 HH.out.2.2.2.2.2.2 lh lc).mono ?_)
           | ((with_reducible show Calls _ _ _ (((w2.alloc (Obj.cells _ 5 _)).alloc (Obj.cells _ 74 _)).alloc (Obj.cells #[_, .slice (some ⟨w2.heap.size, 0, none⟩) 4 4, _, _, _] _ _)) _); have BZ := And.intro (((HX.out.1.add FF4).add Z16e).add (.cells #[.slice (some ⟨w.heap.size, 16, none⟩) 8 8, .slice (some ⟨w2.heap.size, 0, none⟩) 4 4, .slice (some ⟨g2, 0, none⟩) 4 cap2, .slice aoh nh cph, .slice aoc nc cpc] 22)) True.intro; refine (tag_call (kb := kb) (nn := nn) (hd := hd) (cp := cp) (pS := w.heap.size) (pP := w2.heap.size + 1 + 1) (pF := w2.heap.size) (v3 := .slice (some ⟨g2, 0, none⟩) 4 cap2) (nh := nh) (nc := nc) (cph := cph) (cpc := cpc) (aoh := aoh) (aoc := aoc) (BZ.1.blk _ _ (by simp)) (BZ.1.blk _ _ (by simp)) (BZ.1.blk _ _ (by simp)) ((row_of_owns o2).below (by repeat (first | exact Below.refl _ _ | refine Below.alloc ?_ (by simp <;> omega) _))) (HH.out.2.2.1.1.below (CX.out.trans (Below.mono (B := w2.heap.size) (by repeat (first | exact Below.refl _ _ | refine Below.alloc ?_ (by simp <;> omega) _)) CX.out.size))) (HH.out.2.2.1.2.below (CX.out.trans (Below.mono (B := w2.heap.size) (by repeat (first | exact Below.refl _ _ | refine Below.alloc ?_ (by simp <;> omega) _)) CX.out.size))) HH.out.2.2.2.1.1 HH.out.2.2.2.1.2 HH.out.2.2.2.2.1.1 HH.out.2.2.2.2.1.2.1 HH.out.2.2.2.2.1.2.2.1 HH.out.2.2.2.2.1.2.2.2 HH.out.2.2.2.2.2.1 HH.out.2.2.2.2.2.2 lh lc).mono ?_)
         rintro e w3 ⟨rfl, b3⟩; have hDl := digV_length kb (nn ++ ff4 ++ be (nh : Int) 4 ++ hd ++ cp); obtain ⟨D, eD⟩ : ∃ D, D = digV kb (nn ++ ff4 ++ be (nh : Int) 4 ++ hd ++ cp) := ⟨_, rfl⟩; rw [← eD] at hDl ⊢; have hlu : (u8s D).length = 16 := by rw [u8s_length, hDl]
         have B3 : Book w3 _ := BZ.1.below b3
         have C3 : Below w.heap.size w w3 := Below.trans (CX.out.trans (Below.mono (B := w2.heap.size) (by repeat (first | exact Below.refl _ _ | refine Below.alloc ?_ (by simp <;> omega) _)) CX.out.size)) (b3.mono (by have := CX.out.size; simp <;> omega))
         have z3 : w2.heap.size < w3.heap.size := by have := b3.size; simp at this; omega
         have y3 : w3.heap[w.heap.size + 1]? = some Z8e := B3.blk _ _ (by simp)
         have H3 : Hid _ := And.intro C3 (And.intro y3 eD)
         have hs0 := st16 (W := w3.alloc Z16e) (MapKept.heap_alloc w3 Z16e).1 hDl
         first
           | (have HP0 := B3.blk (w.heap.size + 1 + 1) Z16e; simp at HP0; have HP : Hid (w3.heap[w.heap.size + 1 + 1]? = some Z16e) := HP0; clear HP0; have hs1 := st16 HP.out hDl)
           | (have HP0 := B3.blk (w.heap.size + 1 + 1 + 1) Z16e; simp at HP0; have HP : Hid (w3.heap[w.heap.size + 1 + 1 + 1]? = some Z16e) := HP0; clear HP0; have hs1 := st16 HP.out hDl)
           | (have HP0 := B3.blk (w2.heap.size) Z16e; simp at HP0; have HP : Hid (w3.heap[w2.heap.size]? = some Z16e) := HP0; clear HP0; have hs1 := st16 HP.out hDl)
           | (have HP0 := B3.blk (w2.heap.size + 1) Z16e; simp at HP0; have HP : Hid (w3.heap[w2.heap.size + 1]? = some Z16e) := HP0; clear HP0; have hs1 := st16 HP.out hDl)
           | (have HP0 := B3.blk (w2.heap.size + 1 + 1) Z16e; simp at HP0; have HP : Hid (w3.heap[w2.heap.size + 1 + 1]? = some Z16e) := HP0; clear HP0; have hs1 := st16 HP.out hDl)
           | skip
         clear BZ B3 C3 y3 eD b3)
      )
    all_goals
      have e5 : digV kb (nn ++ ff4 ++ be (hd.length : Int) 4 ++ hd ++ cp) = D := by rw [← HH.out.2.2.2.2.2.1]; exact H3.out.2.2.symm
      have z2 : w.heap.size + 1 < w2.heap.size := HX.out.1.lt (b := w.heap.size + 1) (o := Z8e) (by simp)
      go_wp2_with fail
      go_meet
      rw [e5]
      first
        | exact sum_setR HP.out H3.out.1 H3.out.2.1 (by omega) (by omega)
        | exact sum_freshR H3.out.1 H3.out.2.1
  case rest =>
  obtain ⟨p, rfl, hp, hpl, _⟩ := hcut.at'
  have H1 : Hid _ := And.intro hp (And.intro hcut.bel hcut.res)
  have zp : p < wc.heap.size := (Array.getElem?_eq_some_iff.1 hp).1
  clear hcut hp
  have hdl := digV_length kb (nn ++ ff4 ++ be (hd.length : Int) 4 ++ hd ++ cp)
  obtain ⟨D, eD⟩ : ∃ D, D = digV kb (nn ++ ff4 ++ be (hd.length : Int) 4 ++ hd ++ cp) := ⟨_, rfl⟩
  rw [← eD] at H1 hdl
  have HD : Hid _ := And.intro eD hdl
  clear eD hdl
  have K1 : Hid (Book (wc.alloc Z8e) [(wc.heap.size, Z8e), (p, .cells (u8s D).toArray 74 (0, 0)), (w.heap.size + 1, Z8e)]) :=
    Book.add ⟨fun b o hm => by
      simp only [List.mem_cons, Prod.mk.injEq, List.not_mem_nil, or_false] at hm
      rcases hm with ⟨rfl, rfl⟩ | ⟨rfl, rfl⟩
      · exact H1.out.1
      · exact H1.out.2.2⟩ Z8e
  have RP : Hid (Row (wc.alloc Z8e).drew .u8 (.slice (some ⟨p, 0, none⟩) 16 16) D) := (row_full (K1.out.blk p (.cells (u8s D).toArray 74 (0, 0)) (by simp)) HD.out.2 (by decide)).drewN 1
  have G8 : Hid ((wc.alloc Z8e).drew.heap[wc.heap.size]? = some (.cells (u8s (List.replicate 8 0)).toArray 53 (0, 0))) := K1.out.blk _ _ (List.mem_cons_self ..)
  go_upto_region 3 with fail
  go_region_law (refine step_copy_at rfl (.tmp 22) (.tmp 23) 22 22 rfl 5 Try.underlying22 infoU8s wc.heap.size 0 8 8 _ rfl rfl D RP.out (by rw [HD.out.2]; decide) (List.replicate 8 0) 53 G8.out 8 (by rw [HD.out.2]; rfl) (by simp) ?_; intro w4 h4 m4)
  all_goals
    have e4 : splice (List.replicate 8 (0 : Int)) 0 (D.take 8) = tagV kb nn hd cp := by
      unfold tagV
      rw [← HD.out.1]
      have : (D.take 8).length = 8 := by rw [List.length_take, HD.out.2]; rfl
      simp [splice, this]
    rw [e4] at h4
    have H4 : Hid _ := And.intro h4 (And.intro ((m4.block (w.heap.size + 1) (fun e => by have := Option.some.inj e; have := (Array.getElem?_eq_some_iff.1 H1.out.2.2).1; omega)).trans (K1.out.drew.blk (w.heap.size + 1) Z8e (by simp))) (((below_drewN (H1.out.2.1.alloc H1.out.2.1.size Z8e) 1).trans (m4.below H1.out.2.1.size))))
    clear h4 m4 e4
    go_wp2_with (first
      | (refine wpList_load_row rfl 53 (.tmp 8) rfl wc.heap.size rfl 53 _ (0, 0) _ H4.out.1 Try.underlying53 rfl (infoT8s _ (tagV_length _ _ _ _)) ?_)
      | (refine wpList_store_at rfl 53 (.tmp 6) (.tmp 25) rfl (w.heap.size + 1) _ rfl rfl 53 _ H4.out.2.1 (infoT8s _ (tagV_length _ _ _ _)) (by simp [u8s_length, tagV_length]) (u8s_all _) ?_; intro w6 h6 m6))
    try simp only [Exit.inBlock, Exit.then]
    refine bodyPost_ret (v := .agg (u8s (tagV kb nn hd cp)).toArray) ?_ rfl ?_
    · exact results_cell_row (t := 53) rfl _ _ (w.heap.size + 1) _ (fr := (0, 0)) _ rfl h6 Try.underlying53 rfl (infoT8s _ (tagV_length _ _ _ _))
    · exact ⟨rfl, H4.out.2.2.trans (m6.below (by omega))⟩
end Go.Proofs.Ytkpmdcmgcdnpfaa
