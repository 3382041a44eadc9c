import Derived.Test.YtjdmknlcjejecaaStirC
import Derived.Deep.RegionWith
import Derived.Deep.CutRange
namespace Go.Proofs.Ytjdmknlcjejecaa
open Go.RowKit
set_option linter.unusedVariables false

theorem irot_7 (x : Int) (w : World) (h0 : 0 ≤ x) (h1 : x < 4294967296) : Calls Try.prog 35 #[.int .u32 x, .int .i64 7] w fun e w' => e = .returned (.int .u32 (rot7 x)) ∧ w' = w := by
  have e0 : bits BinOp.and IntKind.u64 7 31 = 7 := by decide
  go_enter Try.func35, Try.ntmps35
  go_wp2
  go_ret
  exact ⟨rfl, rfl⟩
theorem irot_13 (x : Int) (w : World) (h0 : 0 ≤ x) (h1 : x < 4294967296) : Calls Try.prog 35 #[.int .u32 x, .int .i64 13] w fun e w' => e = .returned (.int .u32 (rot13 x)) ∧ w' = w := by
  have e0 : bits BinOp.and IntKind.u64 13 31 = 13 := by decide
  go_enter Try.func35, Try.ntmps35
  go_wp2
  go_ret
  exact ⟨rfl, rfl⟩
theorem irot_17 (x : Int) (w : World) (h0 : 0 ≤ x) (h1 : x < 4294967296) : Calls Try.prog 35 #[.int .u32 x, .int .i64 17] w fun e w' => e = .returned (.int .u32 (rot17 x)) ∧ w' = w := by
  have e0 : bits BinOp.and IntKind.u64 17 31 = 17 := by decide
  go_enter Try.func35, Try.ntmps35
  go_wp2
  go_ret
  exact ⟨rfl, rfl⟩

theorem wrap32 (x : Int) : U32 (IntKind.u32.wrap x) := by
  rw [IntKind.wrap_u32]
  unfold U32
  omega
theorem stB_eq (s : S4) (x : Int) : rot7 (IntKind.u32.wrap (s.b + stA s x)) = stB s x := by
  unfold stB stA
  rw [IntKind.wrap_u32]
  congr 1
  omega
theorem stD_eq (s : S4) (x : Int) : rot17 (IntKind.u32.wrap (s.d + stC s x)) = stD s x := by
  unfold stD
  rw [IntKind.wrap_u32]

/-- Block g holds the state s; nothing else has turned since w. -/
structure StI (g : Nat) (w wx : World) (s : S4) : Prop where
  blk : wx.heap[g]? = some (.cells #[.int .u32 s.a, .int .u32 s.b, .int .u32 s.c, .int .u32 s.d] 49 (0, 0))
  only : Only (some g) w wx
theorem StI.drew {g : Nat} {w wx : World} {s : S4} (h : StI g w wx s) : StI g w wx.drew s := ⟨h.blk, ⟨h.only.1, h.only.2, h.only.3, h.only.4, h.only.5⟩⟩
theorem StI.set {g : Nat} {w wx : World} {s : S4} (h : StI g w wx s) (o : Nat) (u : Value) (t : S4)
    (e : (#[.int .u32 s.a, .int .u32 s.b, .int .u32 s.c, .int .u32 s.d] : Array Value).setIfInBounds o u = #[.int .u32 t.a, .int .u32 t.b, .int .u32 t.c, .int .u32 t.d]) : StI g w (wx.setCell ⟨g, o, none⟩ u) t :=
  ⟨by rw [blkS_setCell h.blk o u, e], h.only.trans (Only.setCell ⟨g, o, none⟩ u)⟩
theorem StI.cells {g : Nat} {w wx : World} {s : S4} (h : StI g w wx s) : wx.cell? ⟨g, 0, none⟩ = some (.int .u32 s.a) ∧ wx.cell? ⟨g, 1, none⟩ = some (.int .u32 s.b) ∧ wx.cell? ⟨g, 2, none⟩ = some (.int .u32 s.c) ∧ wx.cell? ⟨g, 3, none⟩ = some (.int .u32 s.d) :=
  ⟨by rw [blkS_cell h.blk]; rfl, by rw [blkS_cell h.blk]; rfl, by rw [blkS_cell h.blk]; rfl, by rw [blkS_cell h.blk]; rfl⟩

set_option maxHeartbeats 2000000 in
theorem istir (g : Nat) (s : S4) (hs : s.ok) (x : Int) (hx0 : 0 ≤ x) (hx1 : x < 256) (w : World)
    (hb : w.heap[g]? = some (.cells #[.int .u32 s.a, .int .u32 s.b, .int .u32 s.c, .int .u32 s.d] 49 (0, 0))) :
    Calls Try.prog 29 #[.pointer (some ⟨g, 0, none⟩), .int .u8 x] w fun e w' => (∃ v, e = .returned v) ∧ StI g w w' (stir1 s x) := by
  have H0 : Hid (StI g w w s) := ⟨hb, Only.refl _ _⟩
  obtain ⟨c0, c1, c2, c3⟩ := H0.out.cells
  have f0 := blkS_free hb 0
  have uA : U32 (stA s x) := by unfold U32 stA; omega
  have uB : U32 (stB s x) := bits32_or _ _
  have uC : U32 (stC s x) := bits32_or _ _
  have uD : U32 (stD s x) := bits32_or _ _
  obtain ⟨⟨a0, a1⟩, ⟨b0, b1⟩, ⟨g0, g1⟩, ⟨d0, d1⟩⟩ := hs
  clear hb
  go_enter Try.func29, Try.ntmps29
  go_upto_region 0 with fail
  go_cut [4] from 4 to 14 (fun _ wx => StI g w wx ⟨stA s x, s.b, s.c, s.d⟩)
  case first =>
    go_region
    go_wp2_with fail
    go_meet
    exact (H0.out.set 0 _ _ (by rfl)).drew
  case rest =>
  clear c0 c1 c2 c3 f0
  have H1 : Hid _ := hcut
  clear hcut
  obtain ⟨c0, c1, c2, c3⟩ := H1.out.cells
  have f1 := blkS_free H1.out.blk 1
  simp only at c0 c1 c2 c3
  go_upto_region 1 with fail
  go_cut [15] from 15 to 27 (fun _ wx => StI g w wx ⟨stA s x, stB s x, s.c, s.d⟩)
  case first =>
    go_region_with (go_at_call 35; refine (irot_7 _ _ (wrap32 _).1 (wrap32 _).2).mono ?_; rintro e w' ⟨rfl, hw⟩; subst w')
    all_goals (go_wp2_with fail; go_meet; exact (H1.out.set 1 _ _ (by rw [stB_eq]; rfl)).drew)
  case rest =>
  clear c0 c1 c2 c3 f1
  have H2 : Hid _ := hcut
  clear hcut
  obtain ⟨c0, c1, c2, c3⟩ := H2.out.cells
  have f2 := blkS_free H2.out.blk 2
  simp only at c0 c1 c2 c3
  go_upto_region 2 with fail
  go_cut [28] from 28 to 40 (fun _ wx => StI g w wx ⟨stA s x, stB s x, stC s x, s.d⟩)
  case first =>
    go_region_with (go_at_call 35; refine (irot_13 _ _ (bits32_xor _ _).1 (bits32_xor _ _).2).mono ?_; rintro e w' ⟨rfl, hw⟩; subst w')
    all_goals (go_wp2_with fail; go_meet; exact (H2.out.set 2 _ _ (by rfl)).drew)
  case rest =>
  clear c0 c1 c2 c3 f2
  have H3 : Hid _ := hcut
  clear hcut
  obtain ⟨c0, c1, c2, c3⟩ := H3.out.cells
  have f3 := blkS_free H3.out.blk 3
  simp only at c0 c1 c2 c3
  go_upto_region 3 with fail
  go_cut [41] from 41 to 53 (fun _ wx => StI g w wx ⟨stA s x, stB s x, stC s x, stD s x⟩)
  case first =>
    go_region_with (go_at_call 35; refine (irot_17 _ _ (wrap32 _).1 (wrap32 _).2).mono ?_; rintro e w' ⟨rfl, hw⟩; subst w')
    all_goals (go_wp2_with fail; go_meet; exact (H3.out.set 3 _ _ (by rw [stD_eq]; rfl)).drew)
  case rest =>
  clear c0 c1 c2 c3 f3
  have H4 : Hid _ := hcut
  clear hcut
  obtain ⟨c0, c1, c2, c3⟩ := H4.out.cells
  have f0 := blkS_free H4.out.blk 0
  simp only at c0 c1 c2 c3
  go_wp2
  go_region
  go_wp2
  go_end0
  exact ⟨⟨_, rfl⟩, (H4.out.set 0 _ _ (by rfl)).drew⟩
end Go.Proofs.Ytjdmknlcjejecaa
