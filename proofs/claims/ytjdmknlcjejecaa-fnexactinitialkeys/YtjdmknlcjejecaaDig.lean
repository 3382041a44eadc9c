import Derived.Test.YtjdmknlcjejecaaStirC
import Derived.Test.YtjdmknlcjejecaaDigits
import Derived.Deep.RegionWith
import Derived.Deep.CutRange
namespace Go.Proofs.Ytjdmknlcjejecaa
open Go.RowKit
set_option linter.unusedVariables false

def dig0 : S4 := ⟨1779033703, 3144134277, 1013904242, 2773480762⟩
theorem dig0_ok : dig0.ok := by unfold S4.ok U32 dig0; decide
/-- The four numbers of the digest of a key and data, and its bytes. -/
def digS (ks ds : List Int) : S4 := stirL (stirL (stirL (stirL (stirL dig0 (be (ks.length : Int) 4)) ks) ds) (be (ds.length : Int) 4)) (List.replicate 16 165)
def digV (ks ds : List Int) : List Int := be (digS ks ds).a 4 ++ be (digS ks ds).b 4 ++ be (digS ks ds).c 4 ++ be (digS ks ds).d 4
theorem digV_length (ks ds : List Int) : (digV ks ds).length = 16 := by simp [digV, be_length]
theorem be_bytes (v : Int) (n : Nat) : Bytes (be v n) := by
  induction n generalizing v with
  | zero => intro x hx; simp [be] at hx
  | succ n ih =>
    intro x hx
    simp only [be, List.mem_append, List.mem_singleton] at hx
    rcases hx with hx | rfl
    · exact ih _ x hx
    · omega
theorem bytes_append {xs ys : List Int} (hx : Bytes xs) (hy : Bytes ys) : Bytes (xs ++ ys) := by
  intro x h
  rcases List.mem_append.1 h with h | h
  · exact hx x h
  · exact hy x h
theorem digV_bytes (ks ds : List Int) : Bytes (digV ks ds) := bytes_append (bytes_append (bytes_append (be_bytes _ _) (be_bytes _ _)) (be_bytes _ _)) (be_bytes _ _)

/-- The digest's state lies in the first new block; below nothing has turned. -/
structure DigAt (w wx : World) (s : S4) : Prop where
  blk : wx.heap[w.heap.size]? = some (.cells #[.int .u32 s.a, .int .u32 s.b, .int .u32 s.c, .int .u32 s.d] 45 (0, 0))
  bel : Below w.heap.size w wx
theorem DigAt.lt {w wx : World} {s : S4} (h : DigAt w wx s) : w.heap.size < wx.heap.size := (Array.getElem?_eq_some_iff.1 h.blk).1
theorem DigAt.called {w wx w' : World} {s : S4} (h : DigAt w wx s) (hb : Below wx.heap.size wx w') : DigAt w w' s :=
  ⟨(hb.block _ h.lt).trans h.blk, h.bel.trans (hb.mono h.bel.size)⟩
theorem DigAt.alloc {w wx : World} {s : S4} (h : DigAt w wx s) (o : Obj) : DigAt w (wx.alloc o) s := h.called ((Below.refl _ _).alloc (Nat.le_refl _) o)
theorem DigAt.drew {w wx : World} {s : S4} (h : DigAt w wx s) : DigAt w wx.drew s := ⟨h.blk, ⟨h.bel.os, h.bel.tape, h.bel.output, h.bel.size, h.bel.block⟩⟩
theorem DigAt.stored {w wx : World} {s : S4} (h : DigAt w wx s) (t : S4) : DigAt w ((((wx.setCell ⟨w.heap.size, 0, none⟩ (.int .u32 t.a)).setCell ⟨w.heap.size, 1, none⟩ (.int .u32 t.b)).setCell ⟨w.heap.size, 2, none⟩ (.int .u32 t.c)).setCell ⟨w.heap.size, 3, none⟩ (.int .u32 t.d)) t := by
  refine ⟨?_, (((h.bel.setCell (Nat.le_refl _) _).setCell (Nat.le_refl _) _).setCell (Nat.le_refl _) _).setCell (Nat.le_refl _) _⟩
  rw [blkS_setCell (blkS_setCell (blkS_setCell (blkS_setCell h.blk 0 _) 1 _) 2 _) 3 _]
  rfl
theorem DigAt.cells {w wx : World} {s : S4} (h : DigAt w wx s) : wx.cell? ⟨w.heap.size, 0, none⟩ = some (.int .u32 s.a) ∧ wx.cell? ⟨w.heap.size, 1, none⟩ = some (.int .u32 s.b) ∧ wx.cell? ⟨w.heap.size, 2, none⟩ = some (.int .u32 s.c) ∧ wx.cell? ⟨w.heap.size, 3, none⟩ = some (.int .u32 s.d) :=
  ⟨by rw [blkS_cell h.blk]; rfl, by rw [blkS_cell h.blk]; rfl, by rw [blkS_cell h.blk]; rfl, by rw [blkS_cell h.blk]; rfl⟩
theorem DigAt.free {w wx : World} {s : S4} (h : DigAt w wx s) : wx.frozen? ⟨w.heap.size, 0, none⟩ = false ∧ wx.frozen? ⟨w.heap.size, 1, none⟩ = false ∧ wx.frozen? ⟨w.heap.size, 2, none⟩ = false ∧ wx.frozen? ⟨w.heap.size, 3, none⟩ = false :=
  ⟨blkS_free h.blk 0, blkS_free h.blk 1, blkS_free h.blk 2, blkS_free h.blk 3⟩
theorem stirD (s : S4) (hs : s.ok) (v : Value) (xs : List Int) (w : World) (hrow : Row w .u8 v xs) (hB : Bytes xs) (hl : xs.length ≤ 4611686018427387903) :
    Calls Try.prog 24 #[.agg #[.int .u32 s.a, .int .u32 s.b, .int .u32 s.c, .int .u32 s.d], v] w fun e w' => e = .returned (.agg #[.int .u32 (stirL s xs).a, .int .u32 (stirL s xs).b, .int .u32 (stirL s xs).c, .int .u32 (stirL s xs).d]) ∧ Below w.heap.size w w' :=
  stirC s hs v xs w hrow hB hl

theorem DigAt.grown {w wx w' : World} {s : S4} {r : Option Nat} (h : DigAt w wx s) (hg : wx.grownBy w' r) (hr : ∀ k, r = some k → w.heap.size < k) : DigAt w w' s := by
  refine ⟨(hg.block _ h.lt (fun e => by have := hr _ e.symm; omega)).trans h.blk, ⟨hg.os.trans h.bel.os, hg.tape.trans h.bel.tape, hg.output.trans h.bel.output, Nat.le_trans h.bel.size hg.size, fun k hk => ?_⟩⟩
  exact (hg.block k (Nat.lt_trans hk h.lt) (fun e => by have := hr _ e.symm; omega)).trans (h.bel.block k hk)
theorem pc_one (zs : List Int) (k : IntKind) : ∀ u, u ∈ zs.map (Value.int k) → u.oneCell' = true := by
  intro u hu
  obtain ⟨z, _, rfl⟩ := List.mem_map.1 hu
  rfl
theorem pc_cells {w : World} {base e g m cap : Nat} {zs : List Int} (h : w.ownsRow base e 1 (.slice (some ⟨g, 0, none⟩) m cap) m (zs.map (Value.int .u8))) :
    ∀ (j : Nat) (u : Value), (zs.map (Value.int .u8))[j]? = some u → w.cell? ((⟨g, 0, none⟩ : Addr).add j) = some u := by
  intro j u hj
  have hl : (zs.map (Value.int .u8)).length = m * 1 := h.1
  have hlt : j < m * 1 := by
    rw [← hl]
    exact (List.getElem?_eq_some_iff.1 hj).1
  have := h.cellAt j hlt
  rw [Go.WideShapes.add_plain, Nat.zero_add, this]
  exact hj
theorem dig_new (w : World) : DigAt w (w.alloc (.cells #[.int .u32 1779033703, .int .u32 3144134277, .int .u32 1013904242, .int .u32 2773480762] 45)) dig0 :=
  ⟨(MapKept.heap_alloc w _).1, (Below.refl _ _).alloc (Nat.le_refl _) _⟩

set_option maxRecDepth 20000 in
set_option maxHeartbeats 2000000 in
theorem specDigest (vk vd : Value) (ks ds : List Int) (w : World) (rk : Row w .u8 vk ks) (rd : Row w .u8 vd ds) (bk : Bytes ks) (bd : Bytes ds) (lk : ks.length ≤ 4611686018427387903) (ld : ds.length ≤ 4611686018427387903) :
    Calls Try.prog 13 #[vk, vd] w fun e w' => ∃ r, e = .returned r ∧ w'.ownsRow w.heap.size 5 1 r 16 ((digV ks ds).map (Value.int .u8)) ∧ Below w.heap.size w w' := by
  obtain ⟨i0, hi, hz0, hz1, hz2⟩ := info_parts infoU8
  obtain ⟨aok, capk, ek⟩ := rk.form
  obtain ⟨aod, capd, ed⟩ := rd.form
  subst ek ed
  obtain ⟨nk, enk⟩ : ∃ n, n = ks.length := ⟨_, rfl⟩
  obtain ⟨nd, ent⟩ : ∃ n, n = ds.length := ⟨_, rfl⟩
  rw [← enk] at lk rk ⊢
  rw [← ent] at ld rd ⊢
  have HH : Hid _ := And.intro rk (And.intro rd (And.intro bk (And.intro bd (And.intro enk ent))))
  clear rk rd bk bd enk ent
  have D0 := (dig_new w).drew
  have HD : Hid _ := D0
  clear D0
  go_enter Try.func13, Try.ntmps13
  go_upto_region 2 with fail
  go_cut [] from 9 to 13 (fun wx => DigAt w wx (stirL dig0 (be (nk : Int) 4)))
  case first =>
    go_region_with (first
      | (go_at_call 14; refine (digits 4 (nk : Int) _ ?_ ?_ ?_).mono ?_; omega; omega; decide; rintro e w2 ⟨r, rfl, o2, b2⟩; obtain ⟨c0, c1, c2, c3⟩ := (HD.out.called b2).cells; simp only [dig0] at c0 c1 c2 c3)
      | (go_at_call 24; refine (stirD dig0 dig0_ok _ _ _ (row_of_owns o2) (be_bytes _ _) ?_).mono ?_; (rw [be_length]; decide); rintro e w3 ⟨rfl, b3⟩; obtain ⟨d0, d1, d2, d3⟩ := ((HD.out.called b2).called b3).cells; obtain ⟨f0, f1, f2, f3⟩ := ((HD.out.called b2).called b3).free))
    all_goals (go_wp2_with fail; go_meet; exact ((HD.out.called b2).called b3).stored _)
  case rest =>
    have k1 := stirL_ok dig0 (be (nk : Int) 4) dig0_ok
    have E1 : Hid (stirL dig0 (be (nk : Int) 4) = stirL dig0 (be (ks.length : Int) 4)) := by rw [HH.out.2.2.2.2.1]; rfl
    generalize stirL dig0 (be (nk : Int) 4) = s1 at hcut k1 E1
    obtain ⟨c0, c1, c2, c3⟩ := hcut.cells
    have H1 : Hid _ := And.intro hcut k1
    clear hcut k1 HD
    go_wp2_with fail
    go_at_call 24
    refine (stirD s1 H1.out.2 _ ks _ (HH.out.1.below H1.out.1.bel) HH.out.2.2.1 (by have := HH.out.2.2.2.2.1; omega)).mono ?_
    rintro e w1 ⟨rfl, b1⟩
    have k2 := stirL_ok s1 ks H1.out.2
    have E2 : Hid (stirL s1 ks = stirL (stirL dig0 (be (ks.length : Int) 4)) ks) := by rw [E1.out]; rfl
    generalize stirL s1 ks = s2 at k2 E2 ⊢
    obtain ⟨d0, d1, d2, d3⟩ := (H1.out.1.called b1).cells
    obtain ⟨f0, f1, f2, f3⟩ := (H1.out.1.called b1).free
    have H2 : Hid _ := And.intro ((H1.out.1.called b1).stored s2) k2
    clear b1 k2 c0 c1 c2 c3
    go_wp2_with fail
    go_at_call 24
    refine (stirD s2 H2.out.2 _ ds _ (HH.out.2.1.below H2.out.1.bel) HH.out.2.2.2.1 (by have := HH.out.2.2.2.2.2; omega)).mono ?_
    rintro e w2 ⟨rfl, b2⟩
    have k3 := stirL_ok s2 ds H2.out.2
    have E3 : Hid (stirL s2 ds = stirL (stirL (stirL dig0 (be (ks.length : Int) 4)) ks) ds) := by rw [E2.out]; rfl
    generalize stirL s2 ds = s3 at k3 E3 ⊢
    clear d0 d1 d2 d3 f0 f1 f2 f3
    obtain ⟨d0, d1, d2, d3⟩ := (H2.out.1.called b2).cells
    obtain ⟨f0, f1, f2, f3⟩ := (H2.out.1.called b2).free
    have H3 : Hid _ := And.intro ((H2.out.1.called b2).stored s3) k3
    clear b2 k3
    go_upto_region 5 with fail
    go_cut [] from 20 to 24 (fun wx => DigAt w wx (stirL s3 (be (nd : Int) 4)))
    case first =>
      have H4 : Hid _ := H3.out.1.drew
      go_region_with (first
        | (go_at_call 14; refine (digits 4 (nd : Int) _ ?_ ?_ ?_).mono ?_; omega; omega; decide; rintro e w4 ⟨r, rfl, o4, b4⟩; obtain ⟨g0, g1, g2, g3⟩ := (H4.out.called b4).cells)
        | (go_at_call 24; refine (stirD s3 H3.out.2 _ _ _ (row_of_owns o4) (be_bytes _ _) ?_).mono ?_; (rw [be_length]; decide); rintro e w5 ⟨rfl, b5⟩; obtain ⟨m0, m1, m2, m3⟩ := ((H4.out.called b4).called b5).cells; obtain ⟨n0, n1, n2, n3⟩ := ((H4.out.called b4).called b5).free))
      all_goals (go_wp2_with fail; go_meet; exact ((H4.out.called b4).called b5).stored _)
    case rest =>
      have k4 := stirL_ok s3 (be (nd : Int) 4) H3.out.2
      have E4 : Hid (stirL s3 (be (nd : Int) 4) = stirL (stirL (stirL (stirL dig0 (be (ks.length : Int) 4)) ks) ds) (be (ds.length : Int) 4)) := by rw [E3.out, HH.out.2.2.2.2.2]; rfl
      generalize stirL s3 (be (nd : Int) 4) = s4 at hcut k4 E4
      have H4 : Hid _ := And.intro hcut k4
      clear hcut k4 d0 d1 d2 d3 f0 f1 f2 f3
      go_wp2_with fail
      go_loopw [6] (fun i wr => ∃ k : Nat, k ≤ 16 ∧ i = .int .i64 (k : Int) ∧ DigAt w wr (stirL s4 (List.replicate k 165))) (fun i _ => 16 - (intOf i).toNat)
      case atStart => exact ⟨0, by omega, rfl, H4.out.1⟩
      case round =>
        obtain ⟨k, hk, rfl, st⟩ := hrel
        have ok := stirL_ok s4 (List.replicate k 165) H4.out.2
        by_cases hlt : k < 16
        · have es : stirL s4 (List.replicate (k + 1) 165) = stirL (stirL s4 (List.replicate k 165)) [165] := by rw [List.replicate_succ', stirL_append]
          generalize stirL s4 (List.replicate k 165) = t at st ok es
          obtain ⟨c0, c1, c2, c3⟩ := st.cells
          have HS : Hid _ := And.intro st (And.intro ok es)
          clear st ok es
          go_wp2_with fail
          go_at_call 24
          refine (stirD t HS.out.2.1 _ [165] _ (one_row wr 165) (by intro x hx; simp at hx; subst hx; decide) (by decide)).mono ?_
          rintro e w5 ⟨rfl, b5⟩
          have D5 := (HS.out.1.alloc _).called b5
          obtain ⟨m0, m1, m2, m3⟩ := D5.cells
          obtain ⟨n0, n1, n2, n3⟩ := D5.free
          have H5 : Hid _ := D5.stored (stirL t [165])
          clear D5 b5 c0 c1 c2 c3
          go_wp2
          go_roundw
          case rel =>
            refine ⟨k + 1, by omega, by go_num, ?_⟩
            rw [HS.out.2.2]
            exact H5.out
          case measure => simp [intOf]; omega
        · obtain rfl : k = 16 := by omega
          have ES : Hid (stirL s4 (List.replicate 16 165) = digS ks ds) := by rw [E4.out]; rfl
          have EV : Hid (digV ks ds = be (digS ks ds).a 4 ++ be (digS ks ds).b 4 ++ be (digS ks ds).c 4 ++ be (digS ks ds).d 4) := rfl
          rw [ES.out] at st ok
          generalize digS ks ds = t at st ok EV
          obtain ⟨⟨a0, a1⟩, ⟨b0, b1⟩, ⟨g0, g1⟩, ⟨d0, d1⟩⟩ := ok
          obtain ⟨c0, c1, c2, c3⟩ := st.cells
          have HS : Hid _ := st
          clear st E1 E2 E3 E4 ES H1 H2 H3 H4
          go_wp2_with fail
          go_at_call 14
          refine (digits 4 t.a _ a0 ?_ (by decide)).mono ?_
          · omega
          rintro e w6 ⟨r1, rfl, o1, b6⟩
          have H6 : Hid _ := HS.out.called b6
          have O1 : Hid _ := owns_mono o1 (base' := w.heap.size + 1) HS.out.lt
          clear o1 b6 c0 c1 c2 c3
          obtain ⟨c0, c1, c2, c3⟩ := (H6.out).cells
          go_wp2_with fail
          go_at_call 14
          refine (digits 4 t.b _ b0 ?_ (by decide)).mono ?_
          · omega
          rintro e w7 ⟨q7, rfl, o7, b7⟩
          obtain ⟨p7, cp7, rfl, _, _⟩ := owns_shape o7 (by decide)
          have H7 : Hid _ := (H6.out).called b7
          have oo := owns_below (O1.out) b7
          have hbs : w.heap.size + 1 ≤ w7.heap.size := H7.out.lt
          go_wp2_with (at_builtin; refine wpList_append_own _ rfl _ _ 22 rfl (w.heap.size + 1) 5 i0 (.int .u8 0) 1 1 Try.underlying22 hi hz0 hz1 hz2 rfl (by decide) _ _ _ rfl oo ⟨p7, 0, none⟩ 4 cp7 ((be t.b 4).map (Value.int .u8)) rfl o7.1 (pc_cells o7) (pc_one _ _) (by unfold maxLen; omega) (by omega) hbs ?_; intro v8 w8 o8 g8 _; obtain ⟨x8, y8, z8, u8⟩ := (H7.out.grown g8 (fun k hk => (oo.lt k hk).1)).cells)
          have H8 : Hid _ := H7.out.grown g8 (fun k hk => (oo.lt k hk).1)
          have O8 : Hid _ := o8
          clear oo o7 b7 hbs o8 g8 c0 c1 c2 c3
          go_at_call 14
          refine (digits 4 t.c _ g0 ?_ (by decide)).mono ?_
          · omega
          rintro e w9 ⟨q9, rfl, o9, b9⟩
          obtain ⟨p9, cp9, rfl, _, _⟩ := owns_shape o9 (by decide)
          have H9 : Hid _ := (H8.out).called b9
          have oo := owns_below (O8.out) b9
          have hbs : w.heap.size + 1 ≤ w9.heap.size := H9.out.lt
          go_wp2_with (at_builtin; refine wpList_append_own _ rfl _ _ 22 rfl (w.heap.size + 1) 5 i0 (.int .u8 0) 1 1 Try.underlying22 hi hz0 hz1 hz2 rfl (by decide) _ _ _ rfl oo ⟨p9, 0, none⟩ 4 cp9 ((be t.c 4).map (Value.int .u8)) rfl o9.1 (pc_cells o9) (pc_one _ _) (by unfold maxLen; omega) (by omega) hbs ?_; intro v10 w10 o10 g10 _; obtain ⟨x10, y10, z10, u10⟩ := (H9.out.grown g10 (fun k hk => (oo.lt k hk).1)).cells)
          have H10 : Hid _ := H9.out.grown g10 (fun k hk => (oo.lt k hk).1)
          have O10 : Hid _ := o10
          clear oo o9 b9 hbs o10 g10 x8 y8 z8 u8
          go_at_call 14
          refine (digits 4 t.d _ d0 ?_ (by decide)).mono ?_
          · omega
          rintro e w11 ⟨q11, rfl, o11, b11⟩
          obtain ⟨p11, cp11, rfl, _, _⟩ := owns_shape o11 (by decide)
          have H11 : Hid _ := (H10.out).called b11
          have oo := owns_below (O10.out) b11
          have hbs : w.heap.size + 1 ≤ w11.heap.size := H11.out.lt
          go_wp2_with (at_builtin; refine wpList_append_own _ rfl _ _ 22 rfl (w.heap.size + 1) 5 i0 (.int .u8 0) 1 1 Try.underlying22 hi hz0 hz1 hz2 rfl (by decide) _ _ _ rfl oo ⟨p11, 0, none⟩ 4 cp11 ((be t.d 4).map (Value.int .u8)) rfl o11.1 (pc_cells o11) (pc_one _ _) (by unfold maxLen; omega) (by omega) hbs ?_; intro v12 w12 o12 g12 _)
          have HF : Hid _ := And.intro o12 (H11.out.grown g12 (fun k hk => (oo.lt k hk).1)).bel
          clear oo o11 b11 hbs o12 g12
          go_wp2
          go_ret
          refine ⟨_, rfl, ?_, HF.out.2⟩
          rw [EV.out, List.map_append, List.map_append, List.map_append]
          exact owns_mono HF.out.1 (Nat.le_succ _)
end Go.Proofs.Ytjdmknlcjejecaa
