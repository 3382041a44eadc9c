import Derived.Test.YtocinjcbkolnhaaTgO
namespace Go.Proofs.Ytocinjcbkolnhaa
open Go.RowKit
set_option linter.unusedVariables false

theorem infoFd3 : (Try.prog.info? 35).map (fun i => (i.zero, i.size, i.bytes)) = some (some (.agg #[.string ⟨#[]⟩, .string ⟨#[]⟩]), 2, 32) := by kernel_rfl
/-- make([]Field, 124). -/
theorem mk124 : ∃ M : Array Value, (∀ W : World, (Instr.makeSlice 29 (.int .i64 124) (.int .i64 124)).run Try.prog W = .ok (.slice (some ⟨W.heap.size, 0, none⟩) 124 124) (W.alloc (.cells M 35))) ∧
    ∀ (W : World), GOwns 35 2 (W.alloc (.cells M 35)) W.heap.size (.slice (some ⟨W.heap.size, 0, none⟩) 124 124) (SField.L (List.replicate 124 default)) := by
  obtain ⟨i, hi, hz, hsz, hby⟩ := info_parts infoFd3
  refine ⟨madeCells (Value.agg #[.string ⟨#[]⟩, .string ⟨#[]⟩]).cells (124 * 2), fun W => ?_, fun W => ?_⟩
  · have r := run_make (P := Try.prog) W 29 35 i (.agg #[.string ⟨#[]⟩, .string ⟨#[]⟩]) Try.underlying29 hi hz .i64 .i64 124 124 (by decide) (Int.le_refl _) (by rw [hby]; decide) (by decide)
    rw [hsz] at r
    exact r
  · have ho : (W.alloc (.cells (madeCells (Value.agg #[.string ⟨#[]⟩, .string ⟨#[]⟩]).cells (124 * 2)) 35)).ownsRow W.heap.size 35 2 (.slice (some ⟨W.heap.size, 0, none⟩) 124 124) 124 (madeCells (Value.agg #[.string ⟨#[]⟩, .string ⟨#[]⟩]).cells (124 * 2)).toList := World.ownsRow_lit W _ 124 (Nat.le_refl _) (by decide) (by rw [size_madeCells])
    refine ⟨_, by simpa using ho, fun j hj f hf => ?_⟩
    rw [List.length_map, List.length_replicate] at hj
    rw [SField.at _ j (by simpa using hj)]
    have e : (List.replicate 124 (default : SField)).getD j default = default := by rw [List.getD_eq_getElem?_getD, List.getElem?_replicate, if_pos hj]; rfl
    rw [e]
    have hk : j * 2 + f < 248 := by omega
    have e2 : (madeCells (Value.agg #[.string ⟨#[]⟩, .string ⟨#[]⟩]).cells (124 * 2)).toList[j * 2 + f]? = some ((#[.string ⟨#[]⟩, .string ⟨#[]⟩] : Array Value)[(j * 2 + f) % 2]!) := by
      rw [Array.getElem?_toList]
      simp [madeCells, hk, Value.cells]
    rw [e2]
    obtain rfl | rfl : f = 0 ∨ f = 1 := by omega
    · rw [show (j * 2 + 0) % 2 = 0 by omega]; rfl
    · rw [show (j * 2 + 1) % 2 = 1 by omega]; rfl
/-- The entries lie in the cells of their numbers. -/
def RingHas (RL : List SField) (f : Nat) (L : List SField) (k : Nat) : Prop := ∀ j, j < k → RL.getD ((f + j) % 124) default = L.getD j default
theorem RingHas.put {RL L : List SField} {f k : Nat} (h : RingHas RL f L k) (hl : RL.length = 124) (hk : k < 124) (hkL : k < L.length) : RingHas (RL.set ((f + k) % 124) (L.getD k default)) f L (k + 1) := by
  intro j hj
  by_cases e : j = k
  · subst e
    have : (f + j) % 124 < RL.length := by rw [hl]; exact Nat.mod_lt _ (by decide)
    simp [List.getD, this]
  · have hne : (f + k) % 124 ≠ (f + j) % 124 := by omega
    have := h j (by omega)
    simp only [List.getD, List.getElem?_set_ne hne]
    exact this
theorem open_new (mo ca ad : Int) (ao : Option Addr) (n cp f : Nat) (w : World) (M : Array Value) (hM : ∀ (W : World), GOwns 35 2 (W.alloc (.cells M 35)) W.heap.size (.slice (some ⟨W.heap.size, 0, none⟩) 124 124) (SField.L (List.replicate 124 default))) :
    OT (((w.alloc (.cells #[.int .i64 mo, .int .i64 ca, .int .i64 ad, .slice ao n cp] 31)).alloc (.cells M 35)).alloc (.cells #[.slice (some ⟨w.heap.size + 1, 0, none⟩) 124 124, .int .i64 f, .int .i64 mo, .int .i64 ca, .int .i64 ad, .int .i64 0] 58)) (w.heap.size + 1 + 1) (w.heap.size + 1) (w.heap.size + 1) f mo ca ad 0 (List.replicate 124 default) := by
  have zal : ∀ (u : World) (o : Obj), (u.alloc o).heap.size = u.heap.size + 1 := fun u o => by simp
  have h1 := (MapKept.heap_alloc ((w.alloc (.cells #[.int .i64 mo, .int .i64 ca, .int .i64 ad, .slice ao n cp] 31)).alloc (.cells M 35)) (.cells #[.slice (some ⟨w.heap.size + 1, 0, none⟩) 124 124, .int .i64 f, .int .i64 mo, .int .i64 ca, .int .i64 ad, .int .i64 0] 58)).1
  rw [zal, zal] at h1
  have h2 := hM (w.alloc (.cells #[.int .i64 mo, .int .i64 ca, .int .i64 ad, .slice ao n cp] 31))
  rw [zal] at h2
  exact ⟨h1, h2.below ((Below.refl _ _).alloc (Nat.le_refl _) _), List.length_replicate, by omega⟩
set_option maxHeartbeats 4000000 in
set_option maxRecDepth 20000 in
theorem openI (mo ca ad : Int) (ao : Option Addr) (n cp f : Nat) (L : List SField) (w : World) (en : L.length = n) (hn : n ≤ 124) (ht : txs L ≤ 1048576) (ef : (f : Int) = ad - n) (had : ad ≤ 4611686018427387902) (hr : GRow 2 w (.slice ao n cp) (SField.L L)) :
    Calls Try.prog 27 #[.agg #[.int .i64 mo, .int .i64 ca, .int .i64 ad, .slice ao n cp]] w fun e w' => e = .returned (.pointer (some ⟨w.heap.size + 1 + 1, 0, none⟩)) ∧ (∃ RL, OT w' (w.heap.size + 1 + 1) (w.heap.size + 1) (w.heap.size + 1) f mo ca ad (csts L) RL ∧ RingHas RL f L n) ∧ Below w.heap.size w w' := by
  obtain ⟨M, hmk, hM⟩ := mk124
  have hc0 : csts L ≤ 1000000000 := by rw [csts_txs, en]; omega
  have HH : Hid _ := And.intro hr (And.intro en (And.intro ht hM))
  have hf0 : ad - (n : Int) = (f : Int) := ef.symm
  have hfb : (f : Int) ≤ 4611686018427387902 := by omega
  clear hr en ht hM ef
  go_enter Try.func27, Try.ntmps27
  go_upto_region 1 with fail
  go_cut [3] from 6 to 21 (fun cv wx => cv = .pointer (some ⟨w.heap.size + 1 + 1, 0, none⟩) ∧ OT wx (w.heap.size + 1 + 1) (w.heap.size + 1) (w.heap.size + 1) f mo ca ad 0 (List.replicate 124 default) ∧ Below w.heap.size w wx ∧ wx.cell? ⟨w.heap.size, 3, none⟩ = some (.slice ao n cp))
  case first =>
    go_region
    all_goals
      have B0 : Below w.heap.size w (((w.alloc (.cells #[.int .i64 mo, .int .i64 ca, .int .i64 ad, .slice ao n cp] 31)).alloc (.cells M 35)).alloc (.cells #[.slice (some ⟨w.heap.size + 1, 0, none⟩) 124 124, .int .i64 f, .int .i64 mo, .int .i64 ca, .int .i64 ad, .int .i64 0] 58)) := (((Below.refl _ _).alloc (Nat.le_refl _) _).alloc (by simp) _).alloc (by simp <;> omega) _
      have O0 := open_new mo ca ad ao n cp f w M HH.out.2.2.2
      have A0 := (((After.new w (.cells #[.int .i64 mo, .int .i64 ca, .int .i64 ad, .slice ao n cp] 31)).next ((Below.refl _ _).alloc (Nat.le_refl _) (.cells M 35))).next ((Below.refl _ _).alloc (Nat.le_refl _) (.cells #[.slice (some ⟨w.heap.size + 1, 0, none⟩) 124 124, .int .i64 f, .int .i64 mo, .int .i64 ca, .int .i64 ad, .int .i64 0] 58))).next (drew_below _)
      have OO : Hid _ := And.intro (B0.trans ((drew_below _).mono B0.size)) (And.intro (O0.below (drew_below _)) A0.cells.2.2.2)
      clear B0 O0 A0
      go_wp2_with fail
      go_meet
      exact ⟨rfl, OO.out.2.1, OO.out.1, OO.out.2.2⟩
  case rest =>
    obtain ⟨rfl, hot, hbl, hc3⟩ := hcut
    have OO : Hid _ := And.intro hbl hot
    clear hbl hot
    go_wp2_with fail
    go_loopw [25] (fun i wr => ∃ k : Nat, k ≤ n ∧ i = .int .i64 (k : Int) ∧ ∃ RL, OT wr (w.heap.size + 1 + 1) (w.heap.size + 1) (w.heap.size + 1) f mo ca ad (csts (L.take k)) RL ∧ RingHas RL f L k ∧ Below w.heap.size w wr) (fun i _ => n - (intOf i).toNat)
    case atStart => exact ⟨0, by omega, rfl, _, OO.out.2, fun j hj => by omega, OO.out.1⟩
    case round =>
      obtain ⟨k, hk, rfl, RL, ot, hRL, bw⟩ := hrel
      by_cases hlt : k < n
      · have hkL : k < L.length := by rw [HH.out.2.1]; exact hlt
        have hsc := csts_succ L k hkL
        have hle := csts_take L (k + 1)
        have hnn := csts_nn (L.take k)
        have hlo := cst_lo (L.getD k default)
        have hta := txs_at L k hkL
        have hput := hRL.put ot.len (by omega) hkL
        obtain ⟨b, off, cap, ev, hb, hc⟩ := frow_at (HH.out.1.below bw) (by omega)
        rw [HH.out.2.1] at ev
        simp only [Value.slice.injEq] at ev
        obtain ⟨rfl, em2, rfl⟩ := ev
        clear em2
        obtain ⟨c0, c1⟩ := row_field hc k hkL
        have CC : ∀ u, _ := fun u => costI (L.getD k default) u (by have := HH.out.2.2.1; omega)
        obtain ⟨F, eF⟩ : ∃ F, F = L.getD k default := ⟨_, rfl⟩
        rw [← eF] at hsc c0 c1 CC hlo hput
        obtain ⟨a, c⟩ := F
        simp only at c0 c1 CC
        obtain ⟨D, eD⟩ : ∃ D, D = cst ⟨a, c⟩ := ⟨_, rfl⟩
        obtain ⟨S, eS⟩ : ∃ S, S = csts (L.take k) := ⟨_, rfl⟩
        rw [← eD] at hsc CC hlo
        rw [← eS] at hsc hnn ot
        have s0 : 0 ≤ S := by omega
        have s1 : S + D ≤ 1000000000 := by omega
        have hfk2 : f + k ≤ 4611686018427387903 := by omega
        obtain ⟨p, ep⟩ : ∃ p, p = (f + k) % 124 := ⟨_, rfl⟩
        have hp : p < 124 := by omega
        rw [← ep] at hput
        have ot2 := ot.below ((Below.refl wr.heap.size wr).alloc (Nat.le_refl _) (.cells #[.string a, .string c] 35))
        have ot3 := ot2.below (drew_below _)
        have bw3 := (bw.trans (((Below.refl wr.heap.size wr).alloc (Nat.le_refl _) (.cells #[.string a, .string c] 35)).mono bw.size))
        have bw4 := bw3.trans ((drew_below _).mono bw3.size)
        obtain ⟨t0, t1, t2, t3, t4, t5⟩ := ot3.cells
        obtain ⟨v0, v1, v2, v3⟩ := ot3.at p hp
        have CA : ∀ u : World, u.cell? ⟨w.heap.size + 1 + 1, 0, none⟩ = some (.slice (some ⟨w.heap.size + 1, 0, none⟩) 124 124) → Calls Try.prog 33 #[.pointer (some ⟨w.heap.size + 1 + 1, 0, none⟩), .int .i64 ((f : Int) + (k : Int))] u fun e w' => e = .returned (.pointer (some ⟨w.heap.size + 1, p * 2, none⟩)) ∧ ∃ m, w' = u.drewN m := fun u h => by
          have := atF (w.heap.size + 1 + 1) 0 (w.heap.size + 1) (f + k) u h hfk2
          rw [← ep, show ((f + k : Nat) : Int) = (f : Int) + (k : Int) by omega] at this
          exact this
        have zz : w.heap.size + 1 + 1 < wr.heap.size := ot.lt.1
        have H1 : Hid _ := And.intro CA (And.intro CC (And.intro hsc (And.intro hput (And.intro ot3 bw4))))
        clear CA CC hsc hput ot2 ot3 bw3 bw4 ot bw hRL hc eF eD eS hle hnn hta hkL ep
        go_upto_region 5 with fail
        go_cut [40] from 30 to 42 (fun _ wx => OT wx (w.heap.size + 1 + 1) (w.heap.size + 1) (w.heap.size + 1) f mo ca ad S (RL.set p ⟨a, c⟩) ∧ Below w.heap.size w wx ∧ wx.heap[wr.heap.size]? = some (.cells #[.string a, .string c] 35 (0, 0)))
        case first =>
          obtain ⟨yk, y0, y1, _, _⟩ := ((After.new wr (.cells #[.string a, .string c] 35)).next (drew_below _)).cells2
          have CW : Hid (∀ u : World, u.cell? ⟨w.heap.size + 1 + 1, 0, none⟩ = some (.slice (some ⟨w.heap.size + 1, 0, none⟩) 124 124) → Calls Try.prog 33 #[.pointer (some ⟨w.heap.size + 1 + 1, 0, none⟩), .int .i64 (IntKind.i64.wrap ((f : Int) + (k : Int)))] u fun e w' => e = .returned (.pointer (some ⟨w.heap.size + 1, p * 2, none⟩)) ∧ ∃ m, w' = u.drewN m) := fun u h => by rw [show IntKind.i64.wrap ((f : Int) + (k : Int)) = (f : Int) + (k : Int) by rw [IntKind.wrap_i64]; omega]; exact H1.out.1 u h
          go_region_with (go_at_call 33; refine (CW.out (wr.alloc (.cells #[.string a, .string c] 35)).drew t0).mono ?_; rintro e wz ⟨rfl, m, hwz⟩; have HZ : Hid _ := And.intro hwz True.intro; have v0' : wz.cell? ⟨w.heap.size + 1, p * 2, none⟩ = some (.string (RL.getD p default).f0) := (by rw [hwz]; exact v0); have v1' : wz.cell? ⟨w.heap.size + 1, p * 2 + 1, none⟩ = some (.string (RL.getD p default).f1) := (by rw [hwz]; exact v1); have v2' : wz.frozen? ⟨w.heap.size + 1, p * 2, none⟩ = false := (by rw [hwz]; exact v2); have v3' : wz.frozen? ⟨w.heap.size + 1, p * 2 + 1, none⟩ = false := (by rw [hwz]; exact v3); have y0' : wz.cell? ⟨wr.heap.size, 0, none⟩ = some (.string a) := (by rw [hwz]; exact y0); have y1' : wz.cell? ⟨wr.heap.size, 1, none⟩ = some (.string c) := (by rw [hwz]; exact y1); clear hwz)
          all_goals
            have otz : OT wz (w.heap.size + 1 + 1) (w.heap.size + 1) (w.heap.size + 1) f mo ca ad S RL := by rw [HZ.out.1]; exact H1.out.2.2.2.2.1.below (below_drewN (Below.refl _ _) m)
            have bz : Below w.heap.size w wz := by rw [HZ.out.1]; exact below_drewN H1.out.2.2.2.2.2 m
            have kz : wz.heap[wr.heap.size]? = some (.cells #[.string a, .string c] 35 (0, 0)) := by rw [HZ.out.1]; exact yk
            have H2 : Hid _ := And.intro (otz.put p hp a c) (And.intro ((bz.setCell (p := ⟨w.heap.size + 1, p * 2, none⟩) (by show w.heap.size ≤ w.heap.size + 1; omega) (.string a)).setCell (p := ⟨w.heap.size + 1, p * 2 + 1, none⟩) (by show w.heap.size ≤ w.heap.size + 1; omega) (.string c)) ((bk_other (g := w.heap.size + 1) (k := wr.heap.size) (by omega) (p * 2 + 1) (.string c)).trans ((bk_other (g := w.heap.size + 1) (k := wr.heap.size) (by omega) (p * 2) (.string a)).trans kz)))
            clear otz bz kz
            go_wp2_with fail
            go_meet
            exact ⟨H2.out.1, H2.out.2.1, H2.out.2.2⟩
        case rest =>
          obtain ⟨hot, hbl, hkz⟩ := hcut
          rename World => wx
          have HX : Hid _ := And.intro hot (And.intro hbl hkz)
          clear hot hbl hkz t0 t1 t2 t3 t4 t5 v0 v1 v2 v3
          have otd := HX.out.1.below (drew_below wx)
          have bd := HX.out.2.1.trans ((drew_below wx).mono HX.out.2.1.size)
          have kd : wx.drew.heap[wr.heap.size]? = some (.cells #[.string a, .string c] 35 (0, 0)) := HX.out.2.2
          obtain ⟨t0, t1, t2, t3, t4, t5⟩ := otd.cells
          have g5 : wx.drew.frozen? ⟨w.heap.size + 1 + 1, 5, none⟩ = false := bk_free otd.blk 5
          have y0 : wx.drew.cell? ⟨wr.heap.size, 0, none⟩ = some (.string a) := by rw [bk_cell kd]; rfl
          have y1 : wx.drew.cell? ⟨wr.heap.size, 1, none⟩ = some (.string c) := by rw [bk_cell kd]; rfl
          have HW : Hid _ := And.intro otd (And.intro bd kd)
          clear otd bd kd
          go_upto_region 6 with fail
          go_region_with (go_at_call 31; refine (H1.out.2.1 wx.drew).mono ?_; rintro e wz ⟨rfl, bz⟩; have otz := HW.out.1.below bz; obtain ⟨_, _, _, _, _, t5'⟩ := otz.cells; have g5' : wz.frozen? ⟨w.heap.size + 1 + 1, 5, none⟩ = false := bk_free otz.blk 5; have HZ : Hid _ := And.intro otz (HW.out.2.1.trans (bz.mono HW.out.2.1.size)); clear otz bz)
          all_goals
            have e5 : IntKind.i64.wrap (S + D) = S + D := by rw [IntKind.wrap_i64]; omega
            rw [e5]
            have H3 : Hid _ := And.intro (HZ.out.1.setCost (S + D)) (HZ.out.2.setCell (p := ⟨w.heap.size + 1 + 1, 5, none⟩) (by show w.heap.size ≤ w.heap.size + 1 + 1; omega) (.int .i64 (S + D)))
            go_wp2_with fail
            go_roundw
            case rel => exact ⟨k + 1, by omega, by go_num, _, by rw [H1.out.2.2.1]; exact H3.out.1, H1.out.2.2.2.1, H3.out.2⟩
            case measure => simp [intOf]; omega
      · obtain rfl : k = n := by omega
        have e1 : L.take k = L := List.take_of_length_le (by rw [HH.out.2.1]; exact Nat.le_refl _)
        rw [e1] at ot
        have H1 : Hid _ := And.intro ot (And.intro hRL bw)
        clear ot hRL bw e1
        go_wp2
        go_ret
        exact ⟨rfl, ⟨RL, H1.out.1, H1.out.2.1⟩, H1.out.2.2⟩
end Go.Proofs.Ytocinjcbkolnhaa
