import Derived.Test.YtcljchbceeiheaaDoorEqBytes
import Derived.Test.YtcljchbceeiheaaDoorMarkBytes
import Derived.Test.YtcljchbceeiheaaDoorToBytes
import Derived.Test.YtcljchbceeiheaaDoorKeys
import Derived.Test.YtcljchbceeiheaaDoorBook
import Derived.Test.YtcljchbceeiheaaDoorHjC
import Derived.Test.YtcljchbceeiheaaDoorToHel
import Derived.Deep.RegionWith
import Derived.Deep.CutRange
import Derived.Laws.Rows
import Derived.Laws.Tables
import Derived.Test.YtcljchbceeiheaaDoorHjB
import Derived.Test.YtcljchbceeiheaaDoorHjD
import Derived.Test.YtcljchbceeiheaaDoorHigh
import Derived.Test.YtcljchbceeiheaaDoorIConcat
import Derived.Test.YtcljchbceeiheaaDoorPartsB
import Derived.Test.YtcljchbceeiheaaDoorCards
import Derived.Test.YtcljchbceeiheaaDoorTie
import Derived.Test.YtcljchbceeiheaaDoorHjF
import Derived.Lib.LaidTab
namespace Go.Proofs.YtcljchbceeiheaaDoor
open Go.RowKit
set_option linter.unusedVariables false

theorem infoHelL18 : (Tryd.prog.info? 28).map (·.size) = some 18 := by kernel_rfl
theorem infoHelI18 : (Tryd.prog.info? 34).map (·.size) = some 18 := by kernel_rfl
theorem setRow_new (w : World) (old cs : Array Value) (t : TypeId) : (w.alloc (.cells old t)).setRow w.heap.size cs = w.alloc (.cells cs t) := by
  simp [World.setRow, World.alloc, -World.alloc_eq]
  apply Array.ext
  · simp
  · intro i h1 h2
    rw [Array.getElem_modify]
    by_cases e : w.heap.size = i
    · subst e; simp
    · have hi : i < w.heap.size := by simp at h2; omega
      rw [if_neg e, Array.getElem_push_lt hi, Array.getElem_push_lt hi]
theorem step_wpH {ops : Array Oper} {o : Oper} {a : Act} {w : World} {K : Act → World → Prop} {Q : Exit → Act → World → Prop} {E : Prop} (hgd : o.guard = none) (h : Oper.wp Tryd.prog o a w K Q) :
    if Region.wanted o (yielded ops a.tmps) = true then Oper.wp Tryd.prog o a w K Q else E := by
  have hw : Region.wanted o (yielded ops a.tmps) = true := by simp [Region.wanted, hgd]
  rw [if_pos hw]
  exact h
theorem put_litH (l : List Value) (d : Nat) (v : Value) (ds : List _) : ({ tmps := l.toArray, defers := ds } : Act).put (some d) v = { tmps := (l.set d v).toArray, defers := ds } := by
  simp [Act.put]
theorem helloBytes_hugeK (v0 : Value) (k0 : HE) (w : World) (row0 : HERow w v0 k0) (sm : k0.small 9223372036854775807 ∧ k0.texts 9223372036854775807) (ho : 1048576 < k0.total) :
    Calls Tryd.prog 3 #[v0] w fun e w' => e = .returned (.bool true) ∧ Below w.heap.size w w' := by
  obtain ⟨d0, d1, d2, d3, d4, d5, rfl, _⟩ := id row0
  obtain ⟨CA, eCA⟩ : ∃ CA : Array Value, CA = #[.int .i64 k0.kd, .int .i64 k0.vr, d0, d1, d2, .int .i64 k0.par.a0, .int .i64 k0.par.a1, .int .i64 k0.par.a2, .int .i64 k0.par.a3, .int .i64 k0.par.a4, .int .i64 k0.par.a5, .int .i64 k0.par.a6, .int .i64 k0.par.a7, .int .i64 k0.par.a8, .bool k0.par.m, d3, d4, d5] := ⟨_, rfl⟩
  have SZA : Hid ((Tryd.prog.info? 28).map (·.size) = some CA.size) := by rw [eCA]; exact infoHelL18
  rw [← eCA] at row0 ⊢
  have ECA : Hid _ := And.intro eCA True.intro
  clear eCA
  have WB : Below w.heap.size w (w.alloc (.cells CA 28)) := (Below.refl _ _).alloc (Nat.le_refl _) _
  have C := heszO _ k0 1048576 _ (row0.below WB) sm (by decide) (by decide) ho
  have HW : Hid _ := WB
  clear row0 sm ho WB
  go_enter Tryd.func3, Tryd.ntmps3
  go_wp2_with (refine wpList_load_row rfl 28 _ rfl w.heap.size rfl 28 CA (0, 0) _ (heap_alloc_new w _) Tryd.underlying28 rfl SZA.out ?_)
  go_at_call 4
  refine C.mono ?_
  rintro e w1 ⟨rfl, b1⟩
  have HB : Hid _ := HW.out.trans (b1.mono HW.out.size)
  clear b1 C
  go_wp2
  go_ret
  exact ⟨rfl, HB.out⟩
set_option maxRecDepth 20000 in
set_option maxHeartbeats 8000000 in
theorem helloBytesLaw (v0 : Value) (k0 : HE) (y : List Int) (c1 : Int) (w : World) (Inv : World → Prop) (hInv : ∀ w' : World, Below w.heap.size w w' → Inv w') (row0 : HERow w v0 k0) (l0 : k0.small 1048576) (t0 : k0.total ≤ 1048576) (lr : y.length ≤ 4194304)
    (hS : ∀ (w : World) (u0 : Value), HERow w u0 k0 → Calls Tryd.prog 5 #[u0] w fun e w' => ∃ r, e = .returned (.tuple #[r, .int .i64 c1]) ∧ w'.ownsRow w.heap.size 5 1 r y.length (y.map (Value.int .u8)) ∧ Below w.heap.size w w')
    (hI : ∀ (w : World) (u0 : Value), Inv w → HERow w u0 k0 → Calls Tryd.prog 7 #[u0] w fun e w' => ∃ r, e = .returned (.tuple #[r, .int .i64 c1]) ∧ w'.ownsRow w.heap.size 5 1 r y.length (y.map (Value.int .u8)) ∧ Below w.heap.size w w') :
    Calls Tryd.prog 3 #[v0] w fun e w' => e = .returned (.bool true) ∧ Below w.heap.size w w' := by
  have TB0 : Hid (∀ w : World, HERow w v0 k0 → Calls Tryd.prog 6 #[v0] w fun e w' => ∃ r, e = .returned r ∧ HEOwns w' w.heap.size r k0 ∧ Below w.heap.size w w') := fun w h => toHel v0 k0 w h (hesmall_mono l0 (by decide))
  obtain ⟨d0, d1, d2, d3, d4, d5, rfl, _⟩ := id row0
  obtain ⟨CA, eCA⟩ : ∃ CA : Array Value, CA = #[.int .i64 k0.kd, .int .i64 k0.vr, d0, d1, d2, .int .i64 k0.par.a0, .int .i64 k0.par.a1, .int .i64 k0.par.a2, .int .i64 k0.par.a3, .int .i64 k0.par.a4, .int .i64 k0.par.a5, .int .i64 k0.par.a6, .int .i64 k0.par.a7, .int .i64 k0.par.a8, .bool k0.par.m, d3, d4, d5] := ⟨_, rfl⟩
  have SZA : Hid ((Tryd.prog.info? 28).map (·.size) = some CA.size) := by rw [eCA]; exact infoHelL18
  rw [← eCA] at row0 TB0 ⊢
  have ECA : Hid _ := And.intro eCA True.intro
  clear eCA
  have WB : Below w.heap.size w (w.alloc (.cells CA 28)) := (Below.refl _ _).alloc (Nat.le_refl _) _
  have B0 := (Book.nil w).add (.cells CA 28)
  have CZ := heszF _ k0 1048576 _ (row0.below WB) (hesmall_mono l0 (by decide)) (by decide) (by decide) t0
  have tt0 : 0 ≤ k0.total := hetot_nn _
  obtain ⟨lt, el⟩ : ∃ lt, lt = 1048576 - k0.total := ⟨_, rfl⟩
  rw [← el] at CZ
  have lt0 : 0 ≤ lt := by omega
  have mn0 := hemarks_nn k0
  have EN0 : Hid _ := And.intro l0 (And.intro row0 True.intro)
  obtain ⟨kp0, kp1, kp2, kp3, kp4, kp5⟩ := id l0
  have hc1 : (c1 != c1) = false := by simp
  obtain ⟨m, em⟩ : ∃ m, m = y.length := ⟨_, rfl⟩
  rw [← em] at lr hS hI
  have EM : Hid _ := And.intro em True.intro
  have HS : Hid _ := And.intro hS True.intro
  have HI : Hid _ := And.intro hI True.intro
  have HV : Hid _ := And.intro hInv True.intro
  have C_0 : Hid _ := And.intro WB True.intro
  have B_0 : Hid _ := And.intro B0 True.intro
  have y_0 : (w.alloc (.cells CA 28)).heap.size = w.heap.size + 1 := by simp
  clear hS hI hInv row0 el tt0 t0 l0 em WB B0
  go_enter Tryd.func3, Tryd.ntmps3
  go_wp2_with (refine wpList_load_row rfl 28 _ rfl w.heap.size rfl 28 CA (0, 0) _ (heap_alloc_new w _) Tryd.underlying28 rfl SZA.out ?_)
  go_at_call 4
  refine CZ.mono ?_
  rintro e w1 ⟨rfl, bz⟩
  have z_1 : (w.alloc (.cells CA 28)).heap.size ≤ w1.heap.size := bz.size
  have C_1 : Hid _ := And.intro (C_0.out.1.trans (bz.mono C_0.out.1.size)) True.intro
  have B_1 : Hid _ := And.intro (B_0.out.1.below bz) True.intro
  clear CZ bz
  go_wp2_with (refine wpList_load_row rfl 28 _ rfl w.heap.size rfl 28 CA (0, 0) _ (B_1.out.1.blk _ _ (by simp)) Tryd.underlying28 rfl SZA.out ?_)
  go_at_call 6
  refine (TB0.out _ (HERow.below EN0.out.2.1 C_1.out.1)).mono ?_
  rintro e w2 ⟨T0, rfl, oT0, bT0⟩
  have z_2 : w1.heap.size ≤ w2.heap.size := bT0.size
  have C_2 : Hid _ := And.intro (C_1.out.1.trans (bT0.mono C_1.out.1.size)) True.intro
  have B_2 : Hid _ := And.intro (B_1.out.1.below bT0) True.intro
  have T0_2 : Hid _ := And.intro oT0 (fun g (hg : HEBlk _ g) => HEOwns.blk oT0 g hg)
  clear oT0 bT0
  go_wp2_with fail
  go_at_call 5
  refine (HS.out.1 _ _ (HEOwns.row T0_2.out.1)).mono ?_
  rintro e w3 ⟨S, rfl, oS, bS⟩
  have z_3 : w2.heap.size ≤ w3.heap.size := bS.size
  have T0_3 : Hid _ := And.intro (HEOwns.below T0_2.out.1 bS) T0_2.out.2
  have C_3 : Hid _ := And.intro (C_2.out.1.trans (bS.mono C_2.out.1.size)) True.intro
  have B_3 : Hid _ := And.intro (B_2.out.1.below bS) True.intro
  have S_3 : Hid _ := And.intro oS (fun g (hg : Value.ownBlock _ = some g) => oS.lt g hg)
  clear oS bS
  go_wp2_with (refine wpList_load_row rfl 28 _ rfl w.heap.size rfl 28 CA (0, 0) _ (B_3.out.1.blk _ _ (by simp)) Tryd.underlying28 rfl SZA.out ?_)
  go_at_call 6
  refine (TB0.out _ (HERow.below EN0.out.2.1 C_3.out.1)).mono ?_
  rintro e w4 ⟨X0, rfl, oX0, bX0⟩
  have z_4 : w3.heap.size ≤ w4.heap.size := bX0.size
  have S_4 : Hid _ := And.intro (owns_below S_3.out.1 bX0) S_3.out.2
  have C_4 : Hid _ := And.intro (C_3.out.1.trans (bX0.mono C_3.out.1.size)) True.intro
  have B_4 : Hid _ := And.intro (B_3.out.1.below bX0) True.intro
  have X0_4 : Hid _ := And.intro oX0 (fun g (hg : HEBlk _ g) => HEOwns.blk oX0 g hg)
  clear oX0 bX0
  obtain ⟨X0a0, X0a1, X0a2, X0a3, X0a4, X0a5, X0p0, X0p1, X0p2, X0p3, X0p4, X0p5, eX0⟩ := HEOwns.parts X0_4.out.1
  subst eX0
  obtain ⟨CX, eCX⟩ : ∃ CX : Array Value, CX = #[.int .i64 k0.kd, .int .i64 k0.vr, .slice X0a0 k0.rnd.length X0p0, .slice X0a1 k0.vers.length X0p1, .slice X0a2 k0.nms.length X0p2, .int .i64 k0.par.a0, .int .i64 k0.par.a1, .int .i64 k0.par.a2, .int .i64 k0.par.a3, .int .i64 k0.par.a4, .int .i64 k0.par.a5, .int .i64 k0.par.a6, .int .i64 k0.par.a7, .int .i64 k0.par.a8, .bool k0.par.m, .slice X0a3 k0.par.o.length X0p3, .slice X0a4 k0.par.t.length X0p4, .slice X0a5 k0.par.f.length X0p5] := ⟨_, rfl⟩
  have SZX : Hid ((Tryd.prog.info? 34).map (·.size) = some CX.size) := by rw [eCX]; exact infoHelI18
  have oCX : CX.all (·.oneCell') = true := by rw [eCX]; simp [Value.oneCell']
  have OCX : Hid (CX.all (·.oneCell') = true) := oCX
  clear oCX
  rw [← eCX] at X0_4 ⊢
  have ECX : Hid _ := And.intro eCX True.intro
  clear eCX
  have alX0 : Below w4.heap.size w4 (w4.alloc (.cells CX 34)) := (Below.refl _ _).alloc (Nat.le_refl _) _
  have z_5 : w4.heap.size ≤ (w4.alloc (.cells CX 34)).heap.size := alX0.size
  have S_5 : Hid _ := And.intro (owns_below S_4.out.1 alX0) S_4.out.2
  have X0_5 : Hid _ := And.intro (HEOwns.below X0_4.out.1 alX0) X0_4.out.2
  have C_5 : Hid _ := And.intro (C_4.out.1.trans (alX0.mono C_4.out.1.size)) True.intro
  have B_5 : Hid _ := And.intro (B_4.out.1.add (.cells CX 34)) True.intro
  have y_5 : (w4.alloc (.cells CX 34)).heap.size = w4.heap.size + 1 := by simp
  clear alX0
  go_wp2_with (first | (refine wpList_store_row rfl 34 _ _ rfl w4.heap.size CX rfl rfl 34 _ (heap_alloc_new w4 _) SZX.out (by rw [ECX.out.1]; rfl) OCX.out ?_; rw [setRow_new]) | (refine wpList_load_row rfl 34 _ rfl w4.heap.size rfl 34 CX (0, 0) _ (heap_alloc_new w4 _) Tryd.underlying34 rfl SZX.out ?_))
  go_at_call 7
  refine (HI.out.1 _ _ (HV.out.1 _ C_5.out.1) (HEOwns.row X0_5.out.1)).mono ?_
  rintro e w5 ⟨G, rfl, oG, bG⟩
  have z_6 : (w4.alloc (.cells CX 34)).heap.size ≤ w5.heap.size := bG.size
  have S_6 : Hid _ := And.intro (owns_below S_5.out.1 bG) S_5.out.2
  have X0_6 : Hid _ := And.intro (HEOwns.below X0_5.out.1 bG) X0_5.out.2
  have C_6 : Hid _ := And.intro (C_5.out.1.trans (bG.mono C_5.out.1.size)) True.intro
  have B_6 : Hid _ := And.intro (B_5.out.1.below bG) True.intro
  have G_6 : Hid _ := And.intro oG (fun g (hg : Value.ownBlock _ = some g) => oG.lt g hg)
  clear oG bG
  go_wp2_with fail
  go_at_call 8
  refine (eqBytes_same _ _ y _ (row_of_owns G_6.out.1) (row_of_owns S_6.out.1) (by rw [← EM.out.1]; omega)).mono ?_
  rintro e w6 ⟨rfl, mw6, hw⟩
  have dw6 : Below w5.heap.size w5 w6 := by rw [hw]; exact below_drewN (Below.refl _ _) mw6
  clear hw
  have z_7 : w5.heap.size ≤ w6.heap.size := dw6.size
  have S_7 : Hid _ := And.intro (owns_below S_6.out.1 dw6) S_6.out.2
  have X0_7 : Hid _ := And.intro (HEOwns.below X0_6.out.1 dw6) X0_6.out.2
  have G_7 : Hid _ := And.intro (owns_below G_6.out.1 dw6) G_6.out.2
  have C_7 : Hid _ := And.intro (C_6.out.1.trans (dw6.mono C_6.out.1.size)) True.intro
  have B_7 : Hid _ := And.intro (B_6.out.1.below dw6) True.intro
  clear dw6
  go_upto_region 10 with fail
  go_cut [45] from 41 to 45 (fun cv wx => cv = .bool false ∧ Below w6.heap.size w6 wx)
  case first =>
    rename_i J K' hJ hK'
    have D : Hid (Below w6.heap.size w6 w6.drew) := ⟨rfl, rfl, rfl, Nat.le_refl _, fun _ _ => rfl⟩
    have CD : Hid _ := And.intro (C_7.out.1.trans (D.out.mono C_7.out.1.size)) True.intro
    refine wp_region_any (by kernel_rfl) ?_
    try (change wpAny _ _ _ _ _ _ _ (World.drew _))
    refine wpAny_ready (rs := [0, 1]) (by kernel_rfl) (by simp) ?_
    refine AllReady.cons rfl (fun K hK => ?_) ?_
    · refine step_wpH rfl (wp_load_row 34 (.tmp 6) rfl w4.heap.size rfl 34 CX (0, 0) _ (B_7.out.1.drew.blk w4.heap.size (.cells CX 34) (by simp)) Tryd.underlying34 rfl SZX.out ?_)
      refine hK _ _ ?_
      clear hK K
      try (change wpAny _ _ _ _ _ _ (Act.put _ (some 41) _) _; rw [put_litH]; simp only [List.set_cons_succ, List.set_cons_zero])
      refine wpAny_ready (rs := [1]) (by kernel_rfl) (by simp) ?_
      refine AllReady.cons rfl (fun K hK => ?_) ?_
      · refine step_wpH rfl (wp_load_row 28 (.tmp 1) rfl w.heap.size rfl 28 CA (0, 0) _ (B_7.out.1.drew.blk w.heap.size (.cells CA 28) (by simp)) Tryd.underlying28 rfl SZA.out ?_)
        refine hK _ _ ?_
        clear hK K
        try (change wpAny _ _ _ _ _ _ (Act.put _ (some 42) _) _; rw [put_litH]; simp only [List.set_cons_succ, List.set_cons_zero])
        refine wpAny_ready (rs := [2]) (by kernel_rfl) (by simp) ?_
        refine AllReady.cons rfl (fun K hK => ?_) ?_
        · go_simp
          go_at_call 6
          refine (TB0.out w6.drew (HERow.below EN0.out.2.1 CD.out.1)).mono ?_
          rintro e wy ⟨ry, rfl, oy, by'⟩
          dsimp only
          refine hK _ _ ?_
          clear hK K
          try (change wpAny _ _ _ _ _ _ (Act.put _ (some 43) _) _; rw [put_litH]; simp only [List.set_cons_succ, List.set_cons_zero])
          refine wpAny_ready (rs := [3]) (by kernel_rfl) (by simp) ?_
          refine AllReady.cons rfl (fun K hK => ?_) ?_
          · go_simp
            go_at_call 9
            refine (eqHel_same _ _ k0 wy (HEOwns.row ((HEOwns.below X0_7.out.1 D.out).below by')) oy.row (hesmall_mono EN0.out.1 (by decide))).mono ?_
            rintro e wz ⟨rfl, bz⟩
            dsimp only
            refine hK _ _ ?_
            clear hK K
            try (change wpAny _ _ _ _ _ _ (Act.put _ (some 44) _) _; rw [put_litH]; simp only [List.set_cons_succ, List.set_cons_zero])
            refine wpAny_ready (rs := [4]) (by kernel_rfl) (by simp) ?_
            refine AllReady.cons rfl (fun K hK => ?_) ?_
            · go_simp
              refine hK _ _ ?_
              clear hK K
              try (change wpAny _ _ _ _ _ _ (Act.put _ (some 45) _) _; rw [put_litH]; simp only [List.set_cons_succ, List.set_cons_zero])
              refine wpAny_done (by kernel_rfl) ?_ _
              change K' _ _
              refine hK' _ _ (Met.intro (hJ _ _ ?_))
              (repeat apply Exists.intro)
              refine ⟨?_, rfl⟩
              exact ⟨rfl, D.out.trans ((by'.trans (bz.mono by'.size)).mono D.out.size)⟩
            exact AllReady.nil
          exact AllReady.nil
        exact AllReady.nil
      exact AllReady.nil
    refine AllReady.cons rfl (fun K hK => ?_) ?_
    · refine step_wpH rfl (wp_load_row 28 (.tmp 1) rfl w.heap.size rfl 28 CA (0, 0) _ (B_7.out.1.drew.blk w.heap.size (.cells CA 28) (by simp)) Tryd.underlying28 rfl SZA.out ?_)
      refine hK _ _ ?_
      clear hK K
      try (change wpAny _ _ _ _ _ _ (Act.put _ (some 42) _) _; rw [put_litH]; simp only [List.set_cons_succ, List.set_cons_zero])
      refine wpAny_ready (rs := [0, 2]) (by kernel_rfl) (by simp) ?_
      refine AllReady.cons rfl (fun K hK => ?_) ?_
      · refine step_wpH rfl (wp_load_row 34 (.tmp 6) rfl w4.heap.size rfl 34 CX (0, 0) _ (B_7.out.1.drew.blk w4.heap.size (.cells CX 34) (by simp)) Tryd.underlying34 rfl SZX.out ?_)
        refine hK _ _ ?_
        clear hK K
        try (change wpAny _ _ _ _ _ _ (Act.put _ (some 41) _) _; rw [put_litH]; simp only [List.set_cons_succ, List.set_cons_zero])
        refine wpAny_ready (rs := [2]) (by kernel_rfl) (by simp) ?_
        refine AllReady.cons rfl (fun K hK => ?_) ?_
        · go_simp
          go_at_call 6
          refine (TB0.out w6.drew (HERow.below EN0.out.2.1 CD.out.1)).mono ?_
          rintro e wy ⟨ry, rfl, oy, by'⟩
          dsimp only
          refine hK _ _ ?_
          clear hK K
          try (change wpAny _ _ _ _ _ _ (Act.put _ (some 43) _) _; rw [put_litH]; simp only [List.set_cons_succ, List.set_cons_zero])
          refine wpAny_ready (rs := [3]) (by kernel_rfl) (by simp) ?_
          refine AllReady.cons rfl (fun K hK => ?_) ?_
          · go_simp
            go_at_call 9
            refine (eqHel_same _ _ k0 wy (HEOwns.row ((HEOwns.below X0_7.out.1 D.out).below by')) oy.row (hesmall_mono EN0.out.1 (by decide))).mono ?_
            rintro e wz ⟨rfl, bz⟩
            dsimp only
            refine hK _ _ ?_
            clear hK K
            try (change wpAny _ _ _ _ _ _ (Act.put _ (some 44) _) _; rw [put_litH]; simp only [List.set_cons_succ, List.set_cons_zero])
            refine wpAny_ready (rs := [4]) (by kernel_rfl) (by simp) ?_
            refine AllReady.cons rfl (fun K hK => ?_) ?_
            · go_simp
              refine hK _ _ ?_
              clear hK K
              try (change wpAny _ _ _ _ _ _ (Act.put _ (some 45) _) _; rw [put_litH]; simp only [List.set_cons_succ, List.set_cons_zero])
              refine wpAny_done (by kernel_rfl) ?_ _
              change K' _ _
              refine hK' _ _ (Met.intro (hJ _ _ ?_))
              (repeat apply Exists.intro)
              refine ⟨?_, rfl⟩
              exact ⟨rfl, D.out.trans ((by'.trans (bz.mono by'.size)).mono D.out.size)⟩
            exact AllReady.nil
          exact AllReady.nil
        exact AllReady.nil
      refine AllReady.cons rfl (fun K hK => ?_) ?_
      · go_simp
        go_at_call 6
        refine (TB0.out w6.drew (HERow.below EN0.out.2.1 CD.out.1)).mono ?_
        rintro e wy ⟨ry, rfl, oy, by'⟩
        dsimp only
        refine hK _ _ ?_
        clear hK K
        try (change wpAny _ _ _ _ _ _ (Act.put _ (some 43) _) _; rw [put_litH]; simp only [List.set_cons_succ, List.set_cons_zero])
        refine wpAny_ready (rs := [0]) (by kernel_rfl) (by simp) ?_
        refine AllReady.cons rfl (fun K hK => ?_) ?_
        · refine step_wpH rfl (wp_load_row 34 (.tmp 6) rfl w4.heap.size rfl 34 CX (0, 0) _ ((B_7.out.1.drew.below by').blk w4.heap.size (.cells CX 34) (by simp)) Tryd.underlying34 rfl SZX.out ?_)
          refine hK _ _ ?_
          clear hK K
          try (change wpAny _ _ _ _ _ _ (Act.put _ (some 41) _) _; rw [put_litH]; simp only [List.set_cons_succ, List.set_cons_zero])
          refine wpAny_ready (rs := [3]) (by kernel_rfl) (by simp) ?_
          refine AllReady.cons rfl (fun K hK => ?_) ?_
          · go_simp
            go_at_call 9
            refine (eqHel_same _ _ k0 wy (HEOwns.row ((HEOwns.below X0_7.out.1 D.out).below by')) oy.row (hesmall_mono EN0.out.1 (by decide))).mono ?_
            rintro e wz ⟨rfl, bz⟩
            dsimp only
            refine hK _ _ ?_
            clear hK K
            try (change wpAny _ _ _ _ _ _ (Act.put _ (some 44) _) _; rw [put_litH]; simp only [List.set_cons_succ, List.set_cons_zero])
            refine wpAny_ready (rs := [4]) (by kernel_rfl) (by simp) ?_
            refine AllReady.cons rfl (fun K hK => ?_) ?_
            · go_simp
              refine hK _ _ ?_
              clear hK K
              try (change wpAny _ _ _ _ _ _ (Act.put _ (some 45) _) _; rw [put_litH]; simp only [List.set_cons_succ, List.set_cons_zero])
              refine wpAny_done (by kernel_rfl) ?_ _
              change K' _ _
              refine hK' _ _ (Met.intro (hJ _ _ ?_))
              (repeat apply Exists.intro)
              refine ⟨?_, rfl⟩
              exact ⟨rfl, D.out.trans ((by'.trans (bz.mono by'.size)).mono D.out.size)⟩
            exact AllReady.nil
          exact AllReady.nil
        exact AllReady.nil
      exact AllReady.nil
    exact AllReady.nil
  case rest =>
  obtain ⟨rfl, bc⟩ := hcut
  have z_8 : w6.heap.size ≤ wc.heap.size := bc.size
  have S_8 : Hid _ := And.intro (owns_below S_7.out.1 bc) S_7.out.2
  have X0_8 : Hid _ := And.intro (HEOwns.below X0_7.out.1 bc) X0_7.out.2
  have G_8 : Hid _ := And.intro (owns_below G_7.out.1 bc) G_7.out.2
  have C_8 : Hid _ := And.intro (C_7.out.1.trans (bc.mono C_7.out.1.size)) True.intro
  have B_8 : Hid _ := And.intro (B_7.out.1.below bc) True.intro
  clear bc
  go_wp2_with (refine wpList_load_row rfl 34 _ rfl w4.heap.size rfl 34 CX (0, 0) _ (B_8.out.1.blk _ _ (by simp)) Tryd.underlying34 rfl SZX.out ?_)
  go_at_call 10
  refine (markHel 1 _ _ k0 _ (hesmall_mono EN0.out.1 (by decide)) (by omega) (by omega) X0_8.out.1).mono ?_
  rintro e w7 ⟨rfl, om, ch⟩
  have z_9 : wc.heap.size ≤ w7.heap.size := ch.size
  have S_9 : Hid _ := And.intro (ch.owns S_8.out.1 (fun g hg hs => by have p1 := S_8.out.2 g hg; have p2 := X0_8.out.2 g hs; omega)) S_8.out.2
  have G_9 : Hid _ := And.intro (ch.owns G_8.out.1 (fun g hg hs => by have p1 := G_8.out.2 g hg; have p2 := X0_8.out.2 g hs; omega)) G_8.out.2
  have C_9 : Hid _ := And.intro (C_8.out.1.trans (ch.below C_8.out.1.size (fun g hg => by have p2 := X0_8.out.2 g hg; omega))) True.intro
  have B_9 : Hid _ := And.intro (B_8.out.1.chg ch (fun b o hm hs => by have p2 := X0_8.out.2 b hs; simp at hm; rcases hm with ⟨hm, _⟩ | ⟨hm, _⟩ <;> omega)) True.intro
  have X0_9 : Hid _ := And.intro (show HEOwns _ _ _ _ from om) X0_8.out.2
  clear om ch
  go_wp2_with fail
  go_at_call 8
  refine (eqBytes_same _ _ y _ (row_of_owns G_9.out.1) (row_of_owns S_9.out.1) (by rw [← EM.out.1]; omega)).mono ?_
  rintro e w8 ⟨rfl, mw8, hw⟩
  have dw8 : Below w7.heap.size w7 w8 := by rw [hw]; exact below_drewN (Below.refl _ _) mw8
  clear hw
  have z_10 : w7.heap.size ≤ w8.heap.size := dw8.size
  have S_10 : Hid _ := And.intro (owns_below S_9.out.1 dw8) S_9.out.2
  have X0_10 : Hid _ := And.intro (HEOwns.below X0_9.out.1 dw8) X0_9.out.2
  have G_10 : Hid _ := And.intro (owns_below G_9.out.1 dw8) G_9.out.2
  have C_10 : Hid _ := And.intro (C_9.out.1.trans (dw8.mono C_9.out.1.size)) True.intro
  have B_10 : Hid _ := And.intro (B_9.out.1.below dw8) True.intro
  clear dw8
  go_wp2_with fail
  go_at_call 11
  refine (markBytes 1 m _ _ y _ (by omega) (by omega) (by omega) (G_10.out.1)).mono ?_
  rintro e w9 ⟨rfl, om, bm, zm, om'⟩
  have ch : Chg (fun g => Value.ownBlock _ = some g) _ _ := Chg.of_only om' (fun g e => e)
  have z_11 : w8.heap.size ≤ w9.heap.size := ch.size
  have S_11 : Hid _ := And.intro (ch.owns S_10.out.1 (fun g hg hs => by have p1 := S_10.out.2 g hg; have p2 := G_10.out.2 g hs; omega)) S_10.out.2
  have X0_11 : Hid _ := And.intro (ch.heowns2 X0_10.out.1 (fun g hg hs => by have p1 := X0_10.out.2 g hg; have p2 := G_10.out.2 g hs; omega)) X0_10.out.2
  have C_11 : Hid _ := And.intro (C_10.out.1.trans (ch.below C_10.out.1.size (fun g hg => by have p2 := G_10.out.2 g hg; omega))) True.intro
  have B_11 : Hid _ := And.intro (B_10.out.1.chg ch (fun b o hm hs => by have p2 := G_10.out.2 b hs; simp at hm; rcases hm with ⟨hm, _⟩ | ⟨hm, _⟩ <;> omega)) True.intro
  have G_11 : Hid _ := And.intro om G_10.out.2
  clear om bm zm om' ch
  go_wp2_with fail
  go_at_call 12
  refine (heldBytes 1 m _ _ (row_of_owns G_11.out.1) (by omega) (by decide) (by decide)).mono ?_
  rintro e w10 ⟨rfl, hw⟩
  subst w10
  go_wp2_with (refine wpList_load_row rfl 28 _ rfl w.heap.size rfl 28 CA (0, 0) _ (B_11.out.1.blk _ _ (by simp)) Tryd.underlying28 rfl SZA.out ?_)
  go_at_call 6
  refine (TB0.out _ (HERow.below EN0.out.2.1 C_11.out.1)).mono ?_
  rintro e w11 ⟨H0, rfl, oH0, bH0⟩
  have z_12 : w9.heap.size ≤ w11.heap.size := bH0.size
  have S_12 : Hid _ := And.intro (owns_below S_11.out.1 bH0) S_11.out.2
  have X0_12 : Hid _ := And.intro (HEOwns.below X0_11.out.1 bH0) X0_11.out.2
  have G_12 : Hid _ := And.intro (owns_below G_11.out.1 bH0) G_11.out.2
  have C_12 : Hid _ := And.intro (C_11.out.1.trans (bH0.mono C_11.out.1.size)) True.intro
  have B_12 : Hid _ := And.intro (B_11.out.1.below bH0) True.intro
  have H0_12 : Hid _ := And.intro oH0 (fun g (hg : HEBlk _ g) => HEOwns.blk oH0 g hg)
  clear oH0 bH0
  go_wp2_with fail
  go_at_call 7
  refine (HI.out.1 _ _ (HV.out.1 _ C_12.out.1) (HEOwns.row H0_12.out.1)).mono ?_
  rintro e w12 ⟨H, rfl, oH, bH⟩
  have z_13 : w11.heap.size ≤ w12.heap.size := bH.size
  have S_13 : Hid _ := And.intro (owns_below S_12.out.1 bH) S_12.out.2
  have X0_13 : Hid _ := And.intro (HEOwns.below X0_12.out.1 bH) X0_12.out.2
  have G_13 : Hid _ := And.intro (owns_below G_12.out.1 bH) G_12.out.2
  have H0_13 : Hid _ := And.intro (HEOwns.below H0_12.out.1 bH) H0_12.out.2
  have C_13 : Hid _ := And.intro (C_12.out.1.trans (bH.mono C_12.out.1.size)) True.intro
  have B_13 : Hid _ := And.intro (B_12.out.1.below bH) True.intro
  have H_13 : Hid _ := And.intro oH (fun g (hg : Value.ownBlock _ = some g) => oH.lt g hg)
  clear oH bH
  go_wp2_with fail
  go_at_call 8
  refine (eqBytes_same _ _ y _ (row_of_owns H_13.out.1) (row_of_owns S_13.out.1) (by rw [← EM.out.1]; omega)).mono ?_
  rintro e w13 ⟨rfl, mw13, hw⟩
  have dw13 : Below w12.heap.size w12 w13 := by rw [hw]; exact below_drewN (Below.refl _ _) mw13
  clear hw
  have z_14 : w12.heap.size ≤ w13.heap.size := dw13.size
  have S_14 : Hid _ := And.intro (owns_below S_13.out.1 dw13) S_13.out.2
  have X0_14 : Hid _ := And.intro (HEOwns.below X0_13.out.1 dw13) X0_13.out.2
  have G_14 : Hid _ := And.intro (owns_below G_13.out.1 dw13) G_13.out.2
  have H_14 : Hid _ := And.intro (owns_below H_13.out.1 dw13) H_13.out.2
  have C_14 : Hid _ := And.intro (C_13.out.1.trans (dw13.mono C_13.out.1.size)) True.intro
  have B_14 : Hid _ := And.intro (B_13.out.1.below dw13) True.intro
  clear dw13
  go_wp2_with fail
  go_at_call 12
  refine (heldBytes 1 m _ _ (row_of_owns G_14.out.1) (by omega) (by decide) (by decide)).mono ?_
  rintro e w14 ⟨rfl, hw⟩
  subst w14
  go_wp2
  go_ret
  exact ⟨rfl, C_14.out.1⟩
/-- For arguments of whatever size: over the model's contract and the program's, where the sizes are within the law's. -/
theorem helloBytes_walkOf (v0 : Value) (k0 : HE) (y : List Int) (c1 : Int) (w : World) (Inv : World → Prop) (hInv : ∀ w' : World, Below w.heap.size w w' → Inv w') (sm0 : k0.small maxLen ∧ k0.texts maxLen) (kb0 : Bytes k0.rnd ∧ k0.par.bytes) (row0 : HERow w v0 k0) (lr : y.length ≤ 4194304)
    (hS : ∀ (w : World) (u0 : Value), HERow w u0 k0 → Calls Tryd.prog 5 #[u0] w fun e w' => ∃ r, e = .returned (.tuple #[r, .int .i64 c1]) ∧ w'.ownsRow w.heap.size 5 1 r y.length (y.map (Value.int .u8)) ∧ Below w.heap.size w w')
    (hI : ∀ (w : World) (u0 : Value), Inv w → HERow w u0 k0 → Calls Tryd.prog 7 #[u0] w fun e w' => ∃ r, e = .returned (.tuple #[r, .int .i64 c1]) ∧ w'.ownsRow w.heap.size 5 1 r y.length (y.map (Value.int .u8)) ∧ Below w.heap.size w w') :
    Calls Tryd.prog 3 #[v0] w fun e w' => e = .returned (.bool true) ∧ Below w.heap.size w w' := by
  have sm9 : k0.small 9223372036854775807 ∧ k0.texts 9223372036854775807 := he_mono2 sm0 (by unfold maxLen; decide)
  by_cases gk : 1048576 < k0.total
  · exact helloBytes_hugeK v0 k0 w row0 sm9 gk
  · skip
    have tk : k0.total ≤ 1048576 := by omega
    have smk : k0.small 1048576 := (he_small tk).1
    exact helloBytesLaw v0 k0 y c1 w Inv hInv row0 smk tk lr hS hI
end Go.Proofs.YtcljchbceeiheaaDoor

namespace Go.Proofs.YtcljchbceeiheaaDoor
open Go.RowKit
set_option linter.unusedVariables false
set_option linter.unusedSimpArgs false

/-- The first k of a list, each in n bytes. -/
def pfA (L : List Int) (n k : Nat) : List Int := ((L.take k).map (fun v => be v n)).flatten
theorem pfA_succ (L : List Int) (n k : Nat) (hk : k < L.length) : pfA L n (k + 1) = pfA L n k ++ be (L.getD k 0) n := by
  unfold pfA
  rw [List.take_add_one, List.map_append, List.flatten_append]
  simp [List.getD, List.getElem?_eq_getElem hk]
theorem pfA_len (L : List Int) (n : Nat) : ∀ k, k ≤ L.length → (pfA L n k).length = n * k
  | 0, _ => rfl
  | k + 1, hk => by rw [pfA_succ L n k (by omega), List.length_append, pfA_len L n k (by omega), be_length, Nat.mul_succ]
set_option maxRecDepth 20000 in
set_option maxHeartbeats 2000000 in
theorem pfI (base : Nat) (vo vl : Value) (xs L : List Int) (n : Nat) (w : World) (ho : w.ownsRow base 5 1 vo xs.length (xs.map (Value.int .u8))) (hr : Row w .i64 vl L) (ha : L ≠ [] → ∀ k, vl.ownBlock = some k → vo.ownBlock ≠ some k) (hb : base ≤ w.heap.size) (hx : xs.length ≤ 100000) (hL : L.length ≤ 8) (hn : n ≤ 8) (hv : ∀ j, j < L.length → 0 ≤ L.getD j 0 ∧ L.getD j 0 ≤ 4294967295) :
    Calls Tryd.prog 28 #[vo, .int .i64 (n : Int), vl] w fun e w' => ∃ r, e = .returned r ∧ w'.ownsRow base 5 1 r (xs ++ pfA L n L.length).length ((xs ++ pfA L n L.length).map (Value.int .u8)) ∧ GrW w w' vo r := by
  obtain ⟨ao, ca, rfl, hca⟩ := hr.cells
  obtain ⟨m, em⟩ : ∃ m, m = L.length := ⟨_, rfl⟩
  rw [← em] at hca hL ⊢
  have H0 : Hid _ := And.intro em (And.intro hr (And.intro hv (And.intro hb (And.intro ha (And.intro ho hca)))))
  rw [← em] at H0
  have EM : Hid _ := And.intro em True.intro
  clear em hca hr hv hb ha ho
  go_enter Tryd.func28, Tryd.ntmps28
  go_wp2
  go_loopg [0, 11] m (fun q ov iv wx => ∃ k : Nat, k ≤ m ∧ q = m - k ∧ iv = .int .i64 (k : Int) ∧ wx.ownsRow base 5 1 ov (xs ++ pfA L n k).length ((xs ++ pfA L n k).map (Value.int .u8)) ∧ GrW w wx vo ov)
  case atStart => exact ⟨0, by omega, by omega, rfl, by simpa [pfA] using H0.out.2.2.2.2.2.1, GrW.refl _ _⟩
  case round =>
    obtain ⟨k, hk, hq, rfl, o, g⟩ := hrel
    obtain ⟨zs, ezs⟩ : ∃ zs, zs = xs ++ pfA L n k := ⟨_, rfl⟩
    rw [← ezs] at o
    obtain ⟨az, cz, evz⟩ := (row_of_owns o).form
    subst evz
    have hzl : zs.length ≤ 100064 := by
      rw [ezs, List.length_append, pfA_len L n k (by rw [← EM.out.1]; exact hk)]
      have := Nat.mul_le_mul hn (show k ≤ 8 by omega)
      omega
    have HO : Hid _ := And.intro o (And.intro g (And.intro ezs hq))
    clear o g ezs hq
    by_cases hlt : k < m
    · obtain ⟨b, off, rfl, hbl, c1⟩ := H0.out.2.2.2.2.2.2 k hlt
      have hx' := H0.out.2.2.1 k hlt
      have cx : wr.cell? ⟨b, off + k, none⟩ = some (.int .i64 (L.getD k 0)) := by
        have hne : L ≠ [] := fun e => by rw [e] at EM; have := EM.out.1; simp at this; omega
        have e1 : wr.heap[b]? = w.heap[b]? := HO.out.2.1.chg.block b hbl (fun e => H0.out.2.2.2.2.1 hne b rfl e)
        rw [← c1]
        simp only [World.cell?, e1]
      obtain ⟨x, ex⟩ : ∃ x, x = L.getD k 0 := ⟨_, rfl⟩
      rw [← ex] at cx hx'
      have hw64 : IntKind.u64.wrap x = x := by rw [IntKind.wrap_u64]; omega
      have D1 := high x n wr (by omega) (by omega) hn
      have hb' : base ≤ wr.heap.size := Nat.le_trans H0.out.2.2.2.1 HO.out.2.1.chg.size
      have HX : Hid _ := And.intro ex (And.intro D1 hb')
      clear ex D1 c1 hb'
      go_wp2_with (first
        | (go_at_call 49; refine HX.out.2.1.mono ?_; rintro e w1 ⟨r1, rfl, o1, b1⟩; have H1 : Hid _ := And.intro (row_of_owns o1) b1; clear o1 b1)
        | (at_builtin; refine wpList_append_loc rfl (.tmp 15) (.tmp 19) rfl base (.slice az zs.length cz) zs rfl (owns_below HO.out.1 H1.out.2) r1 (be x n) rfl H1.out.1 (by rw [be_length]; omega) (Nat.le_trans HX.out.2.2 H1.out.2.size) ?_; intro q2 w2 o2 g2; have H2 : Hid _ := And.intro o2 (HO.out.2.1.trans (GrW.after H1.out.2 g2)); clear o2 g2))
      go_roundg (m - (k + 1))
      case measure => (have := HO.out.2.2.2; omega)
      case rel =>
        refine ⟨k + 1, by omega, rfl, by go_num, ?_, H2.out.2⟩
        have t := H2.out.1
        rw [HX.out.1, HO.out.2.2.1, List.append_assoc, ← pfA_succ L n k (by rw [← EM.out.1]; exact hlt)] at t
        exact t
    · obtain rfl : k = m := by omega
      go_wp2
      go_ret
      exact ⟨_, rfl, by rw [← HO.out.2.2.1]; exact HO.out.1, HO.out.2.1⟩
theorem ne_nilB (g off n cp : Nat) (w : World) : (binOp .eql 22 (.slice (some ⟨g, off, none⟩) n cp) (.slice none 0 0)).run Tryd.prog w = .ok (.bool false) w := by kernel_rfl
set_option maxRecDepth 20000 in
set_option maxHeartbeats 1000000 in
theorem cloneB (v : Value) (xs : List Int) (w : World) (hr : Row w .u8 v xs) (h0 : 0 < xs.length) (hl : xs.length ≤ 1048576) :
    Calls Tryd.prog 27 #[v] w fun e w' => ∃ r, e = .returned r ∧ w'.ownsRow w.heap.size 5 1 r xs.length (xs.map (Value.int .u8)) ∧ Below w.heap.size w w' := by
  have ba : Below w.heap.size w (w.alloc (.cells #[] 5)) := (Below.refl _ _).alloc (Nat.le_refl _) _
  have HN : Hid _ := And.intro (hr.below ba) (And.intro ba hl)
  obtain ⟨b, off, cap, rfl, hb, hc⟩ := hr.at h0
  have hnil := ne_nilB b off xs.length cap w
  clear hr ba hl hc h0
  go_enter Tryd.func27, Tryd.ntmps27
  go_wp2_with (at_builtin; refine wpList_append_row rfl _ _ rfl w.heap.size (.slice (some ⟨w.heap.size, 0, none⟩) 0 0) 0 [] rfl (World.ownsRow_lit w #[] 0 (Nat.le_refl _) (by decide) rfl) _ xs rfl HN.out.1 (by have := HN.out.2.2; omega) (by simp) ?_; intro v' w2 hown2 hgrow)
  have R : w2.ownsRow w.heap.size 5 1 v' xs.length (xs.map (Value.int .u8)) := by simpa using hown2
  have B : Below w.heap.size w w2 := HN.out.2.1.grown hgrow (by simp) (by intro k hk; simp [Value.ownBlock] at hk; omega)
  have HR : Hid _ := And.intro R B
  clear R B hown2 hgrow
  go_wp2
  go_ret
  exact ⟨_, rfl, HR.out.1, HR.out.2⟩
set_option maxRecDepth 20000 in
set_option maxHeartbeats 4000000 in
theorem hbI_bad (v : Value) (h : HE) (w : World) (hr : HERow w v h) (hs : h.small 9223372036854775807) (hx : h.texts maxLen) (hwf : ∀ n ∈ h.vers, (Lit.int .i64 n).wf = true) (no : ¬ heOK h) :
    Calls Tryd.prog 7 #[v] w fun e w' => ∃ r, e = .returned (.tuple #[r, .int .i64 1]) ∧ w'.ownsRow w.heap.size 5 1 r 0 [] ∧ Below w.heap.size w w' := by
  obtain ⟨a0, a1, a2, p0, p1, p2, v3, v4, v5, rfl, -, K⟩ := heK_new hr
  have BW : Below w.heap.size w (w.alloc (.cells (heL h (.slice a0 h.rnd.length p0) (.slice a1 h.vers.length p1) (.slice a2 h.nms.length p2) v3 v4 v5) 34)) := (Below.refl _ _).alloc (Nat.le_refl _) _
  have C := vhI _ h _ (hr.below BW) hs hx hwf
  rw [decide_eq_false no] at C
  have HC : Hid _ := And.intro C (And.intro BW (heap_alloc_new w (.cells (heL h (.slice a0 h.rnd.length p0) (.slice a1 h.vers.length p1) (.slice a2 h.nms.length p2) v3 v4 v5) 34)))
  have HSZ : Hid ((Tryd.prog.info? 34).map (·.size) = some (heL h (.slice a0 h.rnd.length p0) (.slice a1 h.vers.length p1) (.slice a2 h.nms.length p2) v3 v4 v5).size) := infoHel18
  generalize heL h (.slice a0 h.rnd.length p0) (.slice a1 h.vers.length p1) (.slice a2 h.nms.length p2) v3 v4 v5 = CS at *
  clear C BW K hr hs no hx hwf
  go_enter Tryd.func7, Tryd.ntmps7
  go_wp2_with (first | (refine wpList_load_row rfl 34 (.tmp 1) rfl w.heap.size rfl 34 CS (0, 0) _ HC.out.2.2 Tryd.underlying34 rfl HSZ.out ?_) | (go_at_call 26; refine HC.out.1.mono ?_; rintro e w1 ⟨rfl, b1⟩; have H1 : Hid _ := And.intro b1 True.intro; clear b1))
  go_ret2
  have B := HC.out.2.1.trans (H1.out.1.mono HC.out.2.1.size)
  exact ⟨_, rfl, World.ownsRow_nil _ _ _ _, B⟩
end Go.Proofs.YtcljchbceeiheaaDoor

namespace Go.Proofs.YtcljchbceeiheaaDoor
open Go.RowKit
set_option linter.unusedVariables false
set_option linter.unusedSimpArgs false

theorem be1 (x : Int) (h0 : 0 ≤ x) (h1 : x < 256) : be x 1 = [x] := by
  show be (x / 256) 0 ++ [x % 256] = [x]
  rw [Int.emod_eq_of_lt h0 h1]; rfl
theorem pfA_one (x : Int) (n : Nat) : pfA [x] n ([x] : List Int).length = be x n := by simp [pfA]
theorem parts3 {w : World} {v v2 v3 : Value} {xs ys zs : List Int} (h : Row w .u8 v xs) (h2 : Row w .u8 v2 ys) (h3 : Row w .u8 v3 zs) (t : TypeId) : Parts (w.alloc (.cells #[v, v2, v3] t)) (.slice (some ⟨w.heap.size, 0, none⟩) 3 3) [xs, ys, zs] := by
  refine ⟨w.heap.size, 3, rfl, by simp, fun j hj => ?_⟩
  have hb := (Below.refl w.heap.size w).alloc (Nat.le_refl _) (.cells #[v, v2, v3] t)
  rcases (show j = 0 ∨ j = 1 ∨ j = 2 by simp at hj; omega) with rfl | rfl | rfl
  · exact ⟨v, by rw [blkS_cell (MapKept.heap_alloc w _).1]; rfl, h.below hb⟩
  · exact ⟨v2, by rw [blkS_cell (MapKept.heap_alloc w _).1]; rfl, h2.below hb⟩
  · exact ⟨v3, by rw [blkS_cell (MapKept.heap_alloc w _).1]; rfl, h3.below hb⟩
theorem lit1I (w : World) (x : Int) : Row (w.alloc (.cells #[.int .i64 x] 3)) .i64 (.slice (some ⟨w.heap.size, 0, none⟩) 1 1) [x] := by
  refine Or.inr ⟨w.heap.size, 0, 1, rfl, by simp, ⟨Nat.le_refl _, by unfold maxLen; decide⟩, fun j hj => ?_⟩
  obtain rfl : j = 0 := by simpa using hj
  exact bk_cell (heap_alloc_new w _) 0
/-- putFixed of one number that lies somewhere. -/
theorem pfX {W : World} {vo : Value} {xs : List Int} (n : Nat) (x : Int) (g : Nat) (w : World) (O : OutH W w vo xs) (hr : Row w .i64 (.slice (some ⟨g, 0, none⟩) 1 1) [x]) (hne : ∀ k, vo.ownBlock = some k → k ≠ g) (hx : xs.length ≤ 100000) (hn : n ≤ 8) (h0 : 0 ≤ x) (h1 : x ≤ 4294967295) :
    Calls Tryd.prog 28 #[vo, .int .i64 (n : Int), .slice (some ⟨g, 0, none⟩) 1 1] w fun e w' => ∃ r, e = .returned r ∧ OutH W w' r (xs ++ be x n) := by
  refine (pfI W.heap.size vo (.slice (some ⟨g, 0, none⟩) 1 1) xs [x] n w O.own hr (fun _ k ek e2 => ?_) O.bel.size hx (by simp) hn (fun j hj => ?_)).mono ?_
  · have e3 : g = k := Option.some.inj ek
    exact hne k e2 e3.symm
  · obtain rfl : j = 0 := by simpa using hj
    exact ⟨h0, h1⟩
  · rintro e w' ⟨r, rfl, o, g⟩
    rw [pfA_one] at o
    exact ⟨r, rfl, O.gr o g⟩
/-- putFixed of one number that was just laid. -/
theorem pf1 {W : World} {vo : Value} {xs : List Int} (n : Nat) (x : Int) (w : World) (O : OutH W w vo xs) (hx : xs.length ≤ 100000) (hn : n ≤ 8) (h0 : 0 ≤ x) (h1 : x ≤ 4294967295) :
    Calls Tryd.prog 28 #[vo, .int .i64 (n : Int), .slice (some ⟨w.heap.size, 0, none⟩) 1 1] (w.alloc (.cells #[.int .i64 x] 3)) fun e w' => ∃ r, e = .returned r ∧ OutH W w' r (xs ++ be x n) := by
  have O1 := O.went ((Below.refl _ _).alloc (Nat.le_refl _) (.cells #[.int .i64 x] 3))
  refine (pfI W.heap.size vo (.slice (some ⟨w.heap.size, 0, none⟩) 1 1) xs [x] n _ O1.own (lit1I w x) (fun _ k ek e2 => ?_) O1.bel.size hx (by simp) hn (fun j hj => ?_)).mono ?_
  · have e3 : w.heap.size = k := Option.some.inj ek
    have := (O.own.lt k e2).2
    omega
  · obtain rfl : j = 0 := by simpa using hj
    exact ⟨h0, h1⟩
  · rintro e w' ⟨r, rfl, o, g⟩
    rw [pfA_one] at o
    exact ⟨r, rfl, O1.gr o g⟩
theorem vs_pf (V : List Int) (k : Nat) : pfA V 4 k = vsA V k := rfl
set_option maxRecDepth 20000 in
set_option maxHeartbeats 8000000 in
theorem hbI_ok (v : Value) (h : HE) (w : World) (ht : Tab w) (hr : HERow w v h) (hs : h.small 9223372036854775807) (hx : h.texts maxLen) (hwf : ∀ n ∈ h.vers, (Lit.int .i64 n).wf = true) (ok : heOK h) :
    Calls Tryd.prog 7 #[v] w fun e w' => ∃ r, e = .returned (.tuple #[r, .int .i64 0]) ∧ w'.ownsRow w.heap.size 5 1 r (heB h).length ((heB h).map (Value.int .u8)) ∧ Below w.heap.size w w' := by
  obtain ⟨a0, a1, a2, p0, p1, p2, v3, v4, v5, rfl, -, K⟩ := heK_new hr
  obtain ⟨W, eW⟩ : ∃ W, W = w.alloc (.cells (heL h (.slice a0 h.rnd.length p0) (.slice a1 h.vers.length p1) (.slice a2 h.nms.length p2) v3 v4 v5) 34) := ⟨_, rfl⟩
  have BW : Below w.heap.size w W := by rw [eW]; exact (Below.refl _ _).alloc (Nat.le_refl _) _
  have C := vhI _ h _ (hr.below BW) hs hx hwf
  rw [decide_eq_true ok, eW] at C
  have hlen := heOK_len h ok
  have hpk : pok h.par (decide (h.kd = 2)) = true := by
    rcases ok.2 with ⟨e, q⟩ | ⟨e, q⟩
    · rw [decide_eq_true e]; exact q.2.2.2
    · rw [decide_eq_false (by omega)]; exact q.2.2.2
  have hkd : h.kd = 1 ∨ h.kd = 2 := by rcases ok.2 with q | q; exact Or.inr q.1; exact Or.inl q.1
  rw [← eW] at K
  have TT := fun (w1 : World) (b : Below W.heap.size W w1) => ht.below (BW.trans (b.mono BW.size)) ht.lt
  have CP := fun (w1 : World) (b : Below W.heap.size W w1) => cloneB _ h.rnd w1 (K.below b).r0 (by have := ok.1; omega) (by have := ok.1; omega)
  have hvr : h.kd = 2 → 0 ≤ h.vr ∧ h.vr ≤ 4294967295 := fun e => by
    rcases ok.2 with ⟨_, q⟩ | ⟨e2, _⟩
    · exact ⟨by have := q.1.1; omega, q.1.2⟩
    · omega
  have hvs : h.kd = 1 → ∀ i, i < h.vers.length → 0 ≤ h.vers.getD i 0 ∧ h.vers.getD i 0 ≤ 4294967295 := fun e i hi => by
    rcases ok.2 with ⟨e2, _⟩ | ⟨_, q⟩
    · omega
    · have t := (q.2.1.2 i hi).1; exact ⟨by omega, t.2⟩
  have PB := fun (w1 : World) (b : Below W.heap.size W w1) => pbI_ok (heP h v3 v4 v5) h.par (decide (h.kd = 2)) w1 (TT w1 b) (K.below b).r3 hs.2.2.2 hpk
  have HK : Hid _ := And.intro K (And.intro BW (And.intro C (And.intro CP (And.intro PB (And.intro hlen (And.intro hvr (And.intro hvs TT)))))))
  obtain ⟨nv, env⟩ : ∃ n, n = h.vers.length := ⟨_, rfl⟩
  obtain ⟨nn, enn⟩ : ∃ n, n = h.nms.length := ⟨_, rfl⟩
  have hnv : nv ≤ 8 := by rw [env]; exact hlen.2.2.2.1
  have hnn : nn ≤ 4 := by rw [enn]; exact hlen.2.2.1
  have EN : Hid _ := And.intro env enn
  have e2 : h.vers.length = nv := env.symm
  have e4 : h.nms.length = nn := enn.symm
  have CE : ∀ wx, Below W.heap.size W wx → wx.cell? ⟨w.heap.size, 0, none⟩ = some (.int .i64 h.kd) ∧ wx.cell? ⟨w.heap.size, 1, none⟩ = some (.int .i64 h.vr) ∧ wx.cell? ⟨w.heap.size, 2, none⟩ = some (.slice a0 h.rnd.length p0) ∧ wx.cell? ⟨w.heap.size, 3, none⟩ = some (.slice a1 nv p1) ∧ wx.cell? ⟨w.heap.size, 4, none⟩ = some (.slice a2 nn p2) := fun wx hx => by
    obtain ⟨k0, k1, k2, k3, k4, -⟩ := (HK.out.1.below hx).cells
    rw [e2] at k3
    rw [e4] at k4
    exact ⟨k0, k1, k2, k3, k4⟩
  have HE' : Hid _ := And.intro CE True.intro
  have HSZ : Hid ((Tryd.prog.info? 34).map (·.size) = some (heL h (.slice a0 h.rnd.length p0) (.slice a1 h.vers.length p1) (.slice a2 h.nms.length p2) v3 v4 v5).size) := infoHel18
  have hrl : h.rnd.length ≤ 200 := by have := hlen.1; unfold heM at this; simp only [List.length_append, List.length_cons] at this; omega
  clear K BW C CP PB hpk hlen hvr hvs hr hs ok env enn CE TT hx hwf ht
  obtain ⟨CS, eCS⟩ : ∃ CS, CS = heL h (.slice a0 h.rnd.length p0) (.slice a1 h.vers.length p1) (.slice a2 h.nms.length p2) v3 v4 v5 := ⟨_, rfl⟩
  rw [← eCS] at eW HK HSZ ⊢
  clear eCS e2 e4
  have HW : Hid _ := And.intro eW True.intro
  clear eW
  go_enter Tryd.func7, Tryd.ntmps7
  go_upto_if 18 with (first
    | (refine wpList_load_row rfl 34 (.tmp 1) rfl w.heap.size rfl 34 CS (0, 0) _ (heap_alloc_new w _) Tryd.underlying34 rfl HSZ.out ?_)
    | (go_at_call 26; refine HK.out.2.2.1.mono ?_; rintro e w1 ⟨rfl, b1⟩; have H1 : Hid (Below W.heap.size W w1) := (by rw [HW.out.1]; exact b1); obtain ⟨k0, k1, k2, k3, k4⟩ := HE'.out.1 w1 H1.out; clear b1)
    | (go_at_call 27; refine (HK.out.2.2.2.1 w1 H1.out).mono ?_; rintro e w2 ⟨r2, rfl, o2, b2⟩; have O2 : OutH W w2 r2 h.rnd := ⟨owns_mono o2 H1.out.size, H1.out.trans (b2.mono H1.out.size)⟩; obtain ⟨ao2, co2, ev2⟩ := O2.form; subst ev2; have H2 : Hid _ := And.intro O2 True.intro; clear k0 k1 k2 k3 k4; obtain ⟨k0, k1, k2, k3, k4⟩ := HE'.out.1 w2 O2.bel; clear o2 b2 O2))
  go_cut [4] from 5 to 32 (fun ov wx => OutH W wx ov (h.rnd ++ heV h))
  case first =>
    rcases hkd with hk | hk
    · have hkb : (h.kd == 1) = true := by rw [hk]; rfl
      have eV : heV h = (nv : Int) :: vsA h.vers nv := by unfold heV; rw [if_pos hk, EN.out.1]
      have hvs := HK.out.2.2.2.2.2.2.2.1 hk
      have OD : OutH W w2.drew (.slice ao2 h.rnd.length co2) h.rnd := H2.out.1.went (below_drewN (Below.refl _ _) 1)
      have OL : OutH W (w2.alloc (.cells #[.int .i64 (nv : Int)] 3)).drew (.slice ao2 h.rnd.length co2) h.rnd := (H2.out.1.went ((Below.refl _ _).alloc (Nat.le_refl _) _)).went (below_drewN (Below.refl _ _) 1)
      have P1 : Calls Tryd.prog 28 #[.slice ao2 h.rnd.length co2, .int .i64 1, .slice (some ⟨w2.heap.size, 0, none⟩) 1 1] (w2.alloc (.cells #[.int .i64 (nv : Int)] 3)).drew fun e w' => ∃ r, e = .returned r ∧ OutH W w' r (h.rnd ++ be (nv : Int) 1) := pfX 1 (nv : Int) w2.heap.size _ OL ((lit1I w2 (nv : Int)).below (below_drewN (Below.refl _ _) 1)) (fun k hk => by have := (H2.out.1.own.lt k hk).2; omega) (by omega) (by decide) (by omega) (by omega)
      have q3 := (HE'.out.1 w2.drew OD.bel).2.2.2.1
      have q3' := (HE'.out.1 _ OL.bel).2.2.2.1
      have P2 : ∀ (wx : World) (vo : Value), OutH W wx vo (h.rnd ++ be (nv : Int) 1) → Calls Tryd.prog 28 #[vo, .int .i64 4, .slice a1 nv p1] wx fun e w' => ∃ r, e = .returned r ∧ OutH W w' r (h.rnd ++ heV h) := fun wx vo O => by
        have rv := (HK.out.1.below O.bel).r1
        have C := pfI W.heap.size vo _ (h.rnd ++ be (nv : Int) 1) h.vers 4 wx O.own rv (fun hne k ek e2 => by
          have h1 := own_of_row HK.out.1.r1 hne ek
          have h2 := (O.own.lt k e2).1
          omega) O.bel.size (by rw [List.length_append, be_length]; omega) (by rw [← EN.out.1]; exact hnv) (by decide) hvs
        rw [← EN.out.1] at C
        refine C.mono ?_
        rintro e w' ⟨r, rfl, o, g⟩
        refine ⟨r, rfl, ?_⟩
        have t := O.gr o g
        rw [vs_pf, be1 (nv : Int) (by omega) (by omega), List.append_assoc, List.singleton_append, ← eV] at t
        exact t
      obtain ⟨xs1, exs1⟩ : ∃ xs1, xs1 = h.rnd ++ be (nv : Int) 1 := ⟨_, rfl⟩
      rw [← exs1] at P1 P2
      have HP : Hid _ := And.intro P1 (And.intro P2 True.intro)
      clear P1 P2 eV hvs hk OD OL exs1
      go_wp2_with fail
      go_region_with (first
        | (go_at_call 28; (fail_if_success (have hyy := HQ)); refine HP.out.1.mono ?_; rintro e w4 ⟨r4, rfl, O4⟩; have HQ : Hid (OutH W w4 r4 xs1 ∧ True) := And.intro O4 True.intro; have q4 := (HE'.out.1 w4 O4.bel).2.2.2.1; clear O4)
        | (go_at_call 28; refine (HP.out.2.1 w4 r4 HQ.out.1).mono ?_; rintro e w5 ⟨r5, rfl, O5⟩; have HQ5 : Hid _ := And.intro O5 True.intro; clear O5))
      all_goals
        go_wp2_with fail
        go_meet
        exact HQ5.out.1
    · have hkb : (h.kd == 1) = false := by rw [hk]; rfl
      have eV : heV h = be h.vr 4 := by unfold heV; rw [if_neg (by omega)]
      have hvr := HK.out.2.2.2.2.2.2.1 hk
      have P1 := pf1 4 h.vr w2 H2.out.1 (by omega) (by decide) hvr.1 hvr.2
      have HP : Hid _ := And.intro P1 eV
      clear P1 eV hvr hk
      go_wp2_with (go_at_call 28; refine HP.out.1.mono ?_; rintro e w4 ⟨r4, rfl, O4⟩; have HQ : Hid _ := And.intro O4 True.intro; clear O4)
      go_meet
      rw [HP.out.2]
      exact HQ.out.1
  case rest =>
  clear k0 k1 k2 k3 k4
  rename World => wc
  obtain ⟨ys, eys⟩ : ∃ ys, ys = h.rnd ++ heV h := ⟨_, rfl⟩
  rw [← eys] at hcut
  have hyl : ys.length ≤ 200 := by have := HK.out.2.2.2.2.2.1.1; unfold heM at this; rw [← eys] at this; simp only [List.length_append, List.length_cons] at this; omega
  obtain ⟨-, -, -, -, k4⟩ := HE'.out.1 wc hcut.bel
  obtain ⟨ao5, co5, ev5⟩ := hcut.form
  subst ev5
  have P1 := pf1 1 (nn : Int) wc hcut (by omega) (by decide) (by omega) (by omega)
  rw [be1 (nn : Int) (by omega) (by omega)] at P1
  have HA : Hid _ := And.intro P1 (And.intro eys hcut)
  clear P1 eys hcut
  go_wp2_with (go_at_call 28; refine HA.out.1.mono ?_; rintro e w6 ⟨r6, rfl, O6⟩; have H6 : Hid (OutH W w6 r6 (ys ++ [(nn : Int)]) ∧ True) := And.intro O6 True.intro; clear k4; obtain ⟨-, -, -, -, k4⟩ := HE'.out.1 w6 O6.bel; clear O6)
  go_loopg [4, 42] nn (fun q ov iv wx => ∃ k : Nat, k ≤ nn ∧ q = nn - k ∧ iv = .int .i64 (k : Int) ∧ OutH W wx ov (ys ++ ((nn : Int) :: nmA h.nms k)))
  case atStart => exact ⟨0, by omega, by omega, rfl, H6.out.1⟩
  case round =>
    obtain ⟨k, hkn, hq, rfl, O⟩ := hrel
    rename World => wy
    clear k4
    obtain ⟨xs, exs⟩ : ∃ xs, xs = ys ++ ((nn : Int) :: nmA h.nms k) := ⟨_, rfl⟩
    rw [← exs] at O
    obtain ⟨aoo, coo, evo⟩ := O.form
    subst evo
    have hol : xs.length ≤ 600 := by
      have := nmA_len h.nms HK.out.2.2.2.2.2.1.2.2.2.2 k (by rw [← EN.out.2]; exact hkn)
      rw [exs, List.length_append, List.length_cons]; omega
    have HO : Hid _ := And.intro O (And.intro hol (And.intro hq exs))
    clear O hol hq exs
    by_cases hlt : k < nn
    · have rv := (HK.out.1.below HO.out.1.bel).r2
      rw [← EN.out.2] at rv
      obtain ⟨aq, cq, eq', hc'⟩ := rv.cells
      rw [← EN.out.2] at eq' hc'
      cases eq'
      obtain ⟨b, off, ea, hb', cx⟩ := hc' k hlt
      subst ea
      have hx := HK.out.2.2.2.2.2.1.2.2.2.2 k (by rw [← EN.out.2]; exact hlt)
      obtain ⟨x, ex⟩ : ∃ x, x = h.nms.getD k ByteArray.empty := ⟨_, rfl⟩
      rw [← ex] at cx hx
      obtain ⟨C, W', cv, rw', bw', lw'⟩ := convSB wy x (by omega)
      have aw : Below W'.heap.size W' (W'.alloc (.cells #[.slice (some ⟨wy.heap.size, 0, none⟩) x.size C] 22)) := (Below.refl _ _).alloc (Nat.le_refl _) _
      have O1 := (HO.out.1.went bw').went aw
      have CN := putC1 W.heap.size (.slice aoo xs.length coo) (.slice (some ⟨wy.heap.size, 0, none⟩) x.size C) xs (txB x) W'.heap.size _ (HK.out.2.2.2.2.2.2.2.2 _ O1.bel) O1.own (rw'.below aw) (fun _ k' ek' e2 => by
        have e3 : wy.heap.size = k' := by simpa [Value.ownBlock] using ek'
        have := (HO.out.1.own.lt k' e2).2
        omega) O1.bel.size (by have := HO.out.2.1; omega) (by rw [txB_length]; omega) (bk_cell (heap_alloc_new W' _) 0)
      have HX : Hid _ := And.intro ex (And.intro CN (And.intro O1 True.intro))
      clear rv hc' ex CN rw' bw' hb' aw O1
      go_wp2_with (go_at_call 29; refine HX.out.2.1.mono ?_; rintro e w7 ⟨r7, rfl, o7, g7⟩; have H7 : Hid _ := HX.out.2.2.1.gr o7 g7; clear o7 g7)
      go_roundg (nn - (k + 1))
      case measure => (have := HO.out.2.2.1; omega)
      case rel =>
        refine ⟨k + 1, by omega, rfl, by go_num, ?_⟩
        have t := H7.out
        rw [txB_length, HX.out.1, HO.out.2.2.2, List.append_assoc, List.cons_append, ← nmA_succ h.nms k (by rw [← EN.out.2]; exact hlt)] at t
        exact t
    · obtain rfl : k = nn := by omega
      obtain ⟨sv, esv⟩ : ∃ sv, sv = decide (h.kd = 2) := ⟨_, rfl⟩
      have hk2 : (h.kd == 2) = sv := by rw [esv]; rfl
      have P1 := HK.out.2.2.2.2.1 wy HO.out.1.bel
      rw [← esv] at P1
      have hM : xs = heM h := by rw [HO.out.2.2.2, HA.out.2.1]; unfold heM; rw [← EN.out.2]
      have hWl := HK.out.2.2.2.2.2.1.2.1
      obtain ⟨pv, epv⟩ : ∃ pv, pv = parB h.par sv := ⟨_, rfl⟩
      rw [← epv] at P1
      have hzW : xs ++ pv = heW h := by rw [epv, hM, esv]; rfl
      have hzl : xs.length + pv.length ≤ 600 := by rw [← List.length_append, hzW]; exact hWl
      obtain ⟨k0', -, -, -, -, k5, k6, k7, k8, k9, k10, k11, k12, k13, k14, k15, k16, k17⟩ := (HK.out.1.below HO.out.1.bel).cells
      have hkd0 : 0 ≤ h.kd ∧ h.kd ≤ 2 := by omega
      have HP : Hid _ := And.intro P1 hzW
      clear P1 hM hWl hzW esv epv
      go_wp2_with (first
        | (go_at_call 30; refine HP.out.1.mono ?_; rintro e w7 ⟨r7, rfl, o7, b7⟩; obtain ⟨a7, c7, ev7⟩ := (row_of_owns o7).form; subst ev7; have H7 : Hid _ := And.intro (HO.out.1.went b7) (row_of_owns o7); clear k0' k5 k6 k7 k8 k9 k10 k11 k12 k13 k14 k15 k16 k17; have k0'' := (HE'.out.1 w7 H7.out.1.bel).1; have Q1 := pf1 (W := w7) (vo := .slice none 0 0) (xs := []) 1 h.kd w7 ⟨World.ownsRow_nil _ _ _ _, Below.refl _ _⟩ (by simp) (by decide) (by omega) (by omega); rw [be1 h.kd (by omega) (by omega)] at Q1; have HQ1 : Hid _ := And.intro Q1 True.intro; clear o7 b7 Q1)
        | (go_at_call 28; (fail_if_success (have hyy := HR8)); refine HQ1.out.1.mono ?_; rintro e w8 ⟨r8, rfl, O8⟩; have HR8 : Hid (OutH w7 w8 r8 ([] ++ [h.kd]) ∧ True) := And.intro O8 True.intro; have Q2 := pf1 (W := w7) 2 ((xs.length : Int) + (pv.length : Int)) w8 O8 (by simp) (by decide) (by omega) (by omega); have HQ2 : Hid _ := And.intro Q2 True.intro; clear O8 Q2)
        | (go_at_call 28; refine HQ2.out.1.mono ?_; rintro e w9 ⟨r9, rfl, O9⟩; obtain ⟨R9, eR9⟩ : ∃ R9, R9 = [] ++ [h.kd] ++ be ((xs.length : Int) + (pv.length : Int)) 2 := ⟨_, rfl⟩; rw [← eR9] at O9; obtain ⟨a9, c9, ev9⟩ := O9.form; subst ev9; have H9 : Hid _ := And.intro O9 eR9; have IC := iconcat (.slice (some ⟨w9.heap.size, 0, none⟩) 3 3) [R9, xs, pv] _ (parts3 (row_of_owns O9.own) ((row_of_owns (H7.out.1.went O9.bel).own)) (H7.out.2.below O9.bel) 22) (by simp) (by have e := congrArg List.length eR9; simp [be_length] at e; simp; omega); have HIC : Hid _ := And.intro IC True.intro; clear O9 eR9 IC)
        | (go_at_call 31; refine HIC.out.1.mono ?_; rintro e w10 ⟨r10, rfl, o10, b10⟩; have H10 : Hid _ := And.intro o10 b10; clear o10 b10))
      go_ret2
      have B9 : Below W.heap.size W w9 := (H7.out.1.went H9.out.1.bel).bel
      have B10 := (B9.alloc B9.size _).trans (H10.out.2.mono (B9.alloc B9.size _).size)
      refine ⟨_, rfl, ?_, HK.out.2.1.trans (B10.mono HK.out.2.1.size)⟩
      have t := owns_mono H10.out.1 (Nat.le_trans HK.out.2.1.size (B9.alloc B9.size _).size)
      have e1 : heB h = [R9, xs, pv].flatten := by
        unfold heB
        rw [← HP.out.2, H9.out.2]
        simp [List.length_append]
      rw [e1]
      exact t
end Go.Proofs.YtcljchbceeiheaaDoor

namespace Go.Proofs.YtcljchbceeiheaaDoor
open Go.RowKit
set_option linter.unusedVariables false

theorem heB_le (h : HE) (ok : heOK h) : (heB h).length ≤ 4194304 := by
  have := (heOK_len h ok).2.1
  unfold heB
  rw [List.length_cons, List.length_append, be_length]
  omega
theorem fnExactHelloBytes_walk (v0 : Value) (k0 : HE) (sm0 : k0.small maxLen) (tx0 : k0.texts maxLen) (kb0 : Bytes k0.rnd ∧ k0.par.bytes) (kw0 : ∀ x ∈ k0.vers, (Lit.int .i64 x).wf = true) (w : World) (row0 : HERow w v0 k0) (ht : Tab w) :
    Calls Tryd.prog 3 #[v0] w fun e w' => e = .returned (.bool true) ∧ Below w.heap.size w w' := by
  have sm9 : k0.small 9223372036854775807 := hesmall_mono sm0 (by unfold maxLen; decide)
  by_cases ok : heOK k0
  · exact helloBytes_walkOf v0 k0 (heB k0) 0 w (fun u => Tab u) (fun u h => ht.below h ht.lt) ⟨sm0, tx0⟩ kb0 row0 (heB_le k0 ok)
      (fun w u0 r0 => hbS_ok u0 k0 w r0 sm9 ok) (fun w u0 t r0 => hbI_ok u0 k0 w t r0 sm9 tx0 kw0 ok)
  · exact helloBytes_walkOf v0 k0 [] 1 w (fun u => Tab u) (fun u h => ht.below h ht.lt) ⟨sm0, tx0⟩ kb0 row0 (by simp)
      (fun w u0 r0 => hbS_bad u0 k0 w r0 sm9 ok) (fun w u0 _ r0 => hbI_bad u0 k0 w r0 sm9 tx0 kw0 ok)
end Go.Proofs.YtcljchbceeiheaaDoor

namespace Go.Proofs.YtcljchbceeiheaaDoor.fnExactHelloBytes
open Go.ChangeShapes Go.WideShapes Go.ChangeAt Go.RowKit
set_option linter.unusedVariables false

theorem own : ownKnob Tryd.prog.godebug = none := by kernel_rfl
theorem laidOut : laidOutB Tryd.prog = true := by kernel_rfl
theorem cells_b : Tryd.prog.cellsOf 5 = 1 := by kernel_rfl
theorem gTab : Tryd.prog.globalNamed "loop.example/g00012/impl.varFormLengths" = some 0 := by kernel_rfl
theorem gTabType : (Tryd.prog.globals[0]?).map (·.type) = some 105 := by kernel_rfl
theorem cellsArr : Tryd.prog.cellsOf 105 = 4 := by kernel_rfl
theorem cellsInt : Tryd.prog.cellsOf 3 = 1 := by kernel_rfl

theorem table {W : World} (h : laidMetH Tryd.prog Rows.fnExactHelloBytesRow.laid W) : Tab W := by
  have t : Lib.TabIs Tryd.prog W "loop.example/g00012/impl.varFormLengths" .i64 [1, 2, 4, 8] :=
    Lib.tabIs_of_head (rest := []) gTab gTabType Tryd.underlying105 Tryd.underlying3 cellsInt cellsArr h
  exact ⟨t.cell gTab 0 (by decide), t.cell gTab 1 (by decide), t.cell gTab 2 (by decide), t.cell gTab 3 (by decide)⟩

set_option maxRecDepth 20000 in
theorem contract (H : Type) (enc : TypeId × Value → H) (W : World) (base : Nat) (args : Array Value) (ds gs : List (DataW H)) (before : List MemPlace)
    (hval : ∀ (j : Nat) t v, Tryd.f3.params[j]? = some t → args[j]? = some v → Value.okWide Tryd.prog W .any base t v)
    (hW : DataW.Whole enc Tryd.prog Tryd.f3.params.toList Rows.fnExactHelloBytesSpec.vars false W args.toList ds gs before) (hL : laidMetH Tryd.prog Rows.fnExactHelloBytesRow.laid W) :
    Calls Tryd.prog 3 args W fun e W' => ∃ v, e = .returned v ∧ Rows.fnExactHelloBytesSpec.post enc Tryd.prog Tryd.f3 false true false false W args v W' := by
  have hW' := hW
  obtain ⟨p, q, hA0, hV, rfl, hfz, hnd⟩ := hW
  have hA : DataW.TrodAll enc Tryd.prog W 0 (fun _ => true) true Tryd.f3.params.toList args.toList ds p := hA0
  rw [Tryd.params3] at hA hval
  obtain ⟨v0, vs0, d0, ds0, p0, q0, hargs, rfl, rfl, h0, r0⟩ := trodAll_cons hA
  obtain ⟨rfl, rfl, rfl⟩ := trodAll_nil r0
  obtain rfl : args = #[v0] := by cases args; simp_all
  obtain ⟨g, t, cs, fuel, dg, pg, rfl, -⟩ := trodVars_one hV
  obtain ⟨k0, row0, sm0, tx0, kb0, kw0⟩ := open_hel Tryd.underlying28 (by kernel_rfl) ⟨⟨rfl, rfl, rfl, rfl, rfl, rfl⟩, ⟨rfl, rfl, rfl, rfl, rfl, rfl⟩⟩ Tryd.underlying26 (by kernel_rfl) ⟨rfl, rfl, rfl, rfl, rfl, rfl, rfl, rfl, rfl, rfl, rfl, rfl, rfl⟩ ⟨by kernel_rfl, by kernel_rfl, by kernel_rfl, by kernel_rfl, by kernel_rfl⟩ Tryd.underlying3 Tryd.underlying4 Tryd.underlying22 Tryd.underlying5 cells_b Tryd.underlying23 Tryd.underlying3 (by kernel_rfl) Tryd.underlying24 Tryd.underlying9 (by kernel_rfl) (hval 0 28 v0 rfl rfl) h0
  refine (fnExactHelloBytes_walk v0 k0 sm0 tx0 kb0 kw0 W row0 (table hL)).mono fun e W' ⟨he, hb⟩ => ?_
  subst he
  exact ⟨_, rfl, law_post laidOut (by kernel_rfl) (by kernel_rfl) (by kernel_rfl) Tryd.underlying4 hW' rfl hb⟩

theorem laid_met (os : Os) : laidMet Tryd.prog Rows.fnExactHelloBytesRow.laid (({ World.holding Tryd.prog os ⟨#[], #[], []⟩ with heap := (World.holding Tryd.prog os ⟨#[], #[], []⟩).heap.modify 0 fun | .cells _ t frozen => .cells #[.int .i64 1, .int .i64 2, .int .i64 4, .int .i64 8] t frozen | o => o } : World).forCall (fun _ _ => 0) ⟨#[], #[.agg #[.int .i64 0, .int .i64 0, .slice none 0 0, .slice none 0 0, .slice none 0 0, .int .i64 0, .int .i64 0, .int .i64 0, .int .i64 0, .int .i64 0, .int .i64 0, .int .i64 0, .int .i64 0, .int .i64 0, .bool false, .slice none 0 0, .slice none 0 0, .slice none 0 0]], []⟩).memory :=
  laidMet_of_run' 8 (by kernel_rfl) (by kernel_rfl)
theorem reads (os : Os) {H : Type} (enc : TypeId × Value → H) : ∃ places, DataW.whole enc Tryd.prog (({ World.holding Tryd.prog os ⟨#[], #[], []⟩ with heap := (World.holding Tryd.prog os ⟨#[], #[], []⟩).heap.modify 0 fun | .cells _ t frozen => .cells #[.int .i64 1, .int .i64 2, .int .i64 4, .int .i64 8] t frozen | o => o } : World).forCall (fun _ _ => 0) ⟨#[], #[.agg #[.int .i64 0, .int .i64 0, .slice none 0 0, .slice none 0 0, .slice none 0 0, .int .i64 0, .int .i64 0, .int .i64 0, .int .i64 0, .int .i64 0, .int .i64 0, .int .i64 0, .int .i64 0, .int .i64 0, .bool false, .slice none 0 0, .slice none 0 0, .slice none 0 0]], []⟩).memory Tryd.f3.params.toList Rows.fnExactHelloBytesSpec.vars false #[(.agg #[.int .i64 0, .int .i64 0, .slice none 0 0, .slice none 0 0, .slice none 0 0, .int .i64 0, .int .i64 0, .int .i64 0, .int .i64 0, .int .i64 0, .int .i64 0, .int .i64 0, .int .i64 0, .int .i64 0, .bool false, .slice none 0 0, .slice none 0 0, .slice none 0 0] : Value)].toList 8 = some ([.agg [.lit (.int .i64 0), .lit (.int .i64 0), .nil, .nil, .nil, .agg [.lit (.int .i64 0), .lit (.int .i64 0), .lit (.int .i64 0), .lit (.int .i64 0), .lit (.int .i64 0), .lit (.int .i64 0), .lit (.int .i64 0), .lit (.int .i64 0), .lit (.int .i64 0), .lit (.bool false), .nil, .nil, .nil]]], [.agg [.lit (.int .i64 1), .lit (.int .i64 2), .lit (.int .i64 4), .lit (.int .i64 8)]], places) :=
  ⟨[.cell 0 0, .cell 0 1, .cell 0 2, .cell 0 3], by kernel_rfl⟩

set_option maxRecDepth 100000 in
theorem lifted (os : Os) (started : os.Started) (H : Type) (enc : TypeId × Value → H) (F : Stop.Interp) :
    ReturnsInHanded {} Tryd.checked os 3 .any ((OpenSpec.ofChange Rows.fnExactHelloBytesSpec).preRow enc Tryd.prog Tryd.f3 Rows.fnExactHelloBytesRow.domain false Rows.fnExactHelloBytesRow.laid) (((OpenSpec.ofChange Rows.fnExactHelloBytesSpec).at F).post enc Tryd.prog Tryd.f3 false true false false) := by
  obtain ⟨places, hx⟩ := reads os enc
  refine returnsInHanded_of_row (C := Tryd.checked) (s := OpenSpec.ofChange Rows.fnExactHelloBytesSpec) own started (by kernel_rfl) Tryd.func3
    (witness_row_at (enc := enc) (C := Tryd.checked) false ({ World.holding Tryd.prog os ⟨#[], #[], []⟩ with heap := (World.holding Tryd.prog os ⟨#[], #[], []⟩).heap.modify 0 fun | .cells _ t frozen => .cells #[.int .i64 1, .int .i64 2, .int .i64 4, .int .i64 8] t frozen | o => o } : World) #[.agg #[.int .i64 0, .int .i64 0, .slice none 0 0, .slice none 0 0, .slice none 0 0, .int .i64 0, .int .i64 0, .int .i64 0, .int .i64 0, .int .i64 0, .int .i64 0, .int .i64 0, .int .i64 0, .int .i64 0, .bool false, .slice none 0 0, .slice none 0 0, .slice none 0 0]] rfl (by kernel_rfl) (by kernel_rfl) (by kernel_rfl)
      (OpenSpec.preRow_of_cond 8 hx (by kernel_rfl) (fun k hk => by cases hk) (by kernel_rfl) (laid_met os))) ?_
  intro W base args ds gs before hval hW _ _ _ hL _ _
  exact contract H enc W base args ds gs before hval hW hL

theorem said : Rows.FnExactHelloBytesSaid :=
  OpenClaim.holds_of_cond 3 Tryd.f3 rfl rfl rfl rfl rfl rfl rfl ⟨rfl, rfl, rfl, rfl, rfl⟩ rfl rfl rfl rfl rfl (by kernel_rfl) Tryd.func3 (by kernel_rfl)
    (of_decide_eq_true (by kernel_rfl)) (by unfold Func.isWrapper; first | (rw [if_pos (by decide +kernel)]; kernel_rfl) | (rw [if_neg (by decide +kernel)]; exact ⟨rfl, rfl⟩))
    (fun os started H enc _ F => by rw [OpenClaim.pre_eq_preRow]; exact lifted os started H enc F)

theorem plain (f : FuncId) (fn : Func) (hf : Tryd.pinned.checked.prog.funcNamed "loop.example/g00012/laws.FnExactHelloBytes" = some f) (hfn : Tryd.pinned.checked.prog.funcs[f]? = some fn) :
    false = Tryd.pinned.checked.prog.looks [] ∧ ∀ (j : Nat) t, fn.params[j]? = some t → Tryd.pinned.checked.prog.wantsStandIn t = false := by
  obtain rfl : f = 3 := Option.some.inj ((show Tryd.prog.funcNamed "loop.example/g00012/laws.FnExactHelloBytes" = some 3 by kernel_rfl).symm.trans hf) |>.symm
  obtain rfl : fn = Tryd.f3 := (Option.some.inj (Tryd.func3.symm.trans hfn)).symm
  refine ⟨by kernel_rfl, fun j t ht => ?_⟩
  rw [Tryd.params3] at ht
  have hm : t ∈ [28] := by simpa using Array.mem_of_getElem? ht
  have hall : ([28].all fun u => !Tryd.prog.wantsStandIn u) = true := by kernel_rfl
  exact (show Tryd.prog.wantsStandIn t = false by simpa using List.all_eq_true.1 hall t hm)

end Go.Proofs.YtcljchbceeiheaaDoor.fnExactHelloBytes

namespace Go.Proofs.YtcljchbceeiheaaDoor
theorem fnExactHelloBytes_holds : Rows.FnExactHelloBytesCardSaid :=
  Claim7.holds_tied_plain_at .later [] _ _ _ _ fnExactHelloBytes.said (fun _ h => by cases h) (by kernel_rfl) (fun _ h => by cases h) fnExactHelloBytes_row_tie rfl ⟨rfl, rfl⟩ (by kernel_rfl) rfl fnExactHelloBytes.plain (by kernel_rfl)
#print axioms fnExactHelloBytes_holds
end Go.Proofs.YtcljchbceeiheaaDoor
