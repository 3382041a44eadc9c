import Derived.Test.YtcoakpmfappnlaaFuV
namespace Go.Proofs.Ytcoakpmfappnlaa
open Go.RowKit
set_option linter.unusedVariables false
set_option linter.unusedSimpArgs false

theorem ChT.grownN {S : TypeId → Bool} {base : Nat} {w w1 w2 : World} (h : ChT S base w w1) {r : Option Nat} (g : w1.grownBy w2 r) (hr : ∀ k, r = some k → w.heap.size ≤ k) : ChT S base w w2 :=
  ⟨g.os.trans h.os, g.tape.trans h.tape, g.output.trans h.output, Nat.le_trans h.size g.size, fun i hi hs => (g.block i (Nat.lt_of_lt_of_le hi h.size) (fun e => by have := hr i e.symm; omega)).trans (h.block i hi hs)⟩
theorem gown_lo {T : TypeId} {K : Nat} {w : World} {base : Nat} {v : Value} {L : List (List Value)} (h : GOwns T K w base v L) : ∀ k, v.ownBlock = some k → base ≤ k := by
  obtain ⟨zs, ho, _⟩ := h
  exact fun j hj => (ho.lt j hj).1
theorem slice_form {T : TypeId} {K : Nat} {w : World} {base : Nat} {v : Value} {L : List (List Value)} (h : GOwns T K w base v L) : ∃ a n c, v = .slice a n c ∧ n = L.length := by
  obtain ⟨a, c, e⟩ := h.row.form
  exact ⟨a, _, c, e, rfl⟩

set_option maxRecDepth 20000 in
set_option maxHeartbeats 4000000 in
theorem read_no (g base : Nat) (F : FS) (hF : fsOK F = true) (m : FX) (i : Nat) (id n : Int) (w : World) (h : FRep w g base F m) (hI : FXI F i m) (hi : i ≤ 400) (hbase : base ≤ w.heap.size) (hw : (Lit.int .i64 id).wf = true) (cg : ¬ canG F m.L id) :
    Calls Try.prog 38 #[.pointer (some ⟨g, 0, none⟩), .int .i64 id, .int .i64 n] w fun e w' => ∃ fv, e = .returned (.tuple #[fv, .int .i64 (fread F m id n).2.code]) ∧ GOwns 87 8 w' w.heap.size fv ((fread F m id n).2.fr.map frC) ∧ FDo w w' g base F (fread F m id n).1 := by
  have HR : Hid _ := h
  obtain ⟨wb, ms, ml, pb, P⟩ := h
  have CG := canGI g base F m _ _ wb ms ml pb i id w P hI hi hw
  have e : fread F m id n = (m, ⟨7, 0, 0, []⟩) := if_neg cg
  rw [e]
  rw [decide_eq_false cg] at CG
  have HG : Hid _ := And.intro CG True.intro
  clear CG P e cg hI
  go_enter Try.func38, Try.ntmps38
  go_wp2_with (first | (go_at_call 62; refine HG.out.1.mono ?_; rintro e wg ⟨rfl, hwg⟩; subst hwg))
  go_ret2
  exact ⟨_, rfl, frames_nil _ _, FDo.refl HR.out⟩
set_option maxRecDepth 20000 in
set_option maxHeartbeats 4000000 in
theorem read_lo (g base : Nat) (F : FS) (hF : fsOK F = true) (m : FX) (i : Nat) (id n : Int) (w : World) (h : FRep w g base F m) (hI : FXI F i m) (hi : i ≤ 400) (hbase : base ≤ w.heap.size) (hw : (Lit.int .i64 id).wf = true) (cg : canG F m.L id) (hx : n < 1) :
    Calls Try.prog 38 #[.pointer (some ⟨g, 0, none⟩), .int .i64 id, .int .i64 n] w fun e w' => ∃ fv, e = .returned (.tuple #[fv, .int .i64 (fread F m id n).2.code]) ∧ GOwns 87 8 w' w.heap.size fv ((fread F m id n).2.fr.map frC) ∧ FDo w w' g base F (fread F m id n).1 := by
  have HR : Hid _ := h
  obtain ⟨wb, ms, ml, pb, P⟩ := h
  have CG := canGI g base F m _ _ wb ms ml pb i id w P hI hi hw
  rw [decide_eq_true cg] at CG
  obtain ⟨E, ei⟩ := hI.at' cg.1
  have c18 : w.cell? ⟨g, 18, none⟩ = some (.map (some ms)) := P.cell 18
  have c9 : w.cell? ⟨g, 9, none⟩ = some (.pointer (some ⟨wb, 0, none⟩)) := P.cell 9
  have LK := P.sm.look hw
  rw [mS_pos cg.1] at LK
  simp only [pval] at LK
  have a3 : w.cell? ⟨pb (ixf m.L id), 3, none⟩ = some (.int .i64 (sxAt m.L id).cm) := P.acell cg.1 3
  have a4 : w.cell? ⟨pb (ixf m.L id), 4, none⟩ = some (.int .i64 (sxAt m.L id).rd) := P.acell cg.1 4
  have f4 := P.afree cg.1 4
  have b4 : w.cell? ⟨wb, 4, none⟩ = some (.int .i64 m.rc) := P.wcell 4
  have g4 := P.wfree 4
  have hpw := P.nw _ cg.1
  have hpg := (P.ng.2.2.2.2.2 _ cg.1).1
  have hwg := P.ng.1
  have hF2 := hF
  simp only [fsOK, decide_eq_true_eq] at hF2
  have hrd : 0 ≤ (sxAt m.L id).rd ∧ (sxAt m.L id).rd ≤ (sxAt m.L id).cm ∧ (sxAt m.L id).cm ≤ 16384 * 402 := ⟨E.rd.1, E.rd.2.1, by have := E.rd.2.2; have := E.cm; have := E.td; omega⟩
  have hrc : 0 ≤ m.rc ∧ m.rc ≤ 16384 * 402 := ⟨hI.rc.1, by have := hI.rc.2; omega⟩
  have e : fread F m id n = (m, ⟨1, 0, 0, []⟩) := (if_pos cg).trans (if_pos (Or.inl hx))
  rw [e]
  have HG : Hid _ := And.intro CG True.intro
  clear CG P e hI E ei cg hF2 hF
  obtain ⟨p, ep⟩ : ∃ x, x = pb (ixf m.L id) := ⟨_, rfl⟩
  obtain ⟨cm, ecm⟩ : ∃ x, x = (sxAt m.L id).cm := ⟨_, rfl⟩
  obtain ⟨rd, erd⟩ : ∃ x, x = (sxAt m.L id).rd := ⟨_, rfl⟩
  obtain ⟨rc, erc⟩ : ∃ x, x = m.rc := ⟨_, rfl⟩
  rw [← ep] at LK a3 a4 f4 hpw hpg
  rw [← ecm] at a3 hrd
  rw [← erd] at a4 hrd
  rw [← erc] at b4 hrc
  clear ep ecm erd erc
  go_enter Try.func38, Try.ntmps38
  go_wp2_with (first | (go_at_call 62; refine HG.out.1.mono ?_; rintro e wg ⟨rfl, hwg⟩; subst hwg))
  go_quiet (fail)
  go_wp2
  go_ret2
  exact ⟨_, rfl, frames_nil _ _, FRep.drewN HR.out _, (ChT.refl _ _ _).drewN _⟩
set_option maxRecDepth 20000 in
set_option maxHeartbeats 4000000 in
theorem read_hi (g base : Nat) (F : FS) (hF : fsOK F = true) (m : FX) (i : Nat) (id n : Int) (w : World) (h : FRep w g base F m) (hI : FXI F i m) (hi : i ≤ 400) (hbase : base ≤ w.heap.size) (hw : (Lit.int .i64 id).wf = true) (cg : canG F m.L id) (hx : ¬ n < 1) (hy : (sxAt m.L id).cm - (sxAt m.L id).rd < n) :
    Calls Try.prog 38 #[.pointer (some ⟨g, 0, none⟩), .int .i64 id, .int .i64 n] w fun e w' => ∃ fv, e = .returned (.tuple #[fv, .int .i64 (fread F m id n).2.code]) ∧ GOwns 87 8 w' w.heap.size fv ((fread F m id n).2.fr.map frC) ∧ FDo w w' g base F (fread F m id n).1 := by
  have HR : Hid _ := h
  obtain ⟨wb, ms, ml, pb, P⟩ := h
  have CG := canGI g base F m _ _ wb ms ml pb i id w P hI hi hw
  rw [decide_eq_true cg] at CG
  obtain ⟨E, ei⟩ := hI.at' cg.1
  have c18 : w.cell? ⟨g, 18, none⟩ = some (.map (some ms)) := P.cell 18
  have c9 : w.cell? ⟨g, 9, none⟩ = some (.pointer (some ⟨wb, 0, none⟩)) := P.cell 9
  have LK := P.sm.look hw
  rw [mS_pos cg.1] at LK
  simp only [pval] at LK
  have a3 : w.cell? ⟨pb (ixf m.L id), 3, none⟩ = some (.int .i64 (sxAt m.L id).cm) := P.acell cg.1 3
  have a4 : w.cell? ⟨pb (ixf m.L id), 4, none⟩ = some (.int .i64 (sxAt m.L id).rd) := P.acell cg.1 4
  have f4 := P.afree cg.1 4
  have b4 : w.cell? ⟨wb, 4, none⟩ = some (.int .i64 m.rc) := P.wcell 4
  have g4 := P.wfree 4
  have hpw := P.nw _ cg.1
  have hpg := (P.ng.2.2.2.2.2 _ cg.1).1
  have hwg := P.ng.1
  have hF2 := hF
  simp only [fsOK, decide_eq_true_eq] at hF2
  have hrd : 0 ≤ (sxAt m.L id).rd ∧ (sxAt m.L id).rd ≤ (sxAt m.L id).cm ∧ (sxAt m.L id).cm ≤ 16384 * 402 := ⟨E.rd.1, E.rd.2.1, by have := E.rd.2.2; have := E.cm; have := E.td; omega⟩
  have hrc : 0 ≤ m.rc ∧ m.rc ≤ 16384 * 402 := ⟨hI.rc.1, by have := hI.rc.2; omega⟩
  have e : fread F m id n = (m, ⟨1, 0, 0, []⟩) := (if_pos cg).trans (if_pos (Or.inr hy))
  rw [e]
  have HG : Hid _ := And.intro CG True.intro
  clear CG P e hI E ei cg hF2 hF
  obtain ⟨p, ep⟩ : ∃ x, x = pb (ixf m.L id) := ⟨_, rfl⟩
  obtain ⟨cm, ecm⟩ : ∃ x, x = (sxAt m.L id).cm := ⟨_, rfl⟩
  obtain ⟨rd, erd⟩ : ∃ x, x = (sxAt m.L id).rd := ⟨_, rfl⟩
  obtain ⟨rc, erc⟩ : ∃ x, x = m.rc := ⟨_, rfl⟩
  rw [← ep] at LK a3 a4 f4 hpw hpg
  rw [← ecm] at a3 hrd hy
  rw [← erd] at a4 hrd hy
  rw [← erc] at b4 hrc
  clear ep ecm erd erc
  have hyd : decide (cm - rd < n) = true := decide_eq_true hy
  have hxd : decide (n < 1) = false := decide_eq_false hx
  go_enter Try.func38, Try.ntmps38
  go_wp2_with (first | (go_at_call 62; refine HG.out.1.mono ?_; rintro e wg ⟨rfl, hwg⟩; subst hwg))
  go_quiet (fail)
  go_wp2
  go_ret2
  exact ⟨_, rfl, frames_nil _ _, FRep.drewN HR.out _, (ChT.refl _ _ _).drewN _⟩
set_option maxRecDepth 20000 in
set_option maxHeartbeats 4000000 in
theorem read_nn (g base : Nat) (F : FS) (hF : fsOK F = true) (m : FX) (i : Nat) (id n : Int) (w : World) (h : FRep w g base F m) (hI : FXI F i m) (hi : i ≤ 400) (hbase : base ≤ w.heap.size) (hw : (Lit.int .i64 id).wf = true) (cg : canG F m.L id) (hx : ¬ n < 1) (hy : ¬ (sxAt m.L id).cm - (sxAt m.L id).rd < n)
    (ha : tdV F.sw ((sxAt m.L id).rd + n) (sxAt m.L id).td = (sxAt m.L id).td) (hb : tdV F.cw (m.rc + n) m.tc = m.tc) :
    Calls Try.prog 38 #[.pointer (some ⟨g, 0, none⟩), .int .i64 id, .int .i64 n] w fun e w' => ∃ fv, e = .returned (.tuple #[fv, .int .i64 (fread F m id n).2.code]) ∧ GOwns 87 8 w' w.heap.size fv ((fread F m id n).2.fr.map frC) ∧ FDo w w' g base F (fread F m id n).1 := by
  obtain ⟨wb, ms, ml, pb, P⟩ := h
  have CG := canGI g base F m _ _ wb ms ml pb i id w P hI hi hw
  rw [decide_eq_true cg] at CG
  obtain ⟨E, ei⟩ := hI.at' cg.1
  have c18 : w.cell? ⟨g, 18, none⟩ = some (.map (some ms)) := P.cell 18
  have c9 : w.cell? ⟨g, 9, none⟩ = some (.pointer (some ⟨wb, 0, none⟩)) := P.cell 9
  have LK := P.sm.look hw
  rw [mS_pos cg.1] at LK
  simp only [pval] at LK
  have a3 : w.cell? ⟨pb (ixf m.L id), 3, none⟩ = some (.int .i64 (sxAt m.L id).cm) := P.acell cg.1 3
  have a4 : w.cell? ⟨pb (ixf m.L id), 4, none⟩ = some (.int .i64 (sxAt m.L id).rd) := P.acell cg.1 4
  have f4 := P.afree cg.1 4
  have b4 : w.cell? ⟨wb, 4, none⟩ = some (.int .i64 m.rc) := P.wcell 4
  have g4 := P.wfree 4
  have hpw := P.nw _ cg.1
  have hpg := (P.ng.2.2.2.2.2 _ cg.1).1
  have hwg := P.ng.1
  have hF2 := hF
  simp only [fsOK, decide_eq_true_eq] at hF2
  have hrd : 0 ≤ (sxAt m.L id).rd ∧ (sxAt m.L id).rd ≤ (sxAt m.L id).cm ∧ (sxAt m.L id).cm ≤ 16384 * 402 := ⟨E.rd.1, E.rd.2.1, by have := E.rd.2.2; have := E.cm; have := E.td; omega⟩
  have hrc : 0 ≤ m.rc ∧ m.rc ≤ 16384 * 402 := ⟨hI.rc.1, by have := hI.rc.2; omega⟩
  obtain ⟨x1, ex1⟩ : ∃ x : SX, x = { sxAt m.L id with rd := (sxAt m.L id).rd + n } := ⟨_, rfl⟩
  obtain ⟨m2, em2⟩ : ∃ x : FX, x = { m with L := sxSet m.L id x1, rc := m.rc + n } := ⟨_, rfl⟩
  have e : fread F m id n = ({ m2 with L := sxSet m2.L id { x1 with td := tdV F.sw x1.rd x1.td }, tc := tdV F.cw m2.rc m2.tc },
      ⟨0, 0, 0, [] ++ []⟩) := by
    rw [em2, ex1]
    unfold fread
    rw [if_pos cg, if_neg (by omega), if_pos ha, if_pos hb]
    show (_, _) = (_, _)
    rw [sxSet_set (by exact ei)]
  rw [e]
  have hx1 : x1.id = id := by rw [ex1]; exact ei
  have hm2l : ixf m2.L id < m2.L.length := by rw [em2]; show ixf (sxSet m.L id x1) id < (sxSet m.L id x1).length; rw [set_ixf _ _ _ _ hx1, set_len]; exact cg.1
  have hm2i : ixf m2.L id = ixf m.L id := by rw [em2]; exact set_ixf _ _ _ _ hx1
  have hm2x : sxAt m2.L id = x1 := by rw [em2]; exact sxAt_set hx1 cg.1
  have hrd1 : x1.rd = (sxAt m.L id).rd + n := by rw [ex1]
  have htd1 : x1.td = (sxAt m.L id).td := by rw [ex1]
  have hrc1 : m2.rc = m.rc + n := by rw [em2]
  have htc1 : m2.tc = m.tc := by rw [em2]
  have ht0 := E.td
  have htc0 := hI.tc
  have hsc0 := hI.sum0.2.1
  have hcm0 := E.cm
  have s1 : sumS m2.L = sumS m.L := by rw [em2]; show sumS (sxSet m.L id x1) = _; rw [sumS_set _ _ _ cg.1, ex1]; show sumS m.L - (sxAt m.L id).sn + (sxAt m.L id).sn = _; omega
  have s2 : sumC m2.L = sumC m.L := by rw [em2]; show sumC (sxSet m.L id x1) = _; rw [sumC_set _ _ _ cg.1, ex1]; show sumC m.L - (sxAt m.L id).cm + (sxAt m.L id).cm = _; omega
  have FQ : ∀ q : Nat, FR (((w.drewN q).setCell ⟨pb (ixf m.L id), 4, none⟩ (.int .i64 ((sxAt m.L id).rd + n))).setCell ⟨wb, 4, none⟩ (.int .i64 (m.rc + n))) g base F m2 (sumS m.L) (sumC m.L) wb ms ml pb ∧ FCh base w (((w.drewN q).setCell ⟨pb (ixf m.L id), 4, none⟩ (.int .i64 ((sxAt m.L id).rd + n))).setCell ⟨wb, 4, none⟩ (.int .i64 (m.rc + n))) := fun q => by
    have h1 := (P.drewN q).setA id cg.1 4 (.int .i64 ((sxAt m.L id).rd + n)) x1 hx1 (by rw [ex1]) (by rw [ex1]; rfl)
    have k1 := (P.drewN q).chA ((ChT.refl _ _ _).drewN q) cg.1 4 (.int .i64 ((sxAt m.L id).rd + n))
    refine ⟨?_, h1.chW k1 4 _⟩
    rw [em2]
    exact h1.setW 4 _ rfl rfl rfl rfl rfl rfl
  have R1 : ∀ W : World, FR W g base F m2 (sumS m.L) (sumC m.L) wb ms ml pb → _ := fun W hW => renewS g base F hF m2 (sumS m.L) (sumC m.L) wb ms ml pb id W hW hm2l (by rw [hm2x, hrd1]; omega) (by rw [hm2x, htd1]; omega)
  have R2 : ∀ W : World, FR W g base F { m2 with L := sxSet m2.L id { sxAt m2.L id with td := tdV F.sw (sxAt m2.L id).rd (sxAt m2.L id).td } } (sumS m.L) (sumC m.L) wb ms ml pb → _ := fun W hW => renewW g base F hF _ (sumS m.L) (sumC m.L) wb ms ml pb W hW (by show 0 ≤ m2.rc ∧ m2.rc ≤ _; rw [hrc1]; omega) (by show 0 ≤ m2.tc ∧ m2.tc ≤ _; rw [htc1]; omega)
  rw [hm2i] at R1
  have eA : (!decide (tdV F.sw (sxAt m2.L id).rd (sxAt m2.L id).td = (sxAt m2.L id).td)) = false := by rw [hm2x, hrd1, htd1]; simpa using ha
  have eB : (!decide (tdV F.cw m2.rc m2.tc = m2.tc)) = false := by rw [hrc1, htc1]; simpa using hb
  rw [eA] at R1
  replace R2 : ∀ W : World, FR W g base F { m2 with L := sxSet m2.L id { sxAt m2.L id with td := tdV F.sw (sxAt m2.L id).rd (sxAt m2.L id).td } } (sumS m.L) (sumC m.L) wb ms ml pb → _ := fun W hW => (R2 W hW)
  have eB' : (!decide (tdV F.cw ({ m2 with L := sxSet m2.L id { sxAt m2.L id with td := tdV F.sw (sxAt m2.L id).rd (sxAt m2.L id).td } } : FX).rc ({ m2 with L := sxSet m2.L id { sxAt m2.L id with td := tdV F.sw (sxAt m2.L id).rd (sxAt m2.L id).td } } : FX).tc = ({ m2 with L := sxSet m2.L id { sxAt m2.L id with td := tdV F.sw (sxAt m2.L id).rd (sxAt m2.L id).td } } : FX).tc)) = false := eB
  rw [eB'] at R2
  rw [hm2x] at R1 R2
  have hix0 : ixf (sxSet m2.L id { x1 with td := tdV F.sw x1.rd x1.td }) id = ixf m.L id := (set_ixf _ _ _ { x1 with td := tdV F.sw x1.rd x1.td } (by exact hx1)).trans hm2i
  have hix3 : pb (ixf (sxSet m2.L id { x1 with td := tdV F.sw x1.rd x1.td }) id) = pb (ixf m.L id) := congrArg pb hix0
  have hl3 : ixf (sxSet m2.L id { x1 with td := tdV F.sw x1.rd x1.td }) id < (sxSet m2.L id { x1 with td := tdV F.sw x1.rd x1.td }).length := by rw [hix0, ← hm2i, set_len]; exact hm2l
  have hx3 : sxAt (sxSet m2.L id { x1 with td := tdV F.sw x1.rd x1.td }) id = { x1 with td := tdV F.sw x1.rd x1.td } := sxAt_set (by exact hx1) hm2l
  have s3 : sumS (sxSet m2.L id { x1 with td := tdV F.sw x1.rd x1.td }) = sumS m.L := by rw [sumS_set _ _ _ hm2l, hm2x, s1]; show sumS m.L - x1.sn + x1.sn = _; omega
  have s4 : sumC (sxSet m2.L id { x1 with td := tdV F.sw x1.rd x1.td }) = sumC m.L := by rw [sumC_set _ _ _ hm2l, hm2x, s2]; show sumC m.L - x1.cm + x1.cm = _; omega
  have fin : ∀ W : World, FR W g base F { m2 with L := sxSet m2.L id { x1 with td := tdV F.sw x1.rd x1.td }, tc := tdV F.cw m2.rc m2.tc } (sumS m.L) (sumC m.L) wb ms ml pb → FRep W g base F { m2 with L := sxSet m2.L id { x1 with td := tdV F.sw x1.rd x1.td }, tc := tdV F.cw m2.rc m2.tc } := fun W hW => ⟨wb, ms, ml, pb, by
    show FR W g base F _ (sumS (sxSet m2.L id _)) (sumC (sxSet m2.L id _)) wb ms ml pb
    rw [s3, s4]; exact hW⟩
  have et1 : tdV F.sw ((sxAt m.L id).rd + n) (sxAt m.L id).td = tdV F.sw x1.rd x1.td := by rw [hrd1, htd1]
  have et2 : tdV F.cw (m.rc + n) m.tc = tdV F.cw m2.rc m2.tc := by rw [hrc1, htc1]
  skip
  obtain ⟨L3, eL3⟩ : ∃ x, x = sxSet m2.L id { x1 with td := tdV F.sw x1.rd x1.td } := ⟨_, rfl⟩
  rw [← eL3] at R1 R2 fin hix3 hl3 hx3 ⊢
  obtain ⟨t1, eT1⟩ : ∃ x, x = tdV F.sw x1.rd x1.td := ⟨_, rfl⟩
  rw [← eT1] at hx3
  obtain ⟨t2, eT2⟩ : ∃ x, x = tdV F.cw m2.rc m2.tc := ⟨_, rfl⟩
  have HL : Hid _ := And.intro CG (And.intro FQ (And.intro R1 (And.intro R2 (And.intro fin (And.intro hix3 (And.intro hl3 (And.intro hx3 hbase)))))))
  rw [← eT2] at HL ⊢
  clear CG FQ R1 R2 fin hix0 hix3 hl3 hx3 e E ei hI hF hF2 ex1 em2 hx1 hm2l hm2i hm2x hrd1 htd1 hrc1 htc1 ht0 htc0 hsc0 hcm0 s1 s2 s3 s4 eA eB eB' et1 et2 eL3 eT1 eT2 ha hb P cg hbase
  obtain ⟨p, ep⟩ : ∃ x, x = pb (ixf m.L id) := ⟨_, rfl⟩
  obtain ⟨cm, ecm⟩ : ∃ x, x = (sxAt m.L id).cm := ⟨_, rfl⟩
  obtain ⟨rd, erd⟩ : ∃ x, x = (sxAt m.L id).rd := ⟨_, rfl⟩
  obtain ⟨rc, erc⟩ : ∃ x, x = m.rc := ⟨_, rfl⟩
  rw [← ep] at LK a3 a4 f4 hpw hpg
  rw [← ecm] at a3 hrd hy
  rw [← erd] at a4 hrd hy
  rw [← erc] at b4 hrc
  have hyd : decide (cm - rd < n) = false := decide_eq_false hy
  have hxd : decide (n < 1) = false := decide_eq_false hx
  have hn2 : n ≤ 16384 * 402 := by omega
  rw [← ep, ← erd, ← erc] at HL
  clear ep ecm erd erc
  go_enter Try.func38, Try.ntmps38
  go_wp2_with (first | (go_at_call 62; refine HL.out.1.mono ?_; rintro e wg ⟨rfl, hwg⟩; subst hwg))
  go_quiet (fail)
  go_wp2_with fail
  go_at_call 63
  refine (HL.out.2.2.1 _ (HL.out.2.1 nq).1).mono ?_
  rintro e w5 ⟨rfl, P5, C5⟩
  have K5 := (HL.out.2.1 nq).2.trans C5
  have d9 : w5.cell? ⟨g, 9, none⟩ = some (.pointer (some ⟨wb, 0, none⟩)) := P5.cell 9
  have d5 : w5.cell? ⟨p, 5, none⟩ = some (.int .i64 t1) := by
    have z : w5.cell? ⟨pb (ixf L3 id), 5, none⟩ = (acells F (sxAt L3 id))[5]? := P5.acell HL.out.2.2.2.2.2.2.1 5
    rw [HL.out.2.2.2.2.2.2.2.1, HL.out.2.2.2.2.2.1] at z
    exact z
  have H5 : Hid _ := And.intro P5 K5
  clear P5 C5 K5
  go_wp2_with (first
   | (go_at_call 63; refine (HL.out.2.2.2.1 _ H5.out.1).mono ?_; rintro e w8 ⟨rfl, P8, C8⟩; have K8 := (H5.out.2).trans C8; have e9 : w8.cell? ⟨g, 9, none⟩ = some (.pointer (some ⟨wb, 0, none⟩)) := P8.cell 9; have e5 : w8.cell? ⟨wb, 5, none⟩ = some (.int .i64 t2) := P8.wcell 5; have F8 : GOwns 87 8 w8 wg.heap.size (.slice none 0 0) (([] : List (Int × Int × Int)).map frC) := frames_nil _ _; have H8 : Hid _ := And.intro P8 (And.intro K8 F8); clear P8 C8 K8 F8))
  go_ret2
  exact ⟨_, rfl, H8.out.2.2, HL.out.2.2.2.2.1 _ H8.out.1, H8.out.2.1⟩
set_option maxRecDepth 20000 in
set_option maxHeartbeats 4000000 in
theorem read_ny (g base : Nat) (F : FS) (hF : fsOK F = true) (m : FX) (i : Nat) (id n : Int) (w : World) (h : FRep w g base F m) (hI : FXI F i m) (hi : i ≤ 400) (hbase : base ≤ w.heap.size) (hw : (Lit.int .i64 id).wf = true) (cg : canG F m.L id) (hx : ¬ n < 1) (hy : ¬ (sxAt m.L id).cm - (sxAt m.L id).rd < n)
    (ha : tdV F.sw ((sxAt m.L id).rd + n) (sxAt m.L id).td = (sxAt m.L id).td) (hb : ¬ tdV F.cw (m.rc + n) m.tc = m.tc) :
    Calls Try.prog 38 #[.pointer (some ⟨g, 0, none⟩), .int .i64 id, .int .i64 n] w fun e w' => ∃ fv, e = .returned (.tuple #[fv, .int .i64 (fread F m id n).2.code]) ∧ GOwns 87 8 w' w.heap.size fv ((fread F m id n).2.fr.map frC) ∧ FDo w w' g base F (fread F m id n).1 := by
  obtain ⟨wb, ms, ml, pb, P⟩ := h
  have CG := canGI g base F m _ _ wb ms ml pb i id w P hI hi hw
  rw [decide_eq_true cg] at CG
  obtain ⟨E, ei⟩ := hI.at' cg.1
  have c18 : w.cell? ⟨g, 18, none⟩ = some (.map (some ms)) := P.cell 18
  have c9 : w.cell? ⟨g, 9, none⟩ = some (.pointer (some ⟨wb, 0, none⟩)) := P.cell 9
  have LK := P.sm.look hw
  rw [mS_pos cg.1] at LK
  simp only [pval] at LK
  have a3 : w.cell? ⟨pb (ixf m.L id), 3, none⟩ = some (.int .i64 (sxAt m.L id).cm) := P.acell cg.1 3
  have a4 : w.cell? ⟨pb (ixf m.L id), 4, none⟩ = some (.int .i64 (sxAt m.L id).rd) := P.acell cg.1 4
  have f4 := P.afree cg.1 4
  have b4 : w.cell? ⟨wb, 4, none⟩ = some (.int .i64 m.rc) := P.wcell 4
  have g4 := P.wfree 4
  have hpw := P.nw _ cg.1
  have hpg := (P.ng.2.2.2.2.2 _ cg.1).1
  have hwg := P.ng.1
  have hF2 := hF
  simp only [fsOK, decide_eq_true_eq] at hF2
  have hrd : 0 ≤ (sxAt m.L id).rd ∧ (sxAt m.L id).rd ≤ (sxAt m.L id).cm ∧ (sxAt m.L id).cm ≤ 16384 * 402 := ⟨E.rd.1, E.rd.2.1, by have := E.rd.2.2; have := E.cm; have := E.td; omega⟩
  have hrc : 0 ≤ m.rc ∧ m.rc ≤ 16384 * 402 := ⟨hI.rc.1, by have := hI.rc.2; omega⟩
  obtain ⟨x1, ex1⟩ : ∃ x : SX, x = { sxAt m.L id with rd := (sxAt m.L id).rd + n } := ⟨_, rfl⟩
  obtain ⟨m2, em2⟩ : ∃ x : FX, x = { m with L := sxSet m.L id x1, rc := m.rc + n } := ⟨_, rfl⟩
  have e : fread F m id n = ({ m2 with L := sxSet m2.L id { x1 with td := tdV F.sw x1.rd x1.td }, tc := tdV F.cw m2.rc m2.tc },
      ⟨0, 0, 0, [] ++ [(16, tdV F.cw (m.rc + n) m.tc, 0)]⟩) := by
    rw [em2, ex1]
    unfold fread
    rw [if_pos cg, if_neg (by omega), if_pos ha, if_neg hb]
    show (_, _) = (_, _)
    rw [sxSet_set (by exact ei)]
  rw [e]
  have hx1 : x1.id = id := by rw [ex1]; exact ei
  have hm2l : ixf m2.L id < m2.L.length := by rw [em2]; show ixf (sxSet m.L id x1) id < (sxSet m.L id x1).length; rw [set_ixf _ _ _ _ hx1, set_len]; exact cg.1
  have hm2i : ixf m2.L id = ixf m.L id := by rw [em2]; exact set_ixf _ _ _ _ hx1
  have hm2x : sxAt m2.L id = x1 := by rw [em2]; exact sxAt_set hx1 cg.1
  have hrd1 : x1.rd = (sxAt m.L id).rd + n := by rw [ex1]
  have htd1 : x1.td = (sxAt m.L id).td := by rw [ex1]
  have hrc1 : m2.rc = m.rc + n := by rw [em2]
  have htc1 : m2.tc = m.tc := by rw [em2]
  have ht0 := E.td
  have htc0 := hI.tc
  have hsc0 := hI.sum0.2.1
  have hcm0 := E.cm
  have s1 : sumS m2.L = sumS m.L := by rw [em2]; show sumS (sxSet m.L id x1) = _; rw [sumS_set _ _ _ cg.1, ex1]; show sumS m.L - (sxAt m.L id).sn + (sxAt m.L id).sn = _; omega
  have s2 : sumC m2.L = sumC m.L := by rw [em2]; show sumC (sxSet m.L id x1) = _; rw [sumC_set _ _ _ cg.1, ex1]; show sumC m.L - (sxAt m.L id).cm + (sxAt m.L id).cm = _; omega
  have FQ : ∀ q : Nat, FR (((w.drewN q).setCell ⟨pb (ixf m.L id), 4, none⟩ (.int .i64 ((sxAt m.L id).rd + n))).setCell ⟨wb, 4, none⟩ (.int .i64 (m.rc + n))) g base F m2 (sumS m.L) (sumC m.L) wb ms ml pb ∧ FCh base w (((w.drewN q).setCell ⟨pb (ixf m.L id), 4, none⟩ (.int .i64 ((sxAt m.L id).rd + n))).setCell ⟨wb, 4, none⟩ (.int .i64 (m.rc + n))) := fun q => by
    have h1 := (P.drewN q).setA id cg.1 4 (.int .i64 ((sxAt m.L id).rd + n)) x1 hx1 (by rw [ex1]) (by rw [ex1]; rfl)
    have k1 := (P.drewN q).chA ((ChT.refl _ _ _).drewN q) cg.1 4 (.int .i64 ((sxAt m.L id).rd + n))
    refine ⟨?_, h1.chW k1 4 _⟩
    rw [em2]
    exact h1.setW 4 _ rfl rfl rfl rfl rfl rfl
  have R1 : ∀ W : World, FR W g base F m2 (sumS m.L) (sumC m.L) wb ms ml pb → _ := fun W hW => renewS g base F hF m2 (sumS m.L) (sumC m.L) wb ms ml pb id W hW hm2l (by rw [hm2x, hrd1]; omega) (by rw [hm2x, htd1]; omega)
  have R2 : ∀ W : World, FR W g base F { m2 with L := sxSet m2.L id { sxAt m2.L id with td := tdV F.sw (sxAt m2.L id).rd (sxAt m2.L id).td } } (sumS m.L) (sumC m.L) wb ms ml pb → _ := fun W hW => renewW g base F hF _ (sumS m.L) (sumC m.L) wb ms ml pb W hW (by show 0 ≤ m2.rc ∧ m2.rc ≤ _; rw [hrc1]; omega) (by show 0 ≤ m2.tc ∧ m2.tc ≤ _; rw [htc1]; omega)
  rw [hm2i] at R1
  have eA : (!decide (tdV F.sw (sxAt m2.L id).rd (sxAt m2.L id).td = (sxAt m2.L id).td)) = false := by rw [hm2x, hrd1, htd1]; simpa using ha
  have eB : (!decide (tdV F.cw m2.rc m2.tc = m2.tc)) = true := by rw [hrc1, htc1]; simpa using hb
  rw [eA] at R1
  replace R2 : ∀ W : World, FR W g base F { m2 with L := sxSet m2.L id { sxAt m2.L id with td := tdV F.sw (sxAt m2.L id).rd (sxAt m2.L id).td } } (sumS m.L) (sumC m.L) wb ms ml pb → _ := fun W hW => (R2 W hW)
  have eB' : (!decide (tdV F.cw ({ m2 with L := sxSet m2.L id { sxAt m2.L id with td := tdV F.sw (sxAt m2.L id).rd (sxAt m2.L id).td } } : FX).rc ({ m2 with L := sxSet m2.L id { sxAt m2.L id with td := tdV F.sw (sxAt m2.L id).rd (sxAt m2.L id).td } } : FX).tc = ({ m2 with L := sxSet m2.L id { sxAt m2.L id with td := tdV F.sw (sxAt m2.L id).rd (sxAt m2.L id).td } } : FX).tc)) = true := eB
  rw [eB'] at R2
  rw [hm2x] at R1 R2
  have hix0 : ixf (sxSet m2.L id { x1 with td := tdV F.sw x1.rd x1.td }) id = ixf m.L id := (set_ixf _ _ _ { x1 with td := tdV F.sw x1.rd x1.td } (by exact hx1)).trans hm2i
  have hix3 : pb (ixf (sxSet m2.L id { x1 with td := tdV F.sw x1.rd x1.td }) id) = pb (ixf m.L id) := congrArg pb hix0
  have hl3 : ixf (sxSet m2.L id { x1 with td := tdV F.sw x1.rd x1.td }) id < (sxSet m2.L id { x1 with td := tdV F.sw x1.rd x1.td }).length := by rw [hix0, ← hm2i, set_len]; exact hm2l
  have hx3 : sxAt (sxSet m2.L id { x1 with td := tdV F.sw x1.rd x1.td }) id = { x1 with td := tdV F.sw x1.rd x1.td } := sxAt_set (by exact hx1) hm2l
  have s3 : sumS (sxSet m2.L id { x1 with td := tdV F.sw x1.rd x1.td }) = sumS m.L := by rw [sumS_set _ _ _ hm2l, hm2x, s1]; show sumS m.L - x1.sn + x1.sn = _; omega
  have s4 : sumC (sxSet m2.L id { x1 with td := tdV F.sw x1.rd x1.td }) = sumC m.L := by rw [sumC_set _ _ _ hm2l, hm2x, s2]; show sumC m.L - x1.cm + x1.cm = _; omega
  have fin : ∀ W : World, FR W g base F { m2 with L := sxSet m2.L id { x1 with td := tdV F.sw x1.rd x1.td }, tc := tdV F.cw m2.rc m2.tc } (sumS m.L) (sumC m.L) wb ms ml pb → FRep W g base F { m2 with L := sxSet m2.L id { x1 with td := tdV F.sw x1.rd x1.td }, tc := tdV F.cw m2.rc m2.tc } := fun W hW => ⟨wb, ms, ml, pb, by
    show FR W g base F _ (sumS (sxSet m2.L id _)) (sumC (sxSet m2.L id _)) wb ms ml pb
    rw [s3, s4]; exact hW⟩
  have et1 : tdV F.sw ((sxAt m.L id).rd + n) (sxAt m.L id).td = tdV F.sw x1.rd x1.td := by rw [hrd1, htd1]
  have et2 : tdV F.cw (m.rc + n) m.tc = tdV F.cw m2.rc m2.tc := by rw [hrc1, htc1]
  rw [et2]
  obtain ⟨L3, eL3⟩ : ∃ x, x = sxSet m2.L id { x1 with td := tdV F.sw x1.rd x1.td } := ⟨_, rfl⟩
  rw [← eL3] at R1 R2 fin hix3 hl3 hx3 ⊢
  obtain ⟨t1, eT1⟩ : ∃ x, x = tdV F.sw x1.rd x1.td := ⟨_, rfl⟩
  rw [← eT1] at hx3
  obtain ⟨t2, eT2⟩ : ∃ x, x = tdV F.cw m2.rc m2.tc := ⟨_, rfl⟩
  have HL : Hid _ := And.intro CG (And.intro FQ (And.intro R1 (And.intro R2 (And.intro fin (And.intro hix3 (And.intro hl3 (And.intro hx3 hbase)))))))
  rw [← eT2] at HL ⊢
  clear CG FQ R1 R2 fin hix0 hix3 hl3 hx3 e E ei hI hF hF2 ex1 em2 hx1 hm2l hm2i hm2x hrd1 htd1 hrc1 htc1 ht0 htc0 hsc0 hcm0 s1 s2 s3 s4 eA eB eB' et1 et2 eL3 eT1 eT2 ha hb P cg hbase
  obtain ⟨p, ep⟩ : ∃ x, x = pb (ixf m.L id) := ⟨_, rfl⟩
  obtain ⟨cm, ecm⟩ : ∃ x, x = (sxAt m.L id).cm := ⟨_, rfl⟩
  obtain ⟨rd, erd⟩ : ∃ x, x = (sxAt m.L id).rd := ⟨_, rfl⟩
  obtain ⟨rc, erc⟩ : ∃ x, x = m.rc := ⟨_, rfl⟩
  rw [← ep] at LK a3 a4 f4 hpw hpg
  rw [← ecm] at a3 hrd hy
  rw [← erd] at a4 hrd hy
  rw [← erc] at b4 hrc
  have hyd : decide (cm - rd < n) = false := decide_eq_false hy
  have hxd : decide (n < 1) = false := decide_eq_false hx
  have hn2 : n ≤ 16384 * 402 := by omega
  rw [← ep, ← erd, ← erc] at HL
  clear ep ecm erd erc
  go_enter Try.func38, Try.ntmps38
  go_wp2_with (first | (go_at_call 62; refine HL.out.1.mono ?_; rintro e wg ⟨rfl, hwg⟩; subst hwg))
  go_quiet (fail)
  go_wp2_with fail
  go_at_call 63
  refine (HL.out.2.2.1 _ (HL.out.2.1 nq).1).mono ?_
  rintro e w5 ⟨rfl, P5, C5⟩
  have K5 := (HL.out.2.1 nq).2.trans C5
  have d9 : w5.cell? ⟨g, 9, none⟩ = some (.pointer (some ⟨wb, 0, none⟩)) := P5.cell 9
  have d5 : w5.cell? ⟨p, 5, none⟩ = some (.int .i64 t1) := by
    have z : w5.cell? ⟨pb (ixf L3 id), 5, none⟩ = (acells F (sxAt L3 id))[5]? := P5.acell HL.out.2.2.2.2.2.2.1 5
    rw [HL.out.2.2.2.2.2.2.2.1, HL.out.2.2.2.2.2.1] at z
    exact z
  have H5 : Hid _ := And.intro P5 K5
  clear P5 C5 K5
  go_wp2_with (first
   | (go_at_call 63; refine (HL.out.2.2.2.1 _ H5.out.1).mono ?_; rintro e w8 ⟨rfl, P8, C8⟩; have K8 := (H5.out.2).trans C8; have e9 : w8.cell? ⟨g, 9, none⟩ = some (.pointer (some ⟨wb, 0, none⟩)) := P8.cell 9; have e5 : w8.cell? ⟨wb, 5, none⟩ = some (.int .i64 t2) := P8.wcell 5; have F8 : GOwns 87 8 w8 wg.heap.size (.slice none 0 0) (([] : List (Int × Int × Int)).map frC) := frames_nil _ _; have H8 : Hid _ := And.intro P8 (And.intro K8 F8); clear P8 C8 K8 F8)
   | (at_builtin; refine wpList_append_flat rfl (.tmp 70) (.tmp 79) 41 87 Try.underlying41 _ 8 112 infoFrC rfl (by decide) (by decide) rfl wg.heap.size (.slice none 0 0) (([] : List (Int × Int × Int)).map frC) (frC_flat _) rfl (H8.out.2.2.below ((Below.refl _ _).alloc (Nat.le_refl _) _)) _ [frC (16, t2, 0)] (frC_flat [(16, t2, 0)]) rfl (lit_flat w8 (frC (16, t2, 0)) 87) (by simp) (by have := H8.out.2.1.size; simp; omega) ?_; intro v9 w9 o9 g9; have H9 : Hid _ := And.intro o9 g9; clear o9 g9))
  go_ret2
  have B9 : Below w8.heap.size w8 (w8.alloc (.cells (frC (16, t2, 0)).toArray 87)) := (Below.refl _ _).alloc (Nat.le_refl _) _
  have F9 := H8.out.2.2.below B9
  exact ⟨_, rfl, H9.out.1, HL.out.2.2.2.2.1 _ ((H8.out.1.below B9).grown F9 H9.out.2), (H8.out.2.1.trans (ChT.of_below B9)).grownN H9.out.2 (gown_lo F9)⟩
set_option maxRecDepth 20000 in
set_option maxHeartbeats 4000000 in
theorem read_yn (g base : Nat) (F : FS) (hF : fsOK F = true) (m : FX) (i : Nat) (id n : Int) (w : World) (h : FRep w g base F m) (hI : FXI F i m) (hi : i ≤ 400) (hbase : base ≤ w.heap.size) (hw : (Lit.int .i64 id).wf = true) (cg : canG F m.L id) (hx : ¬ n < 1) (hy : ¬ (sxAt m.L id).cm - (sxAt m.L id).rd < n)
    (ha : ¬ tdV F.sw ((sxAt m.L id).rd + n) (sxAt m.L id).td = (sxAt m.L id).td) (hb : tdV F.cw (m.rc + n) m.tc = m.tc) :
    Calls Try.prog 38 #[.pointer (some ⟨g, 0, none⟩), .int .i64 id, .int .i64 n] w fun e w' => ∃ fv, e = .returned (.tuple #[fv, .int .i64 (fread F m id n).2.code]) ∧ GOwns 87 8 w' w.heap.size fv ((fread F m id n).2.fr.map frC) ∧ FDo w w' g base F (fread F m id n).1 := by
  obtain ⟨wb, ms, ml, pb, P⟩ := h
  have CG := canGI g base F m _ _ wb ms ml pb i id w P hI hi hw
  rw [decide_eq_true cg] at CG
  obtain ⟨E, ei⟩ := hI.at' cg.1
  have c18 : w.cell? ⟨g, 18, none⟩ = some (.map (some ms)) := P.cell 18
  have c9 : w.cell? ⟨g, 9, none⟩ = some (.pointer (some ⟨wb, 0, none⟩)) := P.cell 9
  have LK := P.sm.look hw
  rw [mS_pos cg.1] at LK
  simp only [pval] at LK
  have a3 : w.cell? ⟨pb (ixf m.L id), 3, none⟩ = some (.int .i64 (sxAt m.L id).cm) := P.acell cg.1 3
  have a4 : w.cell? ⟨pb (ixf m.L id), 4, none⟩ = some (.int .i64 (sxAt m.L id).rd) := P.acell cg.1 4
  have f4 := P.afree cg.1 4
  have b4 : w.cell? ⟨wb, 4, none⟩ = some (.int .i64 m.rc) := P.wcell 4
  have g4 := P.wfree 4
  have hpw := P.nw _ cg.1
  have hpg := (P.ng.2.2.2.2.2 _ cg.1).1
  have hwg := P.ng.1
  have hF2 := hF
  simp only [fsOK, decide_eq_true_eq] at hF2
  have hrd : 0 ≤ (sxAt m.L id).rd ∧ (sxAt m.L id).rd ≤ (sxAt m.L id).cm ∧ (sxAt m.L id).cm ≤ 16384 * 402 := ⟨E.rd.1, E.rd.2.1, by have := E.rd.2.2; have := E.cm; have := E.td; omega⟩
  have hrc : 0 ≤ m.rc ∧ m.rc ≤ 16384 * 402 := ⟨hI.rc.1, by have := hI.rc.2; omega⟩
  obtain ⟨x1, ex1⟩ : ∃ x : SX, x = { sxAt m.L id with rd := (sxAt m.L id).rd + n } := ⟨_, rfl⟩
  obtain ⟨m2, em2⟩ : ∃ x : FX, x = { m with L := sxSet m.L id x1, rc := m.rc + n } := ⟨_, rfl⟩
  have e : fread F m id n = ({ m2 with L := sxSet m2.L id { x1 with td := tdV F.sw x1.rd x1.td }, tc := tdV F.cw m2.rc m2.tc },
      ⟨0, 0, 0, [(17, id, tdV F.sw ((sxAt m.L id).rd + n) (sxAt m.L id).td)] ++ []⟩) := by
    rw [em2, ex1]
    unfold fread
    rw [if_pos cg, if_neg (by omega), if_neg ha, if_pos hb]
    show (_, _) = (_, _)
    rw [sxSet_set (by exact ei)]
  rw [e]
  have hx1 : x1.id = id := by rw [ex1]; exact ei
  have hm2l : ixf m2.L id < m2.L.length := by rw [em2]; show ixf (sxSet m.L id x1) id < (sxSet m.L id x1).length; rw [set_ixf _ _ _ _ hx1, set_len]; exact cg.1
  have hm2i : ixf m2.L id = ixf m.L id := by rw [em2]; exact set_ixf _ _ _ _ hx1
  have hm2x : sxAt m2.L id = x1 := by rw [em2]; exact sxAt_set hx1 cg.1
  have hrd1 : x1.rd = (sxAt m.L id).rd + n := by rw [ex1]
  have htd1 : x1.td = (sxAt m.L id).td := by rw [ex1]
  have hrc1 : m2.rc = m.rc + n := by rw [em2]
  have htc1 : m2.tc = m.tc := by rw [em2]
  have ht0 := E.td
  have htc0 := hI.tc
  have hsc0 := hI.sum0.2.1
  have hcm0 := E.cm
  have s1 : sumS m2.L = sumS m.L := by rw [em2]; show sumS (sxSet m.L id x1) = _; rw [sumS_set _ _ _ cg.1, ex1]; show sumS m.L - (sxAt m.L id).sn + (sxAt m.L id).sn = _; omega
  have s2 : sumC m2.L = sumC m.L := by rw [em2]; show sumC (sxSet m.L id x1) = _; rw [sumC_set _ _ _ cg.1, ex1]; show sumC m.L - (sxAt m.L id).cm + (sxAt m.L id).cm = _; omega
  have FQ : ∀ q : Nat, FR (((w.drewN q).setCell ⟨pb (ixf m.L id), 4, none⟩ (.int .i64 ((sxAt m.L id).rd + n))).setCell ⟨wb, 4, none⟩ (.int .i64 (m.rc + n))) g base F m2 (sumS m.L) (sumC m.L) wb ms ml pb ∧ FCh base w (((w.drewN q).setCell ⟨pb (ixf m.L id), 4, none⟩ (.int .i64 ((sxAt m.L id).rd + n))).setCell ⟨wb, 4, none⟩ (.int .i64 (m.rc + n))) := fun q => by
    have h1 := (P.drewN q).setA id cg.1 4 (.int .i64 ((sxAt m.L id).rd + n)) x1 hx1 (by rw [ex1]) (by rw [ex1]; rfl)
    have k1 := (P.drewN q).chA ((ChT.refl _ _ _).drewN q) cg.1 4 (.int .i64 ((sxAt m.L id).rd + n))
    refine ⟨?_, h1.chW k1 4 _⟩
    rw [em2]
    exact h1.setW 4 _ rfl rfl rfl rfl rfl rfl
  have R1 : ∀ W : World, FR W g base F m2 (sumS m.L) (sumC m.L) wb ms ml pb → _ := fun W hW => renewS g base F hF m2 (sumS m.L) (sumC m.L) wb ms ml pb id W hW hm2l (by rw [hm2x, hrd1]; omega) (by rw [hm2x, htd1]; omega)
  have R2 : ∀ W : World, FR W g base F { m2 with L := sxSet m2.L id { sxAt m2.L id with td := tdV F.sw (sxAt m2.L id).rd (sxAt m2.L id).td } } (sumS m.L) (sumC m.L) wb ms ml pb → _ := fun W hW => renewW g base F hF _ (sumS m.L) (sumC m.L) wb ms ml pb W hW (by show 0 ≤ m2.rc ∧ m2.rc ≤ _; rw [hrc1]; omega) (by show 0 ≤ m2.tc ∧ m2.tc ≤ _; rw [htc1]; omega)
  rw [hm2i] at R1
  have eA : (!decide (tdV F.sw (sxAt m2.L id).rd (sxAt m2.L id).td = (sxAt m2.L id).td)) = true := by rw [hm2x, hrd1, htd1]; simpa using ha
  have eB : (!decide (tdV F.cw m2.rc m2.tc = m2.tc)) = false := by rw [hrc1, htc1]; simpa using hb
  rw [eA] at R1
  replace R2 : ∀ W : World, FR W g base F { m2 with L := sxSet m2.L id { sxAt m2.L id with td := tdV F.sw (sxAt m2.L id).rd (sxAt m2.L id).td } } (sumS m.L) (sumC m.L) wb ms ml pb → _ := fun W hW => (R2 W hW)
  have eB' : (!decide (tdV F.cw ({ m2 with L := sxSet m2.L id { sxAt m2.L id with td := tdV F.sw (sxAt m2.L id).rd (sxAt m2.L id).td } } : FX).rc ({ m2 with L := sxSet m2.L id { sxAt m2.L id with td := tdV F.sw (sxAt m2.L id).rd (sxAt m2.L id).td } } : FX).tc = ({ m2 with L := sxSet m2.L id { sxAt m2.L id with td := tdV F.sw (sxAt m2.L id).rd (sxAt m2.L id).td } } : FX).tc)) = false := eB
  rw [eB'] at R2
  rw [hm2x] at R1 R2
  have hix0 : ixf (sxSet m2.L id { x1 with td := tdV F.sw x1.rd x1.td }) id = ixf m.L id := (set_ixf _ _ _ { x1 with td := tdV F.sw x1.rd x1.td } (by exact hx1)).trans hm2i
  have hix3 : pb (ixf (sxSet m2.L id { x1 with td := tdV F.sw x1.rd x1.td }) id) = pb (ixf m.L id) := congrArg pb hix0
  have hl3 : ixf (sxSet m2.L id { x1 with td := tdV F.sw x1.rd x1.td }) id < (sxSet m2.L id { x1 with td := tdV F.sw x1.rd x1.td }).length := by rw [hix0, ← hm2i, set_len]; exact hm2l
  have hx3 : sxAt (sxSet m2.L id { x1 with td := tdV F.sw x1.rd x1.td }) id = { x1 with td := tdV F.sw x1.rd x1.td } := sxAt_set (by exact hx1) hm2l
  have s3 : sumS (sxSet m2.L id { x1 with td := tdV F.sw x1.rd x1.td }) = sumS m.L := by rw [sumS_set _ _ _ hm2l, hm2x, s1]; show sumS m.L - x1.sn + x1.sn = _; omega
  have s4 : sumC (sxSet m2.L id { x1 with td := tdV F.sw x1.rd x1.td }) = sumC m.L := by rw [sumC_set _ _ _ hm2l, hm2x, s2]; show sumC m.L - x1.cm + x1.cm = _; omega
  have fin : ∀ W : World, FR W g base F { m2 with L := sxSet m2.L id { x1 with td := tdV F.sw x1.rd x1.td }, tc := tdV F.cw m2.rc m2.tc } (sumS m.L) (sumC m.L) wb ms ml pb → FRep W g base F { m2 with L := sxSet m2.L id { x1 with td := tdV F.sw x1.rd x1.td }, tc := tdV F.cw m2.rc m2.tc } := fun W hW => ⟨wb, ms, ml, pb, by
    show FR W g base F _ (sumS (sxSet m2.L id _)) (sumC (sxSet m2.L id _)) wb ms ml pb
    rw [s3, s4]; exact hW⟩
  have et1 : tdV F.sw ((sxAt m.L id).rd + n) (sxAt m.L id).td = tdV F.sw x1.rd x1.td := by rw [hrd1, htd1]
  have et2 : tdV F.cw (m.rc + n) m.tc = tdV F.cw m2.rc m2.tc := by rw [hrc1, htc1]
  rw [et1]
  obtain ⟨L3, eL3⟩ : ∃ x, x = sxSet m2.L id { x1 with td := tdV F.sw x1.rd x1.td } := ⟨_, rfl⟩
  rw [← eL3] at R1 R2 fin hix3 hl3 hx3 ⊢
  obtain ⟨t1, eT1⟩ : ∃ x, x = tdV F.sw x1.rd x1.td := ⟨_, rfl⟩
  rw [← eT1] at hx3 ⊢
  obtain ⟨t2, eT2⟩ : ∃ x, x = tdV F.cw m2.rc m2.tc := ⟨_, rfl⟩
  have HL : Hid _ := And.intro CG (And.intro FQ (And.intro R1 (And.intro R2 (And.intro fin (And.intro hix3 (And.intro hl3 (And.intro hx3 hbase)))))))
  rw [← eT2] at HL ⊢
  clear CG FQ R1 R2 fin hix0 hix3 hl3 hx3 e E ei hI hF hF2 ex1 em2 hx1 hm2l hm2i hm2x hrd1 htd1 hrc1 htc1 ht0 htc0 hsc0 hcm0 s1 s2 s3 s4 eA eB eB' et1 et2 eL3 eT1 eT2 ha hb P cg hbase
  obtain ⟨p, ep⟩ : ∃ x, x = pb (ixf m.L id) := ⟨_, rfl⟩
  obtain ⟨cm, ecm⟩ : ∃ x, x = (sxAt m.L id).cm := ⟨_, rfl⟩
  obtain ⟨rd, erd⟩ : ∃ x, x = (sxAt m.L id).rd := ⟨_, rfl⟩
  obtain ⟨rc, erc⟩ : ∃ x, x = m.rc := ⟨_, rfl⟩
  rw [← ep] at LK a3 a4 f4 hpw hpg
  rw [← ecm] at a3 hrd hy
  rw [← erd] at a4 hrd hy
  rw [← erc] at b4 hrc
  have hyd : decide (cm - rd < n) = false := decide_eq_false hy
  have hxd : decide (n < 1) = false := decide_eq_false hx
  have hn2 : n ≤ 16384 * 402 := by omega
  rw [← ep, ← erd, ← erc] at HL
  clear ep ecm erd erc
  go_enter Try.func38, Try.ntmps38
  go_wp2_with (first | (go_at_call 62; refine HL.out.1.mono ?_; rintro e wg ⟨rfl, hwg⟩; subst hwg))
  go_quiet (fail)
  go_wp2_with fail
  go_at_call 63
  refine (HL.out.2.2.1 _ (HL.out.2.1 nq).1).mono ?_
  rintro e w5 ⟨rfl, P5, C5⟩
  have K5 := (HL.out.2.1 nq).2.trans C5
  have d9 : w5.cell? ⟨g, 9, none⟩ = some (.pointer (some ⟨wb, 0, none⟩)) := P5.cell 9
  have d5 : w5.cell? ⟨p, 5, none⟩ = some (.int .i64 t1) := by
    have z : w5.cell? ⟨pb (ixf L3 id), 5, none⟩ = (acells F (sxAt L3 id))[5]? := P5.acell HL.out.2.2.2.2.2.2.1 5
    rw [HL.out.2.2.2.2.2.2.2.1, HL.out.2.2.2.2.2.1] at z
    exact z
  have H5 : Hid _ := And.intro P5 K5
  clear P5 C5 K5
  go_wp2_with (first
   | (at_builtin; refine wpList_append_flat rfl (.tmp 56) (.tmp 63) 41 87 Try.underlying41 _ 8 112 infoFrC rfl (by decide) (by decide) rfl wg.heap.size (.slice none 0 0) (([] : List (Int × Int × Int)).map frC) (frC_flat _) rfl (frames_nil _ _) _ [frC (17, id, t1)] (frC_flat [(17, id, t1)]) rfl (lit_flat w5 (frC (17, id, t1)) 87) (by simp) (by have := H5.out.2.size; simp; omega) ?_; intro v6 w6 o6 g6
      have H6 : Hid _ := And.intro o6 g6
      have B6 : Below w5.heap.size w5 (w5.alloc (.cells (frC (17, id, t1)).toArray 87)) := (Below.refl _ _).alloc (Nat.le_refl _) _
      have P6 := (H5.out.1.below B6).grown (frames_nil _ wg.heap.size) H6.out.2
      have K6 : FCh base wg w6 := (H5.out.2.trans (ChT.of_below B6)).grownN H6.out.2 (fun k hk => by cases hk)
      have F6 : GOwns 87 8 w6 wg.heap.size v6 ([(17, id, t1)].map frC) := H6.out.1
      have d9' : w6.cell? ⟨g, 9, none⟩ = some (.pointer (some ⟨wb, 0, none⟩)) := P6.cell 9
      obtain ⟨fa, fn, fc, ef, efn⟩ := slice_form F6
      have H7 : Hid _ := And.intro P6 (And.intro K6 F6)
      have HEF : Hid _ := efn
      clear o6 g6 P6 K6 F6 B6 H6 efn d9 d5
      subst ef)
   | (go_at_call 63; refine (HL.out.2.2.2.1 _ H7.out.1).mono ?_; rintro e w8 ⟨rfl, P8, C8⟩; have K8 := (H7.out.2.1).trans C8; have e9 : w8.cell? ⟨g, 9, none⟩ = some (.pointer (some ⟨wb, 0, none⟩)) := P8.cell 9; have e5 : w8.cell? ⟨wb, 5, none⟩ = some (.int .i64 t2) := P8.wcell 5; have F8 : GOwns 87 8 w8 wg.heap.size (.slice fa fn fc) ([(17, id, t1)].map frC) := GOwns.ch C8 H7.out.2.2 (by decide); have H8 : Hid _ := And.intro P8 (And.intro K8 F8); clear P8 C8 K8 F8))
  go_ret2
  exact ⟨_, rfl, H8.out.2.2, HL.out.2.2.2.2.1 _ H8.out.1, H8.out.2.1⟩
set_option maxRecDepth 20000 in
set_option maxHeartbeats 4000000 in
theorem read_yy (g base : Nat) (F : FS) (hF : fsOK F = true) (m : FX) (i : Nat) (id n : Int) (w : World) (h : FRep w g base F m) (hI : FXI F i m) (hi : i ≤ 400) (hbase : base ≤ w.heap.size) (hw : (Lit.int .i64 id).wf = true) (cg : canG F m.L id) (hx : ¬ n < 1) (hy : ¬ (sxAt m.L id).cm - (sxAt m.L id).rd < n)
    (ha : ¬ tdV F.sw ((sxAt m.L id).rd + n) (sxAt m.L id).td = (sxAt m.L id).td) (hb : ¬ tdV F.cw (m.rc + n) m.tc = m.tc) :
    Calls Try.prog 38 #[.pointer (some ⟨g, 0, none⟩), .int .i64 id, .int .i64 n] w fun e w' => ∃ fv, e = .returned (.tuple #[fv, .int .i64 (fread F m id n).2.code]) ∧ GOwns 87 8 w' w.heap.size fv ((fread F m id n).2.fr.map frC) ∧ FDo w w' g base F (fread F m id n).1 := by
  obtain ⟨wb, ms, ml, pb, P⟩ := h
  have CG := canGI g base F m _ _ wb ms ml pb i id w P hI hi hw
  rw [decide_eq_true cg] at CG
  obtain ⟨E, ei⟩ := hI.at' cg.1
  have c18 : w.cell? ⟨g, 18, none⟩ = some (.map (some ms)) := P.cell 18
  have c9 : w.cell? ⟨g, 9, none⟩ = some (.pointer (some ⟨wb, 0, none⟩)) := P.cell 9
  have LK := P.sm.look hw
  rw [mS_pos cg.1] at LK
  simp only [pval] at LK
  have a3 : w.cell? ⟨pb (ixf m.L id), 3, none⟩ = some (.int .i64 (sxAt m.L id).cm) := P.acell cg.1 3
  have a4 : w.cell? ⟨pb (ixf m.L id), 4, none⟩ = some (.int .i64 (sxAt m.L id).rd) := P.acell cg.1 4
  have f4 := P.afree cg.1 4
  have b4 : w.cell? ⟨wb, 4, none⟩ = some (.int .i64 m.rc) := P.wcell 4
  have g4 := P.wfree 4
  have hpw := P.nw _ cg.1
  have hpg := (P.ng.2.2.2.2.2 _ cg.1).1
  have hwg := P.ng.1
  have hF2 := hF
  simp only [fsOK, decide_eq_true_eq] at hF2
  have hrd : 0 ≤ (sxAt m.L id).rd ∧ (sxAt m.L id).rd ≤ (sxAt m.L id).cm ∧ (sxAt m.L id).cm ≤ 16384 * 402 := ⟨E.rd.1, E.rd.2.1, by have := E.rd.2.2; have := E.cm; have := E.td; omega⟩
  have hrc : 0 ≤ m.rc ∧ m.rc ≤ 16384 * 402 := ⟨hI.rc.1, by have := hI.rc.2; omega⟩
  obtain ⟨x1, ex1⟩ : ∃ x : SX, x = { sxAt m.L id with rd := (sxAt m.L id).rd + n } := ⟨_, rfl⟩
  obtain ⟨m2, em2⟩ : ∃ x : FX, x = { m with L := sxSet m.L id x1, rc := m.rc + n } := ⟨_, rfl⟩
  have e : fread F m id n = ({ m2 with L := sxSet m2.L id { x1 with td := tdV F.sw x1.rd x1.td }, tc := tdV F.cw m2.rc m2.tc },
      ⟨0, 0, 0, [(17, id, tdV F.sw ((sxAt m.L id).rd + n) (sxAt m.L id).td)] ++ [(16, tdV F.cw (m.rc + n) m.tc, 0)]⟩) := by
    rw [em2, ex1]
    unfold fread
    rw [if_pos cg, if_neg (by omega), if_neg ha, if_neg hb]
    show (_, _) = (_, _)
    rw [sxSet_set (by exact ei)]
  rw [e]
  have hx1 : x1.id = id := by rw [ex1]; exact ei
  have hm2l : ixf m2.L id < m2.L.length := by rw [em2]; show ixf (sxSet m.L id x1) id < (sxSet m.L id x1).length; rw [set_ixf _ _ _ _ hx1, set_len]; exact cg.1
  have hm2i : ixf m2.L id = ixf m.L id := by rw [em2]; exact set_ixf _ _ _ _ hx1
  have hm2x : sxAt m2.L id = x1 := by rw [em2]; exact sxAt_set hx1 cg.1
  have hrd1 : x1.rd = (sxAt m.L id).rd + n := by rw [ex1]
  have htd1 : x1.td = (sxAt m.L id).td := by rw [ex1]
  have hrc1 : m2.rc = m.rc + n := by rw [em2]
  have htc1 : m2.tc = m.tc := by rw [em2]
  have ht0 := E.td
  have htc0 := hI.tc
  have hsc0 := hI.sum0.2.1
  have hcm0 := E.cm
  have s1 : sumS m2.L = sumS m.L := by rw [em2]; show sumS (sxSet m.L id x1) = _; rw [sumS_set _ _ _ cg.1, ex1]; show sumS m.L - (sxAt m.L id).sn + (sxAt m.L id).sn = _; omega
  have s2 : sumC m2.L = sumC m.L := by rw [em2]; show sumC (sxSet m.L id x1) = _; rw [sumC_set _ _ _ cg.1, ex1]; show sumC m.L - (sxAt m.L id).cm + (sxAt m.L id).cm = _; omega
  have FQ : ∀ q : Nat, FR (((w.drewN q).setCell ⟨pb (ixf m.L id), 4, none⟩ (.int .i64 ((sxAt m.L id).rd + n))).setCell ⟨wb, 4, none⟩ (.int .i64 (m.rc + n))) g base F m2 (sumS m.L) (sumC m.L) wb ms ml pb ∧ FCh base w (((w.drewN q).setCell ⟨pb (ixf m.L id), 4, none⟩ (.int .i64 ((sxAt m.L id).rd + n))).setCell ⟨wb, 4, none⟩ (.int .i64 (m.rc + n))) := fun q => by
    have h1 := (P.drewN q).setA id cg.1 4 (.int .i64 ((sxAt m.L id).rd + n)) x1 hx1 (by rw [ex1]) (by rw [ex1]; rfl)
    have k1 := (P.drewN q).chA ((ChT.refl _ _ _).drewN q) cg.1 4 (.int .i64 ((sxAt m.L id).rd + n))
    refine ⟨?_, h1.chW k1 4 _⟩
    rw [em2]
    exact h1.setW 4 _ rfl rfl rfl rfl rfl rfl
  have R1 : ∀ W : World, FR W g base F m2 (sumS m.L) (sumC m.L) wb ms ml pb → _ := fun W hW => renewS g base F hF m2 (sumS m.L) (sumC m.L) wb ms ml pb id W hW hm2l (by rw [hm2x, hrd1]; omega) (by rw [hm2x, htd1]; omega)
  have R2 : ∀ W : World, FR W g base F { m2 with L := sxSet m2.L id { sxAt m2.L id with td := tdV F.sw (sxAt m2.L id).rd (sxAt m2.L id).td } } (sumS m.L) (sumC m.L) wb ms ml pb → _ := fun W hW => renewW g base F hF _ (sumS m.L) (sumC m.L) wb ms ml pb W hW (by show 0 ≤ m2.rc ∧ m2.rc ≤ _; rw [hrc1]; omega) (by show 0 ≤ m2.tc ∧ m2.tc ≤ _; rw [htc1]; omega)
  rw [hm2i] at R1
  have eA : (!decide (tdV F.sw (sxAt m2.L id).rd (sxAt m2.L id).td = (sxAt m2.L id).td)) = true := by rw [hm2x, hrd1, htd1]; simpa using ha
  have eB : (!decide (tdV F.cw m2.rc m2.tc = m2.tc)) = true := by rw [hrc1, htc1]; simpa using hb
  rw [eA] at R1
  replace R2 : ∀ W : World, FR W g base F { m2 with L := sxSet m2.L id { sxAt m2.L id with td := tdV F.sw (sxAt m2.L id).rd (sxAt m2.L id).td } } (sumS m.L) (sumC m.L) wb ms ml pb → _ := fun W hW => (R2 W hW)
  have eB' : (!decide (tdV F.cw ({ m2 with L := sxSet m2.L id { sxAt m2.L id with td := tdV F.sw (sxAt m2.L id).rd (sxAt m2.L id).td } } : FX).rc ({ m2 with L := sxSet m2.L id { sxAt m2.L id with td := tdV F.sw (sxAt m2.L id).rd (sxAt m2.L id).td } } : FX).tc = ({ m2 with L := sxSet m2.L id { sxAt m2.L id with td := tdV F.sw (sxAt m2.L id).rd (sxAt m2.L id).td } } : FX).tc)) = true := eB
  rw [eB'] at R2
  rw [hm2x] at R1 R2
  have hix0 : ixf (sxSet m2.L id { x1 with td := tdV F.sw x1.rd x1.td }) id = ixf m.L id := (set_ixf _ _ _ { x1 with td := tdV F.sw x1.rd x1.td } (by exact hx1)).trans hm2i
  have hix3 : pb (ixf (sxSet m2.L id { x1 with td := tdV F.sw x1.rd x1.td }) id) = pb (ixf m.L id) := congrArg pb hix0
  have hl3 : ixf (sxSet m2.L id { x1 with td := tdV F.sw x1.rd x1.td }) id < (sxSet m2.L id { x1 with td := tdV F.sw x1.rd x1.td }).length := by rw [hix0, ← hm2i, set_len]; exact hm2l
  have hx3 : sxAt (sxSet m2.L id { x1 with td := tdV F.sw x1.rd x1.td }) id = { x1 with td := tdV F.sw x1.rd x1.td } := sxAt_set (by exact hx1) hm2l
  have s3 : sumS (sxSet m2.L id { x1 with td := tdV F.sw x1.rd x1.td }) = sumS m.L := by rw [sumS_set _ _ _ hm2l, hm2x, s1]; show sumS m.L - x1.sn + x1.sn = _; omega
  have s4 : sumC (sxSet m2.L id { x1 with td := tdV F.sw x1.rd x1.td }) = sumC m.L := by rw [sumC_set _ _ _ hm2l, hm2x, s2]; show sumC m.L - x1.cm + x1.cm = _; omega
  have fin : ∀ W : World, FR W g base F { m2 with L := sxSet m2.L id { x1 with td := tdV F.sw x1.rd x1.td }, tc := tdV F.cw m2.rc m2.tc } (sumS m.L) (sumC m.L) wb ms ml pb → FRep W g base F { m2 with L := sxSet m2.L id { x1 with td := tdV F.sw x1.rd x1.td }, tc := tdV F.cw m2.rc m2.tc } := fun W hW => ⟨wb, ms, ml, pb, by
    show FR W g base F _ (sumS (sxSet m2.L id _)) (sumC (sxSet m2.L id _)) wb ms ml pb
    rw [s3, s4]; exact hW⟩
  have et1 : tdV F.sw ((sxAt m.L id).rd + n) (sxAt m.L id).td = tdV F.sw x1.rd x1.td := by rw [hrd1, htd1]
  have et2 : tdV F.cw (m.rc + n) m.tc = tdV F.cw m2.rc m2.tc := by rw [hrc1, htc1]
  rw [et1, et2]
  obtain ⟨L3, eL3⟩ : ∃ x, x = sxSet m2.L id { x1 with td := tdV F.sw x1.rd x1.td } := ⟨_, rfl⟩
  rw [← eL3] at R1 R2 fin hix3 hl3 hx3 ⊢
  obtain ⟨t1, eT1⟩ : ∃ x, x = tdV F.sw x1.rd x1.td := ⟨_, rfl⟩
  rw [← eT1] at hx3 ⊢
  obtain ⟨t2, eT2⟩ : ∃ x, x = tdV F.cw m2.rc m2.tc := ⟨_, rfl⟩
  have HL : Hid _ := And.intro CG (And.intro FQ (And.intro R1 (And.intro R2 (And.intro fin (And.intro hix3 (And.intro hl3 (And.intro hx3 hbase)))))))
  rw [← eT2] at HL ⊢
  clear CG FQ R1 R2 fin hix0 hix3 hl3 hx3 e E ei hI hF hF2 ex1 em2 hx1 hm2l hm2i hm2x hrd1 htd1 hrc1 htc1 ht0 htc0 hsc0 hcm0 s1 s2 s3 s4 eA eB eB' et1 et2 eL3 eT1 eT2 ha hb P cg hbase
  obtain ⟨p, ep⟩ : ∃ x, x = pb (ixf m.L id) := ⟨_, rfl⟩
  obtain ⟨cm, ecm⟩ : ∃ x, x = (sxAt m.L id).cm := ⟨_, rfl⟩
  obtain ⟨rd, erd⟩ : ∃ x, x = (sxAt m.L id).rd := ⟨_, rfl⟩
  obtain ⟨rc, erc⟩ : ∃ x, x = m.rc := ⟨_, rfl⟩
  rw [← ep] at LK a3 a4 f4 hpw hpg
  rw [← ecm] at a3 hrd hy
  rw [← erd] at a4 hrd hy
  rw [← erc] at b4 hrc
  have hyd : decide (cm - rd < n) = false := decide_eq_false hy
  have hxd : decide (n < 1) = false := decide_eq_false hx
  have hn2 : n ≤ 16384 * 402 := by omega
  rw [← ep, ← erd, ← erc] at HL
  clear ep ecm erd erc
  go_enter Try.func38, Try.ntmps38
  go_wp2_with (first | (go_at_call 62; refine HL.out.1.mono ?_; rintro e wg ⟨rfl, hwg⟩; subst hwg))
  go_quiet (fail)
  go_wp2_with fail
  go_at_call 63
  refine (HL.out.2.2.1 _ (HL.out.2.1 nq).1).mono ?_
  rintro e w5 ⟨rfl, P5, C5⟩
  have K5 := (HL.out.2.1 nq).2.trans C5
  have d9 : w5.cell? ⟨g, 9, none⟩ = some (.pointer (some ⟨wb, 0, none⟩)) := P5.cell 9
  have d5 : w5.cell? ⟨p, 5, none⟩ = some (.int .i64 t1) := by
    have z : w5.cell? ⟨pb (ixf L3 id), 5, none⟩ = (acells F (sxAt L3 id))[5]? := P5.acell HL.out.2.2.2.2.2.2.1 5
    rw [HL.out.2.2.2.2.2.2.2.1, HL.out.2.2.2.2.2.1] at z
    exact z
  have H5 : Hid _ := And.intro P5 K5
  clear P5 C5 K5
  go_wp2_with (first
   | (at_builtin; refine wpList_append_flat rfl (.tmp 56) (.tmp 63) 41 87 Try.underlying41 _ 8 112 infoFrC rfl (by decide) (by decide) rfl wg.heap.size (.slice none 0 0) (([] : List (Int × Int × Int)).map frC) (frC_flat _) rfl (frames_nil _ _) _ [frC (17, id, t1)] (frC_flat [(17, id, t1)]) rfl (lit_flat w5 (frC (17, id, t1)) 87) (by simp) (by have := H5.out.2.size; simp; omega) ?_; intro v6 w6 o6 g6
      have H6 : Hid _ := And.intro o6 g6
      have B6 : Below w5.heap.size w5 (w5.alloc (.cells (frC (17, id, t1)).toArray 87)) := (Below.refl _ _).alloc (Nat.le_refl _) _
      have P6 := (H5.out.1.below B6).grown (frames_nil _ wg.heap.size) H6.out.2
      have K6 : FCh base wg w6 := (H5.out.2.trans (ChT.of_below B6)).grownN H6.out.2 (fun k hk => by cases hk)
      have F6 : GOwns 87 8 w6 wg.heap.size v6 ([(17, id, t1)].map frC) := H6.out.1
      have d9' : w6.cell? ⟨g, 9, none⟩ = some (.pointer (some ⟨wb, 0, none⟩)) := P6.cell 9
      obtain ⟨fa, fn, fc, ef, efn⟩ := slice_form F6
      have H7 : Hid _ := And.intro P6 (And.intro K6 F6)
      have HEF : Hid _ := efn
      clear o6 g6 P6 K6 F6 B6 H6 efn d9 d5
      subst ef)
   | (go_at_call 63; refine (HL.out.2.2.2.1 _ H7.out.1).mono ?_; rintro e w8 ⟨rfl, P8, C8⟩; have K8 := (H7.out.2.1).trans C8; have e9 : w8.cell? ⟨g, 9, none⟩ = some (.pointer (some ⟨wb, 0, none⟩)) := P8.cell 9; have e5 : w8.cell? ⟨wb, 5, none⟩ = some (.int .i64 t2) := P8.wcell 5; have F8 : GOwns 87 8 w8 wg.heap.size (.slice fa fn fc) ([(17, id, t1)].map frC) := GOwns.ch C8 H7.out.2.2 (by decide); have H8 : Hid _ := And.intro P8 (And.intro K8 F8); clear P8 C8 K8 F8)
   | (at_builtin; refine wpList_append_flat rfl (.tmp 70) (.tmp 79) 41 87 Try.underlying41 _ 8 112 infoFrC rfl (by decide) (by decide) rfl wg.heap.size (.slice fa fn fc) (([(17, id, t1)] : List (Int × Int × Int)).map frC) (frC_flat _) rfl (H8.out.2.2.below ((Below.refl _ _).alloc (Nat.le_refl _) _)) _ [frC (16, t2, 0)] (frC_flat [(16, t2, 0)]) rfl (lit_flat w8 (frC (16, t2, 0)) 87) (by simp) (by have := H8.out.2.1.size; simp; omega) ?_; intro v9 w9 o9 g9; have H9 : Hid _ := And.intro o9 g9; clear o9 g9))
  go_ret2
  have B9 : Below w8.heap.size w8 (w8.alloc (.cells (frC (16, t2, 0)).toArray 87)) := (Below.refl _ _).alloc (Nat.le_refl _) _
  have F9 := H8.out.2.2.below B9
  exact ⟨_, rfl, H9.out.1, HL.out.2.2.2.2.1 _ ((H8.out.1.below B9).grown F9 H9.out.2), (H8.out.2.1.trans (ChT.of_below B9)).grownN H9.out.2 (gown_lo F9)⟩
theorem readI (g base : Nat) (F : FS) (hF : fsOK F = true) (m : FX) (i : Nat) (id n : Int) (w : World) (h : FRep w g base F m) (hI : FXI F i m) (hi : i ≤ 400) (hbase : base ≤ w.heap.size) (hw : (Lit.int .i64 id).wf = true) :
    Calls Try.prog 38 #[.pointer (some ⟨g, 0, none⟩), .int .i64 id, .int .i64 n] w fun e w' => ∃ fv, e = .returned (.tuple #[fv, .int .i64 (fread F m id n).2.code]) ∧ GOwns 87 8 w' w.heap.size fv ((fread F m id n).2.fr.map frC) ∧ FDo w w' g base F (fread F m id n).1 := by
  by_cases cg : canG F m.L id
  · by_cases hx : n < 1
    · exact read_lo g base F hF m i id n w h hI hi hbase hw cg hx
    by_cases hy : (sxAt m.L id).cm - (sxAt m.L id).rd < n
    · exact read_hi g base F hF m i id n w h hI hi hbase hw cg hx hy
    by_cases ha : tdV F.sw ((sxAt m.L id).rd + n) (sxAt m.L id).td = (sxAt m.L id).td <;> by_cases hb : tdV F.cw (m.rc + n) m.tc = m.tc
    · exact read_nn g base F hF m i id n w h hI hi hbase hw cg hx hy ha hb
    · exact read_ny g base F hF m i id n w h hI hi hbase hw cg hx hy ha hb
    · exact read_yn g base F hF m i id n w h hI hi hbase hw cg hx hy ha hb
    · exact read_yy g base F hF m i id n w h hI hi hbase hw cg hx hy ha hb
  · exact read_no g base F hF m i id n w h hI hi hbase hw cg
end Go.Proofs.Ytcoakpmfappnlaa
