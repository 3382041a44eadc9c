import Derived.Test.YthjakbpcpfmbjaaFuS
namespace Go.Proofs.Ythjakbpcpfmbjaa
open Go.RowKit
set_option linter.unusedVariables false
set_option linter.unusedSimpArgs false

theorem fwho_inv {F : FS} (hF : fsOK F = true) {m : FX} {i : Nat} (hI : FXI F i m) (hi : i ≤ 400) {id : Int} (h : ptS id = F.sv ∨ ¬ m.tin (ptO id) ≤ id / 4) : FXI F i (fwho F m id) := by
  unfold fwho
  split
  · exact hI
  · rename_i c
    rw [fadm_eq]
    have hth := hI.th (ptO id)
    refine hI.adm hF hi (ptO id) _ ?_
    rcases h with h | h
    · exact absurd h c
    · omega

set_option maxRecDepth 20000 in
set_option maxHeartbeats 4000000 in
theorem arrive_bad (g base : Nat) (F : FS) (hF : fsOK F = true) (m : FX) (i : Nat) (id n : Int) (w : World) (h : FRep w g base F m) (hI : FXI F i m) (hi : i ≤ 400) (hbase : base ≤ w.heap.size) (hw : (Lit.int .i64 id).wf = true) (hc : id < 0 ∨ 4611686018427387904 ≤ id ∨ n < 0 ∨ 4611686018427387903 < n) :
    Calls Try.prog 38 #[.pointer (some ⟨g, 0, none⟩), .int .i64 id, .int .i64 n] w fun e w' => e = .returned (.int .i64 (farrive F m id n).2) ∧ FDo w w' g base F (farrive F m id n).1 := by
  have e : farrive F m id n = (m, 1) := if_pos hc
  rw [e]
  have HR : Hid _ := h
  have P := implIdParts id w
  by_cases a0 : id < 0 ∨ 4611686018427387904 ≤ id
  · rw [show ptC id = 1 from if_pos a0] at P
    have HP : Hid _ := And.intro P True.intro
    clear P h hI e hc a0
    generalize ptS id = q0 at *
    generalize ptO id = q1 at *
    generalize ptP id = q2 at *
    go_enter Try.func38, Try.ntmps38
    go_wp2_with (first | (go_at_call 8; refine HP.out.1.mono ?_; rintro e wp ⟨rfl, hwp⟩; subst hwp))
    go_ret
    exact ⟨rfl, FDo.refl HR.out⟩
  · rw [show ptC id = 0 from if_neg a0] at P
    have HP : Hid _ := And.intro P True.intro
    clear P h hI e
    generalize ptS id = q0 at *
    generalize ptO id = q1 at *
    generalize ptP id = q2 at *
    by_cases a1 : n < 0
    · clear hc a0
      go_enter Try.func38, Try.ntmps38
      go_wp2_with (first | (go_at_call 8; refine HP.out.1.mono ?_; rintro e wp ⟨rfl, hwp⟩; subst hwp))
      go_ret
      exact ⟨rfl, FDo.refl HR.out⟩
    · have a2 : 4611686018427387903 < n := by omega
      clear hc a0
      go_enter Try.func38, Try.ntmps38
      go_wp2_with (first | (go_at_call 8; refine HP.out.1.mono ?_; rintro e wp ⟨rfl, hwp⟩; subst hwp))
      go_ret
      exact ⟨rfl, FDo.refl HR.out⟩
set_option maxRecDepth 20000 in
set_option maxHeartbeats 4000000 in
theorem arrive_9 (g base : Nat) (F : FS) (hF : fsOK F = true) (m : FX) (i : Nat) (id n : Int) (w : World) (h : FRep w g base F m) (hI : FXI F i m) (hi : i ≤ 400) (hbase : base ≤ w.heap.size) (hw : (Lit.int .i64 id).wf = true) (hc : ¬ (id < 0 ∨ 4611686018427387904 ≤ id ∨ n < 0 ∨ 4611686018427387903 < n)) (hs : ptS id ≠ F.sv) (ht : m.tin (ptO id) ≤ id / 4) :
    Calls Try.prog 38 #[.pointer (some ⟨g, 0, none⟩), .int .i64 id, .int .i64 n] w fun e w' => e = .returned (.int .i64 (farrive F m id n).2) ∧ FDo w w' g base F (farrive F m id n).1 := by
  have h0 : 0 ≤ id := by omega
  have h1 : id < 4611686018427387904 := by omega
  have n0 : ¬ n < 0 := by omega
  have n1 : ¬ 4611686018427387903 < n := by omega
  have P := implIdParts id w
  rw [show ptC id = 0 from if_neg (by omega), show ptP id = id / 4 from if_neg (by omega)] at P
  have HP : Hid _ := And.intro P True.intro
  clear P
  have e : farrive F m id n = (m, 9) := (if_neg hc).trans (if_pos ⟨hs, ht⟩)
  rw [e]
  obtain ⟨wb, ms, ml, pb, hr⟩ := h
  have O := oursI g F.sv id w (hr.cell 0) h0 h1
  rw [show (ptS id == F.sv) = false by simpa using hs] at O
  have A := admitI g base F hF m i id w ⟨wb, ms, ml, pb, hr⟩ hI hi hbase h0 h1 hs
  rw [if_pos ht, if_pos ht] at A
  have HO : Hid _ := And.intro O A
  clear O A hr hI e hc hs ht
  generalize ptS id = q0 at *
  generalize ptO id = q1 at *
  generalize id / 4 = q2 at *
  go_enter Try.func38, Try.ntmps38
  go_wp2_with (first | (go_at_call 8; refine HP.out.1.mono ?_; rintro e wp ⟨rfl, hwp⟩; subst hwp) | (go_at_call 54; refine HO.out.1.mono ?_; rintro e wo ⟨rfl, hwo⟩; subst hwo) | (go_at_call 55; refine HO.out.2.mono ?_; rintro e wa ⟨rfl, ha⟩; have HA : Hid _ := ha; clear ha))
  go_ret
  exact ⟨rfl, HA.out⟩
set_option maxRecDepth 20000 in
set_option maxHeartbeats 4000000 in
theorem arrive_ours_no (g base : Nat) (F : FS) (hF : fsOK F = true) (m : FX) (i : Nat) (id n : Int) (w : World) (h : FRep w g base F m) (hI : FXI F i m) (hi : i ≤ 400) (hbase : base ≤ w.heap.size) (hw : (Lit.int .i64 id).wf = true) (hc : ¬ (id < 0 ∨ 4611686018427387904 ≤ id ∨ n < 0 ∨ 4611686018427387903 < n)) (hs : ptS id = F.sv) (cg : ¬ canG F (fwho F m id).L id) :
    Calls Try.prog 38 #[.pointer (some ⟨g, 0, none⟩), .int .i64 id, .int .i64 n] w fun e w' => e = .returned (.int .i64 (farrive F m id n).2) ∧ FDo w w' g base F (farrive F m id n).1 := by
  have h0 : 0 ≤ id := by omega
  have h1 : id < 4611686018427387904 := by omega
  have n0 : ¬ n < 0 := by omega
  have n1 : ¬ 4611686018427387903 < n := by omega
  have P := implIdParts id w
  rw [show ptC id = 0 from if_neg (by omega), show ptP id = id / 4 from if_neg (by omega)] at P
  have HP : Hid _ := And.intro P True.intro
  clear P
  have eF : farrive F m id n = fput F (fwho F m id) id n := (if_neg hc).trans (if_neg (fun q => q.1 hs))
  have hM : FXI F i (fwho F m id) := fwho_inv hF hI hi (Or.inl hs)
  have eW : fwho F m id = m := if_pos hs
  obtain ⟨wb, ms, ml, pb, hr⟩ := h
  have O := oursI g F.sv id w (hr.cell 0) h0 h1
  rw [show (ptS id == F.sv) = true by simpa using hs] at O
  have A : FDo w w g base F (fwho F m id) := by rw [eW]; exact FDo.refl ⟨wb, ms, ml, pb, hr⟩
  have e : fput F (fwho F m id) id n = ((fwho F m id), 7) := if_neg cg
  rw [eF, e]
  obtain ⟨M, eM⟩ : ∃ M, M = fwho F m id := ⟨_, rfl⟩
  rw [← eM] at A hM cg  ⊢
  have HO : Hid _ := And.intro O A
  have HM : Hid _ := And.intro hM cg
  clear O A eF e eW eM hr hI hM
  have hsv : Hid _ := hs
  clear hc hs
  generalize ptS id = q0 at *
  generalize ptO id = q1 at *
  generalize id / 4 = q2 at *
  go_enter Try.func38, Try.ntmps38
  go_wp2_with (first | (go_at_call 8; refine HP.out.1.mono ?_; rintro e wp ⟨rfl, hwp⟩; subst hwp) | (go_at_call 54; refine HO.out.1.mono ?_; rintro e wo ⟨rfl, hwo⟩; subst hwo))
  have hch : Hid _ := HO.out.2.2
  obtain ⟨wb', ms', ml', pb', P⟩ := HO.out.2.1
  have CG := canGI g base F M _ _ wb' ms' ml' pb' i id _ P HM.out.1 hi hw
  rw [decide_eq_false HM.out.2] at CG
  have HG : Hid _ := And.intro CG P
  clear CG P
  go_wp2_with (first | (go_at_call 56; refine HG.out.1.mono ?_; rintro e wg ⟨rfl, hwg⟩; subst hwg))
  go_ret
  exact ⟨rfl, ⟨wb', ms', ml', pb', HG.out.2⟩, hch.out⟩
set_option maxRecDepth 20000 in
set_option maxHeartbeats 4000000 in
theorem arrive_ours_full (g base : Nat) (F : FS) (hF : fsOK F = true) (m : FX) (i : Nat) (id n : Int) (w : World) (h : FRep w g base F m) (hI : FXI F i m) (hi : i ≤ 400) (hbase : base ≤ w.heap.size) (hw : (Lit.int .i64 id).wf = true) (hc : ¬ (id < 0 ∨ 4611686018427387904 ≤ id ∨ n < 0 ∨ 4611686018427387903 < n)) (hs : ptS id = F.sv) (cg : canG F (fwho F m id).L id) (hx : (sxAt (fwho F m id).L id).td < n) :
    Calls Try.prog 38 #[.pointer (some ⟨g, 0, none⟩), .int .i64 id, .int .i64 n] w fun e w' => e = .returned (.int .i64 (farrive F m id n).2) ∧ FDo w w' g base F (farrive F m id n).1 := by
  have h0 : 0 ≤ id := by omega
  have h1 : id < 4611686018427387904 := by omega
  have n0 : ¬ n < 0 := by omega
  have n1 : ¬ 4611686018427387903 < n := by omega
  have P := implIdParts id w
  rw [show ptC id = 0 from if_neg (by omega), show ptP id = id / 4 from if_neg (by omega)] at P
  have HP : Hid _ := And.intro P True.intro
  clear P
  have eF : farrive F m id n = fput F (fwho F m id) id n := (if_neg hc).trans (if_neg (fun q => q.1 hs))
  have hM : FXI F i (fwho F m id) := fwho_inv hF hI hi (Or.inl hs)
  have eW : fwho F m id = m := if_pos hs
  obtain ⟨wb, ms, ml, pb, hr⟩ := h
  have O := oursI g F.sv id w (hr.cell 0) h0 h1
  rw [show (ptS id == F.sv) = true by simpa using hs] at O
  have A : FDo w w g base F (fwho F m id) := by rw [eW]; exact FDo.refl ⟨wb, ms, ml, pb, hr⟩
  obtain ⟨E, ei⟩ := hM.at' cg.1
  have e : fput F (fwho F m id) id n = ((fwho F m id), 8) := (if_pos cg).trans (if_pos (by have := E.cm; omega))
  rw [eF, e]
  obtain ⟨M, eM⟩ : ∃ M, M = fwho F m id := ⟨_, rfl⟩
  rw [← eM] at A hM cg hx ⊢
  have HO : Hid _ := And.intro O A
  have HM : Hid _ := And.intro hM cg
  clear O A eF e eW eM hr hI hM
  clear E ei
  have hsv : Hid _ := hs
  clear hc hs
  generalize ptS id = q0 at *
  generalize ptO id = q1 at *
  generalize id / 4 = q2 at *
  go_enter Try.func38, Try.ntmps38
  go_wp2_with (first | (go_at_call 8; refine HP.out.1.mono ?_; rintro e wp ⟨rfl, hwp⟩; subst hwp) | (go_at_call 54; refine HO.out.1.mono ?_; rintro e wo ⟨rfl, hwo⟩; subst hwo))
  have hch : Hid _ := HO.out.2.2
  obtain ⟨wb', ms', ml', pb', P⟩ := HO.out.2.1
  have CG := canGI g base F M _ _ wb' ms' ml' pb' i id _ P HM.out.1 hi hw
  rw [decide_eq_true HM.out.2] at CG
  have hcg := HM.out.2
  have c18 := P.cell 18
  have c9 := P.cell 9
  have LK := P.sm.look hw
  rw [mS_pos hcg.1] at LK
  simp only [pval] at LK
  have a3 := P.acell hcg.1 3
  have a5 := P.acell hcg.1 5
  have f3 := P.afree hcg.1 3
  have b3 := P.wcell 3
  have b5 := P.wcell 5
  have g3 := P.wfree 3
  have hpw := P.nw _ hcg.1
  have hpg := (P.ng.2.2.2.2.2 _ hcg.1).1
  have hwg := P.ng.1
  have LKd := (P.sm.same (w' := _) (b := ms') rfl)
  obtain ⟨E, ei⟩ := HM.out.1.at' hcg.1
  have hcm : 0 ≤ (sxAt M.L id).cm ∧ (sxAt M.L id).cm ≤ (sxAt M.L id).td := ⟨by have := E.rd; omega, E.cm⟩
  have hsc := HM.out.1.sum0.2.1
  have htc := HM.out.1.tc
  have hrc := HM.out.1.rc
  have hF2 := hF
  simp only [fsOK, decide_eq_true_eq] at hF2
  have hcw : F.cw ≤ 16384 := by omega
  have htd : (sxAt M.L id).td ≤ 16384 * 402 := by have := E.td; have := E.rd; omega
  have htc2 : M.tc ≤ 16384 * 402 := by omega
  clear hF2 LKd
  simp only [fcells, acells, wcells] at c18 c9 a3 a5 b3 b5
  replace c18 := c18.trans (show _ = some (Value.map (some ms')) from rfl)
  replace c9 := c9.trans (show _ = some (Value.pointer (some ⟨wb', 0, none⟩)) from rfl)
  replace a3 := a3.trans (show _ = some (Value.int .i64 (sxAt M.L id).cm) from rfl)
  replace a5 := a5.trans (show _ = some (Value.int .i64 (sxAt M.L id).td) from rfl)
  replace b3 := b3.trans (show _ = some (Value.int .i64 (sumC M.L)) from rfl)
  replace b5 := b5.trans (show _ = some (Value.int .i64 M.tc) from rfl)
  have HG : Hid _ := And.intro CG (show FRep _ g base F M from ⟨wb', ms', ml', pb', P⟩)
  clear CG P E ei hcg HM
  obtain ⟨p, ep⟩ : ∃ x, x = pb' (ixf M.L id) := ⟨_, rfl⟩
  obtain ⟨cm, ecm⟩ : ∃ x, x = (sxAt M.L id).cm := ⟨_, rfl⟩
  obtain ⟨td, etd⟩ : ∃ x, x = (sxAt M.L id).td := ⟨_, rfl⟩
  obtain ⟨sc, esc⟩ : ∃ x, x = sumC M.L := ⟨_, rfl⟩
  obtain ⟨tc, etc⟩ : ∃ x, x = M.tc := ⟨_, rfl⟩
  rw [← ep] at LK a3 a5 f3 hpw hpg
  rw [← ecm] at a3 hcm
  rw [← etd] at a5 hcm htd hx
  rw [← esc] at b3 hsc htc
  rw [← etc] at b5 htc htc2
  have HQ : Hid _ := And.intro ep (And.intro ecm (And.intro etd (And.intro esc etc)))
  clear ep ecm etd esc etc
  go_wp2_with (first | (go_at_call 56; refine HG.out.1.mono ?_; rintro e wg ⟨rfl, hwg⟩; subst hwg))
  go_quiet (fail)
  go_wp2
  go_ret
  exact ⟨rfl, HG.out.2.drewN _, hch.out.drewN _⟩
set_option maxRecDepth 20000 in
set_option maxHeartbeats 4000000 in
theorem arrive_ours_conn (g base : Nat) (F : FS) (hF : fsOK F = true) (m : FX) (i : Nat) (id n : Int) (w : World) (h : FRep w g base F m) (hI : FXI F i m) (hi : i ≤ 400) (hbase : base ≤ w.heap.size) (hw : (Lit.int .i64 id).wf = true) (hc : ¬ (id < 0 ∨ 4611686018427387904 ≤ id ∨ n < 0 ∨ 4611686018427387903 < n)) (hs : ptS id = F.sv) (cg : canG F (fwho F m id).L id) (hx : ¬ (sxAt (fwho F m id).L id).td < n) (hy : (fwho F m id).tc - sumC (fwho F m id).L < max 0 (n - (sxAt (fwho F m id).L id).cm)) :
    Calls Try.prog 38 #[.pointer (some ⟨g, 0, none⟩), .int .i64 id, .int .i64 n] w fun e w' => e = .returned (.int .i64 (farrive F m id n).2) ∧ FDo w w' g base F (farrive F m id n).1 := by
  have h0 : 0 ≤ id := by omega
  have h1 : id < 4611686018427387904 := by omega
  have n0 : ¬ n < 0 := by omega
  have n1 : ¬ 4611686018427387903 < n := by omega
  have P := implIdParts id w
  rw [show ptC id = 0 from if_neg (by omega), show ptP id = id / 4 from if_neg (by omega)] at P
  have HP : Hid _ := And.intro P True.intro
  clear P
  have eF : farrive F m id n = fput F (fwho F m id) id n := (if_neg hc).trans (if_neg (fun q => q.1 hs))
  have hM : FXI F i (fwho F m id) := fwho_inv hF hI hi (Or.inl hs)
  have eW : fwho F m id = m := if_pos hs
  obtain ⟨wb, ms, ml, pb, hr⟩ := h
  have O := oursI g F.sv id w (hr.cell 0) h0 h1
  rw [show (ptS id == F.sv) = true by simpa using hs] at O
  have A : FDo w w g base F (fwho F m id) := by rw [eW]; exact FDo.refl ⟨wb, ms, ml, pb, hr⟩
  obtain ⟨E, ei⟩ := hM.at' cg.1
  have e : fput F (fwho F m id) id n = ((fwho F m id), 8) := (if_pos cg).trans (if_pos (by have := E.cm; omega))
  rw [eF, e]
  obtain ⟨M, eM⟩ : ∃ M, M = fwho F m id := ⟨_, rfl⟩
  rw [← eM] at A hM cg hx hy ⊢
  have HO : Hid _ := And.intro O A
  have HM : Hid _ := And.intro hM cg
  clear O A eF e eW eM hr hI hM
  clear E ei
  have hsv : Hid _ := hs
  clear hc hs
  generalize ptS id = q0 at *
  generalize ptO id = q1 at *
  generalize id / 4 = q2 at *
  go_enter Try.func38, Try.ntmps38
  go_wp2_with (first | (go_at_call 8; refine HP.out.1.mono ?_; rintro e wp ⟨rfl, hwp⟩; subst hwp) | (go_at_call 54; refine HO.out.1.mono ?_; rintro e wo ⟨rfl, hwo⟩; subst hwo))
  have hch : Hid _ := HO.out.2.2
  obtain ⟨wb', ms', ml', pb', P⟩ := HO.out.2.1
  have CG := canGI g base F M _ _ wb' ms' ml' pb' i id _ P HM.out.1 hi hw
  rw [decide_eq_true HM.out.2] at CG
  have hcg := HM.out.2
  have c18 := P.cell 18
  have c9 := P.cell 9
  have LK := P.sm.look hw
  rw [mS_pos hcg.1] at LK
  simp only [pval] at LK
  have a3 := P.acell hcg.1 3
  have a5 := P.acell hcg.1 5
  have f3 := P.afree hcg.1 3
  have b3 := P.wcell 3
  have b5 := P.wcell 5
  have g3 := P.wfree 3
  have hpw := P.nw _ hcg.1
  have hpg := (P.ng.2.2.2.2.2 _ hcg.1).1
  have hwg := P.ng.1
  have LKd := (P.sm.same (w' := _) (b := ms') rfl)
  obtain ⟨E, ei⟩ := HM.out.1.at' hcg.1
  have hcm : 0 ≤ (sxAt M.L id).cm ∧ (sxAt M.L id).cm ≤ (sxAt M.L id).td := ⟨by have := E.rd; omega, E.cm⟩
  have hsc := HM.out.1.sum0.2.1
  have htc := HM.out.1.tc
  have hrc := HM.out.1.rc
  have hF2 := hF
  simp only [fsOK, decide_eq_true_eq] at hF2
  have hcw : F.cw ≤ 16384 := by omega
  have htd : (sxAt M.L id).td ≤ 16384 * 402 := by have := E.td; have := E.rd; omega
  have htc2 : M.tc ≤ 16384 * 402 := by omega
  clear hF2 LKd
  simp only [fcells, acells, wcells] at c18 c9 a3 a5 b3 b5
  replace c18 := c18.trans (show _ = some (Value.map (some ms')) from rfl)
  replace c9 := c9.trans (show _ = some (Value.pointer (some ⟨wb', 0, none⟩)) from rfl)
  replace a3 := a3.trans (show _ = some (Value.int .i64 (sxAt M.L id).cm) from rfl)
  replace a5 := a5.trans (show _ = some (Value.int .i64 (sxAt M.L id).td) from rfl)
  replace b3 := b3.trans (show _ = some (Value.int .i64 (sumC M.L)) from rfl)
  replace b5 := b5.trans (show _ = some (Value.int .i64 M.tc) from rfl)
  have HG : Hid _ := And.intro CG (show FRep _ g base F M from ⟨wb', ms', ml', pb', P⟩)
  clear CG P E ei hcg HM
  obtain ⟨p, ep⟩ : ∃ x, x = pb' (ixf M.L id) := ⟨_, rfl⟩
  obtain ⟨cm, ecm⟩ : ∃ x, x = (sxAt M.L id).cm := ⟨_, rfl⟩
  obtain ⟨td, etd⟩ : ∃ x, x = (sxAt M.L id).td := ⟨_, rfl⟩
  obtain ⟨sc, esc⟩ : ∃ x, x = sumC M.L := ⟨_, rfl⟩
  obtain ⟨tc, etc⟩ : ∃ x, x = M.tc := ⟨_, rfl⟩
  rw [← ep] at LK a3 a5 f3 hpw hpg
  rw [← ecm] at a3 hcm hy
  rw [← etd] at a5 hcm htd hx
  rw [← esc] at b3 hsc htc hy
  rw [← etc] at b5 htc htc2 hy
  have HQ : Hid _ := And.intro ep (And.intro ecm (And.intro etd (And.intro esc etc)))
  clear ep ecm etd esc etc
  obtain ⟨mo, emo⟩ : ∃ x, max 0 (n - cm) = x := ⟨_, rfl⟩
  have hmo : 0 ≤ mo ∧ mo ≤ n := by omega
  have hmo2 : mo ≤ n - cm ∨ mo = 0 := by omega
  rw [emo] at hy
  have hyd : decide (tc - sc < mo) = true := decide_eq_true (by omega)
  have hxd : decide (td < n) = false := decide_eq_false (by omega)
  go_wp2_with (first | (go_at_call 56; refine HG.out.1.mono ?_; rintro e wg ⟨rfl, hwg⟩; subst hwg))
  go_quiet (fail)
  go_wp2
  go_ret
  exact ⟨rfl, HG.out.2.drewN _, hch.out.drewN _⟩
set_option maxRecDepth 20000 in
set_option maxHeartbeats 4000000 in
theorem arrive_ours_ok (g base : Nat) (F : FS) (hF : fsOK F = true) (m : FX) (i : Nat) (id n : Int) (w : World) (h : FRep w g base F m) (hI : FXI F i m) (hi : i ≤ 400) (hbase : base ≤ w.heap.size) (hw : (Lit.int .i64 id).wf = true) (hc : ¬ (id < 0 ∨ 4611686018427387904 ≤ id ∨ n < 0 ∨ 4611686018427387903 < n)) (hs : ptS id = F.sv) (cg : canG F (fwho F m id).L id) (hx : ¬ (sxAt (fwho F m id).L id).td < n) (hy : ¬ (fwho F m id).tc - sumC (fwho F m id).L < max 0 (n - (sxAt (fwho F m id).L id).cm)) :
    Calls Try.prog 38 #[.pointer (some ⟨g, 0, none⟩), .int .i64 id, .int .i64 n] w fun e w' => e = .returned (.int .i64 (farrive F m id n).2) ∧ FDo w w' g base F (farrive F m id n).1 := by
  have h0 : 0 ≤ id := by omega
  have h1 : id < 4611686018427387904 := by omega
  have n0 : ¬ n < 0 := by omega
  have n1 : ¬ 4611686018427387903 < n := by omega
  have P := implIdParts id w
  rw [show ptC id = 0 from if_neg (by omega), show ptP id = id / 4 from if_neg (by omega)] at P
  have HP : Hid _ := And.intro P True.intro
  clear P
  have eF : farrive F m id n = fput F (fwho F m id) id n := (if_neg hc).trans (if_neg (fun q => q.1 hs))
  have hM : FXI F i (fwho F m id) := fwho_inv hF hI hi (Or.inl hs)
  have eW : fwho F m id = m := if_pos hs
  obtain ⟨wb, ms, ml, pb, hr⟩ := h
  have O := oursI g F.sv id w (hr.cell 0) h0 h1
  rw [show (ptS id == F.sv) = true by simpa using hs] at O
  have A : FDo w w g base F (fwho F m id) := by rw [eW]; exact FDo.refl ⟨wb, ms, ml, pb, hr⟩
  obtain ⟨E, ei⟩ := hM.at' cg.1
  have e : fput F (fwho F m id) id n = ({ fwho F m id with L := sxSet (fwho F m id).L id { sxAt (fwho F m id).L id with cm := max n (sxAt (fwho F m id).L id).cm } }, 0) := (if_pos cg).trans (if_neg (by have := E.cm; omega))
  rw [eF, e]
  obtain ⟨M, eM⟩ : ∃ M, M = fwho F m id := ⟨_, rfl⟩
  rw [← eM] at A hM cg hx hy E ei ⊢
  have HO : Hid _ := And.intro O A
  have HM : Hid _ := And.intro hM cg
  clear O A eF e eW eM hr hI hM
  have HE : Hid _ := And.intro E (And.intro ei (And.intro hx hy))
  clear E ei
  have hsv : Hid _ := hs
  clear hc hs
  generalize ptS id = q0 at *
  generalize ptO id = q1 at *
  generalize id / 4 = q2 at *
  go_enter Try.func38, Try.ntmps38
  go_wp2_with (first | (go_at_call 8; refine HP.out.1.mono ?_; rintro e wp ⟨rfl, hwp⟩; subst hwp) | (go_at_call 54; refine HO.out.1.mono ?_; rintro e wo ⟨rfl, hwo⟩; subst hwo))
  have hch : Hid _ := HO.out.2.2
  obtain ⟨wb', ms', ml', pb', P⟩ := HO.out.2.1
  have CG := canGI g base F M _ _ wb' ms' ml' pb' i id _ P HM.out.1 hi hw
  rw [decide_eq_true HM.out.2] at CG
  have hcg := HM.out.2
  have c18 := P.cell 18
  have c9 := P.cell 9
  have LK := P.sm.look hw
  rw [mS_pos hcg.1] at LK
  simp only [pval] at LK
  have a3 := P.acell hcg.1 3
  have a5 := P.acell hcg.1 5
  have f3 := P.afree hcg.1 3
  have b3 := P.wcell 3
  have b5 := P.wcell 5
  have g3 := P.wfree 3
  have hpw := P.nw _ hcg.1
  have hpg := (P.ng.2.2.2.2.2 _ hcg.1).1
  have hwg := P.ng.1
  have LKd := (P.sm.same (w' := _) (b := ms') rfl)
  obtain ⟨E, ei⟩ := HM.out.1.at' hcg.1
  have hcm : 0 ≤ (sxAt M.L id).cm ∧ (sxAt M.L id).cm ≤ (sxAt M.L id).td := ⟨by have := E.rd; omega, E.cm⟩
  have hsc := HM.out.1.sum0.2.1
  have htc := HM.out.1.tc
  have hrc := HM.out.1.rc
  have hF2 := hF
  simp only [fsOK, decide_eq_true_eq] at hF2
  have hcw : F.cw ≤ 16384 := by omega
  have htd : (sxAt M.L id).td ≤ 16384 * 402 := by have := E.td; have := E.rd; omega
  have htc2 : M.tc ≤ 16384 * 402 := by omega
  clear hF2 LKd
  simp only [fcells, acells, wcells] at c18 c9 a3 a5 b3 b5
  replace c18 := c18.trans (show _ = some (Value.map (some ms')) from rfl)
  replace c9 := c9.trans (show _ = some (Value.pointer (some ⟨wb', 0, none⟩)) from rfl)
  replace a3 := a3.trans (show _ = some (Value.int .i64 (sxAt M.L id).cm) from rfl)
  replace a5 := a5.trans (show _ = some (Value.int .i64 (sxAt M.L id).td) from rfl)
  replace b3 := b3.trans (show _ = some (Value.int .i64 (sumC M.L)) from rfl)
  replace b5 := b5.trans (show _ = some (Value.int .i64 M.tc) from rfl)
  have HG : Hid _ := And.intro CG (show FRep _ g base F M from ⟨wb', ms', ml', pb', P⟩)
  have hmx : (sxAt M.L id).cm + max 0 (n - (sxAt M.L id).cm) = max n (sxAt M.L id).cm := by omega
  have s1 : sumS (sxSet M.L id { sxAt M.L id with cm := max n (sxAt M.L id).cm }) = sumS M.L := by rw [sumS_set _ _ _ hcg.1]; show sumS M.L - (sxAt M.L id).sn + (sxAt M.L id).sn = _; omega
  have s2 : sumC (sxSet M.L id { sxAt M.L id with cm := max n (sxAt M.L id).cm }) = sumC M.L + max 0 (n - (sxAt M.L id).cm) := by rw [sumC_set _ _ _ hcg.1]; show sumC M.L - (sxAt M.L id).cm + max n (sxAt M.L id).cm = _; omega
  have fin : ∀ q : Nat, FDo wo (((wo.drewN q).setCell ⟨pb' (ixf M.L id), 3, none⟩ (.int .i64 ((sxAt M.L id).cm + max 0 (n - (sxAt M.L id).cm)))).setCell ⟨wb', 3, none⟩ (.int .i64 (sumC M.L + max 0 (n - (sxAt M.L id).cm)))) g base F { M with L := sxSet M.L id { sxAt M.L id with cm := max n (sxAt M.L id).cm } } := fun q => by
    have h1' := (P.drewN q).setA id hcg.1 3 (.int .i64 ((sxAt M.L id).cm + max 0 (n - (sxAt M.L id).cm))) { sxAt M.L id with cm := max n (sxAt M.L id).cm } ei rfl (by rw [hmx]; rfl)
    have ch1 := (P.drewN q).chA (hch.out.drewN q) hcg.1 3 (.int .i64 ((sxAt M.L id).cm + max 0 (n - (sxAt M.L id).cm)))
    have h2 := h1'.setW (m' := { M with L := sxSet M.L id { sxAt M.L id with cm := max n (sxAt M.L id).cm } }) 3 (.int .i64 (sumC M.L + max 0 (n - (sxAt M.L id).cm))) (ss' := sumS M.L) (sc' := sumC M.L + max 0 (n - (sxAt M.L id).cm)) rfl rfl rfl rfl rfl rfl
    refine ⟨⟨wb', ms', ml', pb', ?_⟩, h1'.chW ch1 3 (.int .i64 (sumC M.L + max 0 (n - (sxAt M.L id).cm)))⟩
    show FR _ g base F _ (sumS (sxSet M.L id _)) (sumC (sxSet M.L id _)) wb' ms' ml' pb'
    rw [s1, s2]; exact h2
  have HH : Hid _ := fin
  clear fin s1 s2 hmx
  clear CG P E ei hcg HM HE
  obtain ⟨p, ep⟩ : ∃ x, x = pb' (ixf M.L id) := ⟨_, rfl⟩
  obtain ⟨cm, ecm⟩ : ∃ x, x = (sxAt M.L id).cm := ⟨_, rfl⟩
  obtain ⟨td, etd⟩ : ∃ x, x = (sxAt M.L id).td := ⟨_, rfl⟩
  obtain ⟨sc, esc⟩ : ∃ x, x = sumC M.L := ⟨_, rfl⟩
  obtain ⟨tc, etc⟩ : ∃ x, x = M.tc := ⟨_, rfl⟩
  rw [← ep] at LK a3 a5 f3 hpw hpg
  rw [← ecm] at a3 hcm hy
  rw [← etd] at a5 hcm htd hx
  rw [← esc] at b3 hsc htc hy
  rw [← etc] at b5 htc htc2 hy
  have HQ : Hid _ := And.intro ep (And.intro ecm (And.intro etd (And.intro esc etc)))
  clear ep ecm etd esc etc
  obtain ⟨mo, emo⟩ : ∃ x, max 0 (n - cm) = x := ⟨_, rfl⟩
  have hmo : 0 ≤ mo ∧ mo ≤ n := by omega
  have hmo2 : mo ≤ n - cm ∨ mo = 0 := by omega
  rw [emo] at hy
  have hyd : decide (tc - sc < mo) = false := decide_eq_false (by omega)
  have hxd : decide (td < n) = false := decide_eq_false (by omega)
  have HMO : Hid _ := emo
  have hmo3 : cm + mo ≤ 16384 * 402 ∧ sc + mo ≤ 16384 * 402 := by omega
  go_wp2_with (first | (go_at_call 56; refine HG.out.1.mono ?_; rintro e wg ⟨rfl, hwg⟩; subst hwg))
  go_quiet (fail)
  go_wp2
  go_ret
  obtain ⟨e1, e2, e3, e4, e5⟩ := HQ.out
  have e6 := HMO.out
  subst e1 e2 e3 e4 e5 e6
  exact ⟨rfl, HH.out _⟩
set_option maxRecDepth 20000 in
set_option maxHeartbeats 4000000 in
theorem arrive_theirs_no (g base : Nat) (F : FS) (hF : fsOK F = true) (m : FX) (i : Nat) (id n : Int) (w : World) (h : FRep w g base F m) (hI : FXI F i m) (hi : i ≤ 400) (hbase : base ≤ w.heap.size) (hw : (Lit.int .i64 id).wf = true) (hc : ¬ (id < 0 ∨ 4611686018427387904 ≤ id ∨ n < 0 ∨ 4611686018427387903 < n)) (hs : ptS id ≠ F.sv) (ht : ¬ m.tin (ptO id) ≤ id / 4) (cg : ¬ canG F (fwho F m id).L id) :
    Calls Try.prog 38 #[.pointer (some ⟨g, 0, none⟩), .int .i64 id, .int .i64 n] w fun e w' => e = .returned (.int .i64 (farrive F m id n).2) ∧ FDo w w' g base F (farrive F m id n).1 := by
  have h0 : 0 ≤ id := by omega
  have h1 : id < 4611686018427387904 := by omega
  have n0 : ¬ n < 0 := by omega
  have n1 : ¬ 4611686018427387903 < n := by omega
  have P := implIdParts id w
  rw [show ptC id = 0 from if_neg (by omega), show ptP id = id / 4 from if_neg (by omega)] at P
  have HP : Hid _ := And.intro P True.intro
  clear P
  have eF : farrive F m id n = fput F (fwho F m id) id n := (if_neg hc).trans (if_neg (fun q => ht q.2))
  have hM : FXI F i (fwho F m id) := fwho_inv hF hI hi (Or.inr ht)
  have eW : fwho F m id = fadm F m id := if_neg hs
  obtain ⟨wb, ms, ml, pb, hr⟩ := h
  have O := oursI g F.sv id w (hr.cell 0) h0 h1
  rw [show (ptS id == F.sv) = false by simpa using hs] at O
  have A := admitI g base F hF m i id w ⟨wb, ms, ml, pb, hr⟩ hI hi hbase h0 h1 hs
  rw [if_neg ht, if_neg ht, ← eW] at A
  have e : fput F (fwho F m id) id n = ((fwho F m id), 7) := if_neg cg
  rw [eF, e]
  obtain ⟨M, eM⟩ : ∃ M, M = fwho F m id := ⟨_, rfl⟩
  rw [← eM] at A hM cg  ⊢
  have HO : Hid _ := And.intro O A
  have HM : Hid _ := And.intro hM cg
  clear O A eF e eW eM hr hI hM
  have hsv : Hid _ := hs
  clear hc hs ht
  generalize ptS id = q0 at *
  generalize ptO id = q1 at *
  generalize id / 4 = q2 at *
  go_enter Try.func38, Try.ntmps38
  go_wp2_with (first | (go_at_call 8; refine HP.out.1.mono ?_; rintro e wp ⟨rfl, hwp⟩; subst hwp) | (go_at_call 54; refine HO.out.1.mono ?_; rintro e wo ⟨rfl, hwo⟩; subst hwo))
  go_at_call 55
  refine HO.out.2.mono ?_
  rintro e wa ⟨rfl, ha⟩
  have hch : Hid _ := ha.2
  obtain ⟨wb', ms', ml', pb', P⟩ := ha.1
  clear ha
  have CG := canGI g base F M _ _ wb' ms' ml' pb' i id _ P HM.out.1 hi hw
  rw [decide_eq_false HM.out.2] at CG
  have HG : Hid _ := And.intro CG P
  clear CG P
  go_wp2_with (first | (go_at_call 56; refine HG.out.1.mono ?_; rintro e wg ⟨rfl, hwg⟩; subst hwg))
  go_ret
  exact ⟨rfl, ⟨wb', ms', ml', pb', HG.out.2⟩, hch.out⟩
set_option maxRecDepth 20000 in
set_option maxHeartbeats 4000000 in
theorem arrive_theirs_full (g base : Nat) (F : FS) (hF : fsOK F = true) (m : FX) (i : Nat) (id n : Int) (w : World) (h : FRep w g base F m) (hI : FXI F i m) (hi : i ≤ 400) (hbase : base ≤ w.heap.size) (hw : (Lit.int .i64 id).wf = true) (hc : ¬ (id < 0 ∨ 4611686018427387904 ≤ id ∨ n < 0 ∨ 4611686018427387903 < n)) (hs : ptS id ≠ F.sv) (ht : ¬ m.tin (ptO id) ≤ id / 4) (cg : canG F (fwho F m id).L id) (hx : (sxAt (fwho F m id).L id).td < n) :
    Calls Try.prog 38 #[.pointer (some ⟨g, 0, none⟩), .int .i64 id, .int .i64 n] w fun e w' => e = .returned (.int .i64 (farrive F m id n).2) ∧ FDo w w' g base F (farrive F m id n).1 := by
  have h0 : 0 ≤ id := by omega
  have h1 : id < 4611686018427387904 := by omega
  have n0 : ¬ n < 0 := by omega
  have n1 : ¬ 4611686018427387903 < n := by omega
  have P := implIdParts id w
  rw [show ptC id = 0 from if_neg (by omega), show ptP id = id / 4 from if_neg (by omega)] at P
  have HP : Hid _ := And.intro P True.intro
  clear P
  have eF : farrive F m id n = fput F (fwho F m id) id n := (if_neg hc).trans (if_neg (fun q => ht q.2))
  have hM : FXI F i (fwho F m id) := fwho_inv hF hI hi (Or.inr ht)
  have eW : fwho F m id = fadm F m id := if_neg hs
  obtain ⟨wb, ms, ml, pb, hr⟩ := h
  have O := oursI g F.sv id w (hr.cell 0) h0 h1
  rw [show (ptS id == F.sv) = false by simpa using hs] at O
  have A := admitI g base F hF m i id w ⟨wb, ms, ml, pb, hr⟩ hI hi hbase h0 h1 hs
  rw [if_neg ht, if_neg ht, ← eW] at A
  obtain ⟨E, ei⟩ := hM.at' cg.1
  have e : fput F (fwho F m id) id n = ((fwho F m id), 8) := (if_pos cg).trans (if_pos (by have := E.cm; omega))
  rw [eF, e]
  obtain ⟨M, eM⟩ : ∃ M, M = fwho F m id := ⟨_, rfl⟩
  rw [← eM] at A hM cg hx ⊢
  have HO : Hid _ := And.intro O A
  have HM : Hid _ := And.intro hM cg
  clear O A eF e eW eM hr hI hM
  clear E ei
  have hsv : Hid _ := hs
  clear hc hs ht
  generalize ptS id = q0 at *
  generalize ptO id = q1 at *
  generalize id / 4 = q2 at *
  go_enter Try.func38, Try.ntmps38
  go_wp2_with (first | (go_at_call 8; refine HP.out.1.mono ?_; rintro e wp ⟨rfl, hwp⟩; subst hwp) | (go_at_call 54; refine HO.out.1.mono ?_; rintro e wo ⟨rfl, hwo⟩; subst hwo))
  go_at_call 55
  refine HO.out.2.mono ?_
  rintro e wa ⟨rfl, ha⟩
  have hch : Hid _ := ha.2
  obtain ⟨wb', ms', ml', pb', P⟩ := ha.1
  clear ha
  have CG := canGI g base F M _ _ wb' ms' ml' pb' i id _ P HM.out.1 hi hw
  rw [decide_eq_true HM.out.2] at CG
  have hcg := HM.out.2
  have c18 := P.cell 18
  have c9 := P.cell 9
  have LK := P.sm.look hw
  rw [mS_pos hcg.1] at LK
  simp only [pval] at LK
  have a3 := P.acell hcg.1 3
  have a5 := P.acell hcg.1 5
  have f3 := P.afree hcg.1 3
  have b3 := P.wcell 3
  have b5 := P.wcell 5
  have g3 := P.wfree 3
  have hpw := P.nw _ hcg.1
  have hpg := (P.ng.2.2.2.2.2 _ hcg.1).1
  have hwg := P.ng.1
  have LKd := (P.sm.same (w' := _) (b := ms') rfl)
  obtain ⟨E, ei⟩ := HM.out.1.at' hcg.1
  have hcm : 0 ≤ (sxAt M.L id).cm ∧ (sxAt M.L id).cm ≤ (sxAt M.L id).td := ⟨by have := E.rd; omega, E.cm⟩
  have hsc := HM.out.1.sum0.2.1
  have htc := HM.out.1.tc
  have hrc := HM.out.1.rc
  have hF2 := hF
  simp only [fsOK, decide_eq_true_eq] at hF2
  have hcw : F.cw ≤ 16384 := by omega
  have htd : (sxAt M.L id).td ≤ 16384 * 402 := by have := E.td; have := E.rd; omega
  have htc2 : M.tc ≤ 16384 * 402 := by omega
  clear hF2 LKd
  simp only [fcells, acells, wcells] at c18 c9 a3 a5 b3 b5
  replace c18 := c18.trans (show _ = some (Value.map (some ms')) from rfl)
  replace c9 := c9.trans (show _ = some (Value.pointer (some ⟨wb', 0, none⟩)) from rfl)
  replace a3 := a3.trans (show _ = some (Value.int .i64 (sxAt M.L id).cm) from rfl)
  replace a5 := a5.trans (show _ = some (Value.int .i64 (sxAt M.L id).td) from rfl)
  replace b3 := b3.trans (show _ = some (Value.int .i64 (sumC M.L)) from rfl)
  replace b5 := b5.trans (show _ = some (Value.int .i64 M.tc) from rfl)
  have HG : Hid _ := And.intro CG (show FRep _ g base F M from ⟨wb', ms', ml', pb', P⟩)
  clear CG P E ei hcg HM
  obtain ⟨p, ep⟩ : ∃ x, x = pb' (ixf M.L id) := ⟨_, rfl⟩
  obtain ⟨cm, ecm⟩ : ∃ x, x = (sxAt M.L id).cm := ⟨_, rfl⟩
  obtain ⟨td, etd⟩ : ∃ x, x = (sxAt M.L id).td := ⟨_, rfl⟩
  obtain ⟨sc, esc⟩ : ∃ x, x = sumC M.L := ⟨_, rfl⟩
  obtain ⟨tc, etc⟩ : ∃ x, x = M.tc := ⟨_, rfl⟩
  rw [← ep] at LK a3 a5 f3 hpw hpg
  rw [← ecm] at a3 hcm
  rw [← etd] at a5 hcm htd hx
  rw [← esc] at b3 hsc htc
  rw [← etc] at b5 htc htc2
  have HQ : Hid _ := And.intro ep (And.intro ecm (And.intro etd (And.intro esc etc)))
  clear ep ecm etd esc etc
  go_wp2_with (first | (go_at_call 56; refine HG.out.1.mono ?_; rintro e wg ⟨rfl, hwg⟩; subst hwg))
  go_quiet (fail)
  go_wp2
  go_ret
  exact ⟨rfl, HG.out.2.drewN _, hch.out.drewN _⟩
set_option maxRecDepth 20000 in
set_option maxHeartbeats 4000000 in
theorem arrive_theirs_conn (g base : Nat) (F : FS) (hF : fsOK F = true) (m : FX) (i : Nat) (id n : Int) (w : World) (h : FRep w g base F m) (hI : FXI F i m) (hi : i ≤ 400) (hbase : base ≤ w.heap.size) (hw : (Lit.int .i64 id).wf = true) (hc : ¬ (id < 0 ∨ 4611686018427387904 ≤ id ∨ n < 0 ∨ 4611686018427387903 < n)) (hs : ptS id ≠ F.sv) (ht : ¬ m.tin (ptO id) ≤ id / 4) (cg : canG F (fwho F m id).L id) (hx : ¬ (sxAt (fwho F m id).L id).td < n) (hy : (fwho F m id).tc - sumC (fwho F m id).L < max 0 (n - (sxAt (fwho F m id).L id).cm)) :
    Calls Try.prog 38 #[.pointer (some ⟨g, 0, none⟩), .int .i64 id, .int .i64 n] w fun e w' => e = .returned (.int .i64 (farrive F m id n).2) ∧ FDo w w' g base F (farrive F m id n).1 := by
  have h0 : 0 ≤ id := by omega
  have h1 : id < 4611686018427387904 := by omega
  have n0 : ¬ n < 0 := by omega
  have n1 : ¬ 4611686018427387903 < n := by omega
  have P := implIdParts id w
  rw [show ptC id = 0 from if_neg (by omega), show ptP id = id / 4 from if_neg (by omega)] at P
  have HP : Hid _ := And.intro P True.intro
  clear P
  have eF : farrive F m id n = fput F (fwho F m id) id n := (if_neg hc).trans (if_neg (fun q => ht q.2))
  have hM : FXI F i (fwho F m id) := fwho_inv hF hI hi (Or.inr ht)
  have eW : fwho F m id = fadm F m id := if_neg hs
  obtain ⟨wb, ms, ml, pb, hr⟩ := h
  have O := oursI g F.sv id w (hr.cell 0) h0 h1
  rw [show (ptS id == F.sv) = false by simpa using hs] at O
  have A := admitI g base F hF m i id w ⟨wb, ms, ml, pb, hr⟩ hI hi hbase h0 h1 hs
  rw [if_neg ht, if_neg ht, ← eW] at A
  obtain ⟨E, ei⟩ := hM.at' cg.1
  have e : fput F (fwho F m id) id n = ((fwho F m id), 8) := (if_pos cg).trans (if_pos (by have := E.cm; omega))
  rw [eF, e]
  obtain ⟨M, eM⟩ : ∃ M, M = fwho F m id := ⟨_, rfl⟩
  rw [← eM] at A hM cg hx hy ⊢
  have HO : Hid _ := And.intro O A
  have HM : Hid _ := And.intro hM cg
  clear O A eF e eW eM hr hI hM
  clear E ei
  have hsv : Hid _ := hs
  clear hc hs ht
  generalize ptS id = q0 at *
  generalize ptO id = q1 at *
  generalize id / 4 = q2 at *
  go_enter Try.func38, Try.ntmps38
  go_wp2_with (first | (go_at_call 8; refine HP.out.1.mono ?_; rintro e wp ⟨rfl, hwp⟩; subst hwp) | (go_at_call 54; refine HO.out.1.mono ?_; rintro e wo ⟨rfl, hwo⟩; subst hwo))
  go_at_call 55
  refine HO.out.2.mono ?_
  rintro e wa ⟨rfl, ha⟩
  have hch : Hid _ := ha.2
  obtain ⟨wb', ms', ml', pb', P⟩ := ha.1
  clear ha
  have CG := canGI g base F M _ _ wb' ms' ml' pb' i id _ P HM.out.1 hi hw
  rw [decide_eq_true HM.out.2] at CG
  have hcg := HM.out.2
  have c18 := P.cell 18
  have c9 := P.cell 9
  have LK := P.sm.look hw
  rw [mS_pos hcg.1] at LK
  simp only [pval] at LK
  have a3 := P.acell hcg.1 3
  have a5 := P.acell hcg.1 5
  have f3 := P.afree hcg.1 3
  have b3 := P.wcell 3
  have b5 := P.wcell 5
  have g3 := P.wfree 3
  have hpw := P.nw _ hcg.1
  have hpg := (P.ng.2.2.2.2.2 _ hcg.1).1
  have hwg := P.ng.1
  have LKd := (P.sm.same (w' := _) (b := ms') rfl)
  obtain ⟨E, ei⟩ := HM.out.1.at' hcg.1
  have hcm : 0 ≤ (sxAt M.L id).cm ∧ (sxAt M.L id).cm ≤ (sxAt M.L id).td := ⟨by have := E.rd; omega, E.cm⟩
  have hsc := HM.out.1.sum0.2.1
  have htc := HM.out.1.tc
  have hrc := HM.out.1.rc
  have hF2 := hF
  simp only [fsOK, decide_eq_true_eq] at hF2
  have hcw : F.cw ≤ 16384 := by omega
  have htd : (sxAt M.L id).td ≤ 16384 * 402 := by have := E.td; have := E.rd; omega
  have htc2 : M.tc ≤ 16384 * 402 := by omega
  clear hF2 LKd
  simp only [fcells, acells, wcells] at c18 c9 a3 a5 b3 b5
  replace c18 := c18.trans (show _ = some (Value.map (some ms')) from rfl)
  replace c9 := c9.trans (show _ = some (Value.pointer (some ⟨wb', 0, none⟩)) from rfl)
  replace a3 := a3.trans (show _ = some (Value.int .i64 (sxAt M.L id).cm) from rfl)
  replace a5 := a5.trans (show _ = some (Value.int .i64 (sxAt M.L id).td) from rfl)
  replace b3 := b3.trans (show _ = some (Value.int .i64 (sumC M.L)) from rfl)
  replace b5 := b5.trans (show _ = some (Value.int .i64 M.tc) from rfl)
  have HG : Hid _ := And.intro CG (show FRep _ g base F M from ⟨wb', ms', ml', pb', P⟩)
  clear CG P E ei hcg HM
  obtain ⟨p, ep⟩ : ∃ x, x = pb' (ixf M.L id) := ⟨_, rfl⟩
  obtain ⟨cm, ecm⟩ : ∃ x, x = (sxAt M.L id).cm := ⟨_, rfl⟩
  obtain ⟨td, etd⟩ : ∃ x, x = (sxAt M.L id).td := ⟨_, rfl⟩
  obtain ⟨sc, esc⟩ : ∃ x, x = sumC M.L := ⟨_, rfl⟩
  obtain ⟨tc, etc⟩ : ∃ x, x = M.tc := ⟨_, rfl⟩
  rw [← ep] at LK a3 a5 f3 hpw hpg
  rw [← ecm] at a3 hcm hy
  rw [← etd] at a5 hcm htd hx
  rw [← esc] at b3 hsc htc hy
  rw [← etc] at b5 htc htc2 hy
  have HQ : Hid _ := And.intro ep (And.intro ecm (And.intro etd (And.intro esc etc)))
  clear ep ecm etd esc etc
  obtain ⟨mo, emo⟩ : ∃ x, max 0 (n - cm) = x := ⟨_, rfl⟩
  have hmo : 0 ≤ mo ∧ mo ≤ n := by omega
  have hmo2 : mo ≤ n - cm ∨ mo = 0 := by omega
  rw [emo] at hy
  have hyd : decide (tc - sc < mo) = true := decide_eq_true (by omega)
  have hxd : decide (td < n) = false := decide_eq_false (by omega)
  go_wp2_with (first | (go_at_call 56; refine HG.out.1.mono ?_; rintro e wg ⟨rfl, hwg⟩; subst hwg))
  go_quiet (fail)
  go_wp2
  go_ret
  exact ⟨rfl, HG.out.2.drewN _, hch.out.drewN _⟩
set_option maxRecDepth 20000 in
set_option maxHeartbeats 4000000 in
theorem arrive_theirs_ok (g base : Nat) (F : FS) (hF : fsOK F = true) (m : FX) (i : Nat) (id n : Int) (w : World) (h : FRep w g base F m) (hI : FXI F i m) (hi : i ≤ 400) (hbase : base ≤ w.heap.size) (hw : (Lit.int .i64 id).wf = true) (hc : ¬ (id < 0 ∨ 4611686018427387904 ≤ id ∨ n < 0 ∨ 4611686018427387903 < n)) (hs : ptS id ≠ F.sv) (ht : ¬ m.tin (ptO id) ≤ id / 4) (cg : canG F (fwho F m id).L id) (hx : ¬ (sxAt (fwho F m id).L id).td < n) (hy : ¬ (fwho F m id).tc - sumC (fwho F m id).L < max 0 (n - (sxAt (fwho F m id).L id).cm)) :
    Calls Try.prog 38 #[.pointer (some ⟨g, 0, none⟩), .int .i64 id, .int .i64 n] w fun e w' => e = .returned (.int .i64 (farrive F m id n).2) ∧ FDo w w' g base F (farrive F m id n).1 := by
  have h0 : 0 ≤ id := by omega
  have h1 : id < 4611686018427387904 := by omega
  have n0 : ¬ n < 0 := by omega
  have n1 : ¬ 4611686018427387903 < n := by omega
  have P := implIdParts id w
  rw [show ptC id = 0 from if_neg (by omega), show ptP id = id / 4 from if_neg (by omega)] at P
  have HP : Hid _ := And.intro P True.intro
  clear P
  have eF : farrive F m id n = fput F (fwho F m id) id n := (if_neg hc).trans (if_neg (fun q => ht q.2))
  have hM : FXI F i (fwho F m id) := fwho_inv hF hI hi (Or.inr ht)
  have eW : fwho F m id = fadm F m id := if_neg hs
  obtain ⟨wb, ms, ml, pb, hr⟩ := h
  have O := oursI g F.sv id w (hr.cell 0) h0 h1
  rw [show (ptS id == F.sv) = false by simpa using hs] at O
  have A := admitI g base F hF m i id w ⟨wb, ms, ml, pb, hr⟩ hI hi hbase h0 h1 hs
  rw [if_neg ht, if_neg ht, ← eW] at A
  obtain ⟨E, ei⟩ := hM.at' cg.1
  have e : fput F (fwho F m id) id n = ({ fwho F m id with L := sxSet (fwho F m id).L id { sxAt (fwho F m id).L id with cm := max n (sxAt (fwho F m id).L id).cm } }, 0) := (if_pos cg).trans (if_neg (by have := E.cm; omega))
  rw [eF, e]
  obtain ⟨M, eM⟩ : ∃ M, M = fwho F m id := ⟨_, rfl⟩
  rw [← eM] at A hM cg hx hy E ei ⊢
  have HO : Hid _ := And.intro O A
  have HM : Hid _ := And.intro hM cg
  clear O A eF e eW eM hr hI hM
  have HE : Hid _ := And.intro E (And.intro ei (And.intro hx hy))
  clear E ei
  have hsv : Hid _ := hs
  clear hc hs ht
  generalize ptS id = q0 at *
  generalize ptO id = q1 at *
  generalize id / 4 = q2 at *
  go_enter Try.func38, Try.ntmps38
  go_wp2_with (first | (go_at_call 8; refine HP.out.1.mono ?_; rintro e wp ⟨rfl, hwp⟩; subst hwp) | (go_at_call 54; refine HO.out.1.mono ?_; rintro e wo ⟨rfl, hwo⟩; subst hwo))
  go_at_call 55
  refine HO.out.2.mono ?_
  rintro e wa ⟨rfl, ha⟩
  have hch : Hid _ := ha.2
  obtain ⟨wb', ms', ml', pb', P⟩ := ha.1
  clear ha
  have CG := canGI g base F M _ _ wb' ms' ml' pb' i id _ P HM.out.1 hi hw
  rw [decide_eq_true HM.out.2] at CG
  have hcg := HM.out.2
  have c18 := P.cell 18
  have c9 := P.cell 9
  have LK := P.sm.look hw
  rw [mS_pos hcg.1] at LK
  simp only [pval] at LK
  have a3 := P.acell hcg.1 3
  have a5 := P.acell hcg.1 5
  have f3 := P.afree hcg.1 3
  have b3 := P.wcell 3
  have b5 := P.wcell 5
  have g3 := P.wfree 3
  have hpw := P.nw _ hcg.1
  have hpg := (P.ng.2.2.2.2.2 _ hcg.1).1
  have hwg := P.ng.1
  have LKd := (P.sm.same (w' := _) (b := ms') rfl)
  obtain ⟨E, ei⟩ := HM.out.1.at' hcg.1
  have hcm : 0 ≤ (sxAt M.L id).cm ∧ (sxAt M.L id).cm ≤ (sxAt M.L id).td := ⟨by have := E.rd; omega, E.cm⟩
  have hsc := HM.out.1.sum0.2.1
  have htc := HM.out.1.tc
  have hrc := HM.out.1.rc
  have hF2 := hF
  simp only [fsOK, decide_eq_true_eq] at hF2
  have hcw : F.cw ≤ 16384 := by omega
  have htd : (sxAt M.L id).td ≤ 16384 * 402 := by have := E.td; have := E.rd; omega
  have htc2 : M.tc ≤ 16384 * 402 := by omega
  clear hF2 LKd
  simp only [fcells, acells, wcells] at c18 c9 a3 a5 b3 b5
  replace c18 := c18.trans (show _ = some (Value.map (some ms')) from rfl)
  replace c9 := c9.trans (show _ = some (Value.pointer (some ⟨wb', 0, none⟩)) from rfl)
  replace a3 := a3.trans (show _ = some (Value.int .i64 (sxAt M.L id).cm) from rfl)
  replace a5 := a5.trans (show _ = some (Value.int .i64 (sxAt M.L id).td) from rfl)
  replace b3 := b3.trans (show _ = some (Value.int .i64 (sumC M.L)) from rfl)
  replace b5 := b5.trans (show _ = some (Value.int .i64 M.tc) from rfl)
  have HG : Hid _ := And.intro CG (show FRep _ g base F M from ⟨wb', ms', ml', pb', P⟩)
  have hmx : (sxAt M.L id).cm + max 0 (n - (sxAt M.L id).cm) = max n (sxAt M.L id).cm := by omega
  have s1 : sumS (sxSet M.L id { sxAt M.L id with cm := max n (sxAt M.L id).cm }) = sumS M.L := by rw [sumS_set _ _ _ hcg.1]; show sumS M.L - (sxAt M.L id).sn + (sxAt M.L id).sn = _; omega
  have s2 : sumC (sxSet M.L id { sxAt M.L id with cm := max n (sxAt M.L id).cm }) = sumC M.L + max 0 (n - (sxAt M.L id).cm) := by rw [sumC_set _ _ _ hcg.1]; show sumC M.L - (sxAt M.L id).cm + max n (sxAt M.L id).cm = _; omega
  have fin : ∀ q : Nat, FDo _ (((wa.drewN q).setCell ⟨pb' (ixf M.L id), 3, none⟩ (.int .i64 ((sxAt M.L id).cm + max 0 (n - (sxAt M.L id).cm)))).setCell ⟨wb', 3, none⟩ (.int .i64 (sumC M.L + max 0 (n - (sxAt M.L id).cm)))) g base F { M with L := sxSet M.L id { sxAt M.L id with cm := max n (sxAt M.L id).cm } } := fun q => by
    have h1' := (P.drewN q).setA id hcg.1 3 (.int .i64 ((sxAt M.L id).cm + max 0 (n - (sxAt M.L id).cm))) { sxAt M.L id with cm := max n (sxAt M.L id).cm } ei rfl (by rw [hmx]; rfl)
    have ch1 := (P.drewN q).chA (hch.out.drewN q) hcg.1 3 (.int .i64 ((sxAt M.L id).cm + max 0 (n - (sxAt M.L id).cm)))
    have h2 := h1'.setW (m' := { M with L := sxSet M.L id { sxAt M.L id with cm := max n (sxAt M.L id).cm } }) 3 (.int .i64 (sumC M.L + max 0 (n - (sxAt M.L id).cm))) (ss' := sumS M.L) (sc' := sumC M.L + max 0 (n - (sxAt M.L id).cm)) rfl rfl rfl rfl rfl rfl
    refine ⟨⟨wb', ms', ml', pb', ?_⟩, h1'.chW ch1 3 (.int .i64 (sumC M.L + max 0 (n - (sxAt M.L id).cm)))⟩
    show FR _ g base F _ (sumS (sxSet M.L id _)) (sumC (sxSet M.L id _)) wb' ms' ml' pb'
    rw [s1, s2]; exact h2
  have HH : Hid _ := fin
  clear fin s1 s2 hmx
  clear CG P E ei hcg HM HE
  obtain ⟨p, ep⟩ : ∃ x, x = pb' (ixf M.L id) := ⟨_, rfl⟩
  obtain ⟨cm, ecm⟩ : ∃ x, x = (sxAt M.L id).cm := ⟨_, rfl⟩
  obtain ⟨td, etd⟩ : ∃ x, x = (sxAt M.L id).td := ⟨_, rfl⟩
  obtain ⟨sc, esc⟩ : ∃ x, x = sumC M.L := ⟨_, rfl⟩
  obtain ⟨tc, etc⟩ : ∃ x, x = M.tc := ⟨_, rfl⟩
  rw [← ep] at LK a3 a5 f3 hpw hpg
  rw [← ecm] at a3 hcm hy
  rw [← etd] at a5 hcm htd hx
  rw [← esc] at b3 hsc htc hy
  rw [← etc] at b5 htc htc2 hy
  have HQ : Hid _ := And.intro ep (And.intro ecm (And.intro etd (And.intro esc etc)))
  clear ep ecm etd esc etc
  obtain ⟨mo, emo⟩ : ∃ x, max 0 (n - cm) = x := ⟨_, rfl⟩
  have hmo : 0 ≤ mo ∧ mo ≤ n := by omega
  have hmo2 : mo ≤ n - cm ∨ mo = 0 := by omega
  rw [emo] at hy
  have hyd : decide (tc - sc < mo) = false := decide_eq_false (by omega)
  have hxd : decide (td < n) = false := decide_eq_false (by omega)
  have HMO : Hid _ := emo
  have hmo3 : cm + mo ≤ 16384 * 402 ∧ sc + mo ≤ 16384 * 402 := by omega
  go_wp2_with (first | (go_at_call 56; refine HG.out.1.mono ?_; rintro e wg ⟨rfl, hwg⟩; subst hwg))
  go_quiet (fail)
  go_wp2
  go_ret
  obtain ⟨e1, e2, e3, e4, e5⟩ := HQ.out
  have e6 := HMO.out
  subst e1 e2 e3 e4 e5 e6
  exact ⟨rfl, HH.out _⟩
theorem arriveI (g base : Nat) (F : FS) (hF : fsOK F = true) (m : FX) (i : Nat) (id n : Int) (w : World) (h : FRep w g base F m) (hI : FXI F i m) (hi : i ≤ 400) (hbase : base ≤ w.heap.size) (hw : (Lit.int .i64 id).wf = true) :
    Calls Try.prog 38 #[.pointer (some ⟨g, 0, none⟩), .int .i64 id, .int .i64 n] w fun e w' => e = .returned (.int .i64 (farrive F m id n).2) ∧ FDo w w' g base F (farrive F m id n).1 := by
  by_cases hc : id < 0 ∨ 4611686018427387904 ≤ id ∨ n < 0 ∨ 4611686018427387903 < n
  · exact arrive_bad g base F hF m i id n w h hI hi hbase hw hc
  by_cases hs : ptS id = F.sv
  · by_cases cg : canG F (fwho F m id).L id
    · by_cases hx : (sxAt (fwho F m id).L id).td < n
      · exact arrive_ours_full g base F hF m i id n w h hI hi hbase hw hc hs cg hx
      by_cases hy : (fwho F m id).tc - sumC (fwho F m id).L < max 0 (n - (sxAt (fwho F m id).L id).cm)
      · exact arrive_ours_conn g base F hF m i id n w h hI hi hbase hw hc hs cg hx hy
      · exact arrive_ours_ok g base F hF m i id n w h hI hi hbase hw hc hs cg hx hy
    · exact arrive_ours_no g base F hF m i id n w h hI hi hbase hw hc hs cg
  · by_cases ht : m.tin (ptO id) ≤ id / 4
    · exact arrive_9 g base F hF m i id n w h hI hi hbase hw hc hs ht
    by_cases cg : canG F (fwho F m id).L id
    · by_cases hx : (sxAt (fwho F m id).L id).td < n
      · exact arrive_theirs_full g base F hF m i id n w h hI hi hbase hw hc hs ht cg hx
      by_cases hy : (fwho F m id).tc - sumC (fwho F m id).L < max 0 (n - (sxAt (fwho F m id).L id).cm)
      · exact arrive_theirs_conn g base F hF m i id n w h hI hi hbase hw hc hs ht cg hx hy
      · exact arrive_theirs_ok g base F hF m i id n w h hI hi hbase hw hc hs ht cg hx hy
    · exact arrive_theirs_no g base F hF m i id n w h hI hi hbase hw hc hs ht cg
end Go.Proofs.Ythjakbpcpfmbjaa
