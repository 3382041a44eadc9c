import Derived.Test.YthjakbpcpfmbjaaFuU
namespace Go.Proofs.Ythjakbpcpfmbjaa
open Go.RowKit
set_option linter.unusedVariables false
set_option linter.unusedSimpArgs false

theorem set_ixf (L : List SX) (id id' : Int) (x : SX) (hx : x.id = id) : ixf (sxSet L id x) id' = ixf L id' := ixf_ids (set_ids L id x hx) id'
theorem sxAt_set {L : List SX} {id : Int} {x : SX} (hx : x.id = id) (hl : ixf L id < L.length) : sxAt (sxSet L id x) id = x := by
  unfold sxAt
  rw [set_ixf L id id x hx]
  simp [sxSet, List.getD, hl]
theorem sxSet_set {L : List SX} {id : Int} {x y : SX} (hx : x.id = id) : sxSet (sxSet L id x) id y = sxSet L id y := by
  unfold sxSet
  have e : ixf (L.set (ixf L id) x) id = ixf L id := set_ixf L id id x hx
  rw [e]
  simp
theorem renewS (g base : Nat) (F : FS) (hF : fsOK F = true) (M : FX) (ss sc : Int) (wb ms ml : Nat) (pb : Nat → Nat) (id : Int) (w : World) (P : FR w g base F M ss sc wb ms ml pb) (hl : ixf M.L id < M.L.length) (hr : 0 ≤ (sxAt M.L id).rd ∧ (sxAt M.L id).rd ≤ 1099511627776) (ht : 0 ≤ (sxAt M.L id).td ∧ (sxAt M.L id).td ≤ 1099511627776) :
    Calls Try.prog 57 #[.pointer (some ⟨pb (ixf M.L id), 0, none⟩)] w fun e w' => e = .returned (.bool (!decide (tdV F.sw (sxAt M.L id).rd (sxAt M.L id).td = (sxAt M.L id).td))) ∧
      FR w' g base F { M with L := sxSet M.L id { sxAt M.L id with td := tdV F.sw (sxAt M.L id).rd (sxAt M.L id).td } } ss sc wb ms ml pb ∧ FCh base w w' := by
  simp only [fsOK, decide_eq_true_eq] at hF
  refine (renewI (pb (ixf M.L id)) F.sw _ _ _ _ _ w (P.ak _ hl) hr ht (by omega)).mono ?_
  rintro e w' ⟨rfl, q, rfl⟩
  exact ⟨rfl, (P.drewN q).setA id hl 5 _ { sxAt M.L id with td := tdV F.sw (sxAt M.L id).rd (sxAt M.L id).td } (ixf_some hl).1 rfl rfl, (P.drewN q).chA ((ChT.refl _ _ _).drewN q) hl 5 _⟩
theorem renewW (g base : Nat) (F : FS) (hF : fsOK F = true) (M : FX) (ss sc : Int) (wb ms ml : Nat) (pb : Nat → Nat) (w : World) (P : FR w g base F M ss sc wb ms ml pb) (hr : 0 ≤ M.rc ∧ M.rc ≤ 1099511627776) (ht : 0 ≤ M.tc ∧ M.tc ≤ 1099511627776) :
    Calls Try.prog 57 #[.pointer (some ⟨wb, 0, none⟩)] w fun e w' => e = .returned (.bool (!decide (tdV F.cw M.rc M.tc = M.tc))) ∧ FR w' g base F { M with tc := tdV F.cw M.rc M.tc } ss sc wb ms ml pb ∧ FCh base w w' := by
  simp only [fsOK, decide_eq_true_eq] at hF
  refine (renewI wb F.cw _ _ _ _ _ w P.wk hr ht (by omega)).mono ?_
  rintro e w' ⟨rfl, q, rfl⟩
  exact ⟨rfl, (P.drewN q).setW 5 _ rfl rfl rfl rfl rfl rfl, (P.drewN q).chW ((ChT.refl _ _ _).drewN q) 5 _⟩
theorem GOwns.ch {S : TypeId → Bool} {base : Nat} {w w' : World} (hc : ChT S base w w') {T : TypeId} {K b : Nat} {v : Value} {L : List (List Value)} (h : GOwns T K w b v L) (hn : S T = false) : GOwns T K w' b v L := by
  obtain ⟨zs, o, hz⟩ := h
  exact ⟨zs, hc.owns o hn, hz⟩
theorem frames_nil (w : World) (base : Nat) : GOwns 38 8 w base (.slice none 0 0) (([] : List (Int × Int × Int)).map frC) := ⟨[], World.ownsRow_nil _ _ _ _, fun j hj => by simp at hj⟩
/-- A frame is put behind those that are there. -/
theorem frames_app {v' : Value} {w' : World} {base : Nat} {L : List (Int × Int × Int)} (x : Int × Int × Int) (h : GOwns 38 8 w' base v' (L.map frC ++ [frC x])) : GOwns 38 8 w' base v' ((L ++ [x]).map frC) := by
  rw [List.map_append]; exact h
/-- Blocks of frames may be made and grow. -/
theorem FR.grown {w w' : World} {g base : Nat} {F : FS} {m : FX} {ss sc : Int} {wb ms ml : Nat} {pb : Nat → Nat} (h : FR w g base F m ss sc wb ms ml pb) {v : Value} {b K : Nat} {L : List (List Value)} (o : GOwns 38 K w b v L) (hg : w.grownBy w' v.ownBlock) : FR w' g base F m ss sc wb ms ml pb := by
  have hne : ∀ {k : Nat} {c : Array Value} {T : TypeId} {fr : Nat × Nat}, w.heap[k]? = some (.cells c T fr) → T ≠ 38 → some k ≠ v.ownBlock := fun {k c T fr} hk hT e => by
    obtain ⟨zs, ow, _⟩ := o
    rcases ow.2 with ⟨rfl, _⟩ | ⟨g', cap, cur, rfl, _, hh, _⟩
    · cases e
    · obtain rfl : k = g' := Option.some.inj e
      rw [hk] at hh
      have e2 := Option.some.inj hh
      injection e2 with _ e3
      exact hT e3
  have hnm : ∀ {k : Nat} {es : Array MapEntry} {cl : Nat}, w.heap[k]? = some (.map es cl) → some k ≠ v.ownBlock := fun {k es cl} hk e => by
    obtain ⟨zs, ow, _⟩ := o
    rcases ow.2 with ⟨rfl, _⟩ | ⟨g', cap, cur, rfl, _, hh, _⟩
    · cases e
    · obtain rfl : k = g' := Option.some.inj e
      rw [hk] at hh
      cases hh
  have z : ∀ {k : Nat} {c : Array Value} {T : TypeId} {fr : Nat × Nat}, w.heap[k]? = some (.cells c T fr) → T ≠ 38 → w'.heap[k]? = some (.cells c T fr) := fun {k c T fr} hk hT => (hg.block k (Array.getElem?_eq_some_iff.1 hk).1 (hne hk hT)).trans hk
  obtain ⟨e1, c1, b1⟩ := h.sm.isMap
  obtain ⟨e2, c2, b2⟩ := h.lm.isMap
  exact ⟨z h.bk (by decide), z h.wk (by decide), fun j hj => z (h.ak j hj) (by decide), h.inj, h.nw, h.lo, h.lp, h.sm.same (hg.block _ h.sm.lt (hnm b1)), h.lm.same (hg.block _ h.lm.lt (hnm b2)), h.ne⟩
theorem grown_ch {w w' : World} {v : Value} {b K : Nat} {L : List (List Value)} (o : GOwns 38 K w b v L) (hg : w.grownBy w' v.ownBlock) : ChT (fun T => T == 38) b w w' := by
  refine ChT.of_grown hg fun k hk => ?_
  obtain ⟨zs, ow, _⟩ := o
  rcases ow.2 with ⟨rfl, _⟩ | ⟨g', cap, cur, rfl, hb, hh, _⟩
  · cases hk
  · obtain rfl : g' = k := Option.some.inj hk
    exact ⟨hb, fun c T fr e => by
      rw [hh] at e
      have e2 := Option.some.inj e
      injection e2 with _ e3
      rw [← e3]; decide⟩
end Go.Proofs.Ythjakbpcpfmbjaa

namespace Go.Proofs.Ythjakbpcpfmbjaa
open Go.RowKit
set_option linter.unusedVariables false
set_option linter.unusedSimpArgs false

theorem ChT.grownN {S : TypeId → Bool} {base : Nat} {w w1 w2 : World} (h : ChT S base w w1) {r : Option Nat} (g : w1.grownBy w2 r) (hr : ∀ k, r = some k → w.heap.size ≤ k) : ChT S base w w2 :=
  ⟨g.os.trans h.os, g.tape.trans h.tape, g.output.trans h.output, Nat.le_trans h.size g.size, fun i hi hs => (g.block i (Nat.lt_of_lt_of_le hi h.size) (fun e => by have := hr i e.symm; omega)).trans (h.block i hi hs)⟩
theorem gown_lo {T : TypeId} {K : Nat} {w : World} {base : Nat} {v : Value} {L : List (List Value)} (h : GOwns T K w base v L) : ∀ k, v.ownBlock = some k → base ≤ k := by
  obtain ⟨zs, ho, _⟩ := h
  exact fun j hj => (ho.lt j hj).1
theorem slice_form {T : TypeId} {K : Nat} {w : World} {base : Nat} {v : Value} {L : List (List Value)} (h : GOwns T K w base v L) : ∃ a n c, v = .slice a n c ∧ n = L.length := by
  obtain ⟨a, c, e⟩ := h.row.form
  exact ⟨a, _, c, e, rfl⟩

set_option maxRecDepth 20000 in
set_option maxHeartbeats 4000000 in
theorem read_no (g base : Nat) (F : FS) (hF : fsOK F = true) (m : FX) (i : Nat) (id n : Int) (w : World) (h : FRep w g base F m) (hI : FXI F i m) (hi : i ≤ 400) (hbase : base ≤ w.heap.size) (hw : (Lit.int .i64 id).wf = true) (cg : ¬ canG F m.L id) :
    Calls Try.prog 39 #[.pointer (some ⟨g, 0, none⟩), .int .i64 id, .int .i64 n] w fun e w' => ∃ fv, e = .returned (.tuple #[fv, .int .i64 (fread F m id n).2.code]) ∧ GOwns 38 8 w' w.heap.size fv ((fread F m id n).2.fr.map frC) ∧ FDo w w' g base F (fread F m id n).1 := by
  have HR : Hid _ := h
  obtain ⟨wb, ms, ml, pb, P⟩ := h
  have CG := canGI g base F m _ _ wb ms ml pb i id w P hI hi hw
  have e : fread F m id n = (m, ⟨7, 0, 0, []⟩) := if_neg cg
  rw [e]
  rw [decide_eq_false cg] at CG
  have HG : Hid _ := And.intro CG True.intro
  clear CG P e cg hI
  go_enter Try.func39, Try.ntmps39
  go_wp2_with (first | (go_at_call 56; refine HG.out.1.mono ?_; rintro e wg ⟨rfl, hwg⟩; subst hwg))
  go_ret2
  exact ⟨_, rfl, frames_nil _ _, FDo.refl HR.out⟩
set_option maxRecDepth 20000 in
set_option maxHeartbeats 4000000 in
theorem read_lo (g base : Nat) (F : FS) (hF : fsOK F = true) (m : FX) (i : Nat) (id n : Int) (w : World) (h : FRep w g base F m) (hI : FXI F i m) (hi : i ≤ 400) (hbase : base ≤ w.heap.size) (hw : (Lit.int .i64 id).wf = true) (cg : canG F m.L id) (hx : n < 1) :
    Calls Try.prog 39 #[.pointer (some ⟨g, 0, none⟩), .int .i64 id, .int .i64 n] w fun e w' => ∃ fv, e = .returned (.tuple #[fv, .int .i64 (fread F m id n).2.code]) ∧ GOwns 38 8 w' w.heap.size fv ((fread F m id n).2.fr.map frC) ∧ FDo w w' g base F (fread F m id n).1 := by
  have HR : Hid _ := h
  obtain ⟨wb, ms, ml, pb, P⟩ := h
  have CG := canGI g base F m _ _ wb ms ml pb i id w P hI hi hw
  rw [decide_eq_true cg] at CG
  obtain ⟨E, ei⟩ := hI.at' cg.1
  have c18 : w.cell? ⟨g, 18, none⟩ = some (.map (some ms)) := P.cell 18
  have c9 : w.cell? ⟨g, 9, none⟩ = some (.pointer (some ⟨wb, 0, none⟩)) := P.cell 9
  have LK := P.sm.look hw
  rw [mS_pos cg.1] at LK
  simp only [pval] at LK
  have a3 : w.cell? ⟨pb (ixf m.L id), 3, none⟩ = some (.int .i64 (sxAt m.L id).cm) := P.acell cg.1 3
  have a4 : w.cell? ⟨pb (ixf m.L id), 4, none⟩ = some (.int .i64 (sxAt m.L id).rd) := P.acell cg.1 4
  have f4 := P.afree cg.1 4
  have b4 : w.cell? ⟨wb, 4, none⟩ = some (.int .i64 m.rc) := P.wcell 4
  have g4 := P.wfree 4
  have hpw := P.nw _ cg.1
  have hpg := (P.ng.2.2.2.2.2 _ cg.1).1
  have hwg := P.ng.1
  have hF2 := hF
  simp only [fsOK, decide_eq_true_eq] at hF2
  have hrd : 0 ≤ (sxAt m.L id).rd ∧ (sxAt m.L id).rd ≤ (sxAt m.L id).cm ∧ (sxAt m.L id).cm ≤ 16384 * 402 := ⟨E.rd.1, E.rd.2.1, by have := E.rd.2.2; have := E.cm; have := E.td; omega⟩
  have hrc : 0 ≤ m.rc ∧ m.rc ≤ 16384 * 402 := ⟨hI.rc.1, by have := hI.rc.2; omega⟩
  have e : fread F m id n = (m, ⟨1, 0, 0, []⟩) := (if_pos cg).trans (if_pos (Or.inl hx))
  rw [e]
  have HG : Hid _ := And.intro CG True.intro
  clear CG P e hI E ei cg hF2 hF
  obtain ⟨p, ep⟩ : ∃ x, x = pb (ixf m.L id) := ⟨_, rfl⟩
  obtain ⟨cm, ecm⟩ : ∃ x, x = (sxAt m.L id).cm := ⟨_, rfl⟩
  obtain ⟨rd, erd⟩ : ∃ x, x = (sxAt m.L id).rd := ⟨_, rfl⟩
  obtain ⟨rc, erc⟩ : ∃ x, x = m.rc := ⟨_, rfl⟩
  rw [← ep] at LK a3 a4 f4 hpw hpg
  rw [← ecm] at a3 hrd
  rw [← erd] at a4 hrd
  rw [← erc] at b4 hrc
  clear ep ecm erd erc
  go_enter Try.func39, Try.ntmps39
  go_wp2_with (first | (go_at_call 56; refine HG.out.1.mono ?_; rintro e wg ⟨rfl, hwg⟩; subst hwg))
  go_quiet (fail)
  go_wp2
  go_ret2
  exact ⟨_, rfl, frames_nil _ _, FRep.drewN HR.out _, (ChT.refl _ _ _).drewN _⟩
set_option maxRecDepth 20000 in
set_option maxHeartbeats 4000000 in
theorem read_hi (g base : Nat) (F : FS) (hF : fsOK F = true) (m : FX) (i : Nat) (id n : Int) (w : World) (h : FRep w g base F m) (hI : FXI F i m) (hi : i ≤ 400) (hbase : base ≤ w.heap.size) (hw : (Lit.int .i64 id).wf = true) (cg : canG F m.L id) (hx : ¬ n < 1) (hy : (sxAt m.L id).cm - (sxAt m.L id).rd < n) :
    Calls Try.prog 39 #[.pointer (some ⟨g, 0, none⟩), .int .i64 id, .int .i64 n] w fun e w' => ∃ fv, e = .returned (.tuple #[fv, .int .i64 (fread F m id n).2.code]) ∧ GOwns 38 8 w' w.heap.size fv ((fread F m id n).2.fr.map frC) ∧ FDo w w' g base F (fread F m id n).1 := by
  have HR : Hid _ := h
  obtain ⟨wb, ms, ml, pb, P⟩ := h
  have CG := canGI g base F m _ _ wb ms ml pb i id w P hI hi hw
  rw [decide_eq_true cg] at CG
  obtain ⟨E, ei⟩ := hI.at' cg.1
  have c18 : w.cell? ⟨g, 18, none⟩ = some (.map (some ms)) := P.cell 18
  have c9 : w.cell? ⟨g, 9, none⟩ = some (.pointer (some ⟨wb, 0, none⟩)) := P.cell 9
  have LK := P.sm.look hw
  rw [mS_pos cg.1] at LK
  simp only [pval] at LK
  have a3 : w.cell? ⟨pb (ixf m.L id), 3, none⟩ = some (.int .i64 (sxAt m.L id).cm) := P.acell cg.1 3
  have a4 : w.cell? ⟨pb (ixf m.L id), 4, none⟩ = some (.int .i64 (sxAt m.L id).rd) := P.acell cg.1 4
  have f4 := P.afree cg.1 4
  have b4 : w.cell? ⟨wb, 4, none⟩ = some (.int .i64 m.rc) := P.wcell 4
  have g4 := P.wfree 4
  have hpw := P.nw _ cg.1
  have hpg := (P.ng.2.2.2.2.2 _ cg.1).1
  have hwg := P.ng.1
  have hF2 := hF
  simp only [fsOK, decide_eq_true_eq] at hF2
  have hrd : 0 ≤ (sxAt m.L id).rd ∧ (sxAt m.L id).rd ≤ (sxAt m.L id).cm ∧ (sxAt m.L id).cm ≤ 16384 * 402 := ⟨E.rd.1, E.rd.2.1, by have := E.rd.2.2; have := E.cm; have := E.td; omega⟩
  have hrc : 0 ≤ m.rc ∧ m.rc ≤ 16384 * 402 := ⟨hI.rc.1, by have := hI.rc.2; omega⟩
  have e : fread F m id n = (m, ⟨1, 0, 0, []⟩) := (if_pos cg).trans (if_pos (Or.inr hy))
  rw [e]
  have HG : Hid _ := And.intro CG True.intro
  clear CG P e hI E ei cg hF2 hF
  obtain ⟨p, ep⟩ : ∃ x, x = pb (ixf m.L id) := ⟨_, rfl⟩
  obtain ⟨cm, ecm⟩ : ∃ x, x = (sxAt m.L id).cm := ⟨_, rfl⟩
  obtain ⟨rd, erd⟩ : ∃ x, x = (sxAt m.L id).rd := ⟨_, rfl⟩
  obtain ⟨rc, erc⟩ : ∃ x, x = m.rc := ⟨_, rfl⟩
  rw [← ep] at LK a3 a4 f4 hpw hpg
  rw [← ecm] at a3 hrd hy
  rw [← erd] at a4 hrd hy
  rw [← erc] at b4 hrc
  clear ep ecm erd erc
  have hyd : decide (cm - rd < n) = true := decide_eq_true hy
  have hxd : decide (n < 1) = false := decide_eq_false hx
  go_enter Try.func39, Try.ntmps39
  go_wp2_with (first | (go_at_call 56; refine HG.out.1.mono ?_; rintro e wg ⟨rfl, hwg⟩; subst hwg))
  go_quiet (fail)
  go_wp2
  go_ret2
  exact ⟨_, rfl, frames_nil _ _, FRep.drewN HR.out _, (ChT.refl _ _ _).drewN _⟩
set_option maxRecDepth 20000 in
set_option maxHeartbeats 4000000 in
theorem read_nn (g base : Nat) (F : FS) (hF : fsOK F = true) (m : FX) (i : Nat) (id n : Int) (w : World) (h : FRep w g base F m) (hI : FXI F i m) (hi : i ≤ 400) (hbase : base ≤ w.heap.size) (hw : (Lit.int .i64 id).wf = true) (cg : canG F m.L id) (hx : ¬ n < 1) (hy : ¬ (sxAt m.L id).cm - (sxAt m.L id).rd < n)
    (ha : tdV F.sw ((sxAt m.L id).rd + n) (sxAt m.L id).td = (sxAt m.L id).td) (hb : tdV F.cw (m.rc + n) m.tc = m.tc) :
    Calls Try.prog 39 #[.pointer (some ⟨g, 0, none⟩), .int .i64 id, .int .i64 n] w fun e w' => ∃ fv, e = .returned (.tuple #[fv, .int .i64 (fread F m id n).2.code]) ∧ GOwns 38 8 w' w.heap.size fv ((fread F m id n).2.fr.map frC) ∧ FDo w w' g base F (fread F m id n).1 := by
  obtain ⟨wb, ms, ml, pb, P⟩ := h
  have CG := canGI g base F m _ _ wb ms ml pb i id w P hI hi hw
  rw [decide_eq_true cg] at CG
  obtain ⟨E, ei⟩ := hI.at' cg.1
  have c18 : w.cell? ⟨g, 18, none⟩ = some (.map (some ms)) := P.cell 18
  have c9 : w.cell? ⟨g, 9, none⟩ = some (.pointer (some ⟨wb, 0, none⟩)) := P.cell 9
  have LK := P.sm.look hw
  rw [mS_pos cg.1] at LK
  simp only [pval] at LK
  have a3 : w.cell? ⟨pb (ixf m.L id), 3, none⟩ = some (.int .i64 (sxAt m.L id).cm) := P.acell cg.1 3
  have a4 : w.cell? ⟨pb (ixf m.L id), 4, none⟩ = some (.int .i64 (sxAt m.L id).rd) := P.acell cg.1 4
  have f4 := P.afree cg.1 4
  have b4 : w.cell? ⟨wb, 4, none⟩ = some (.int .i64 m.rc) := P.wcell 4
  have g4 := P.wfree 4
  have hpw := P.nw _ cg.1
  have hpg := (P.ng.2.2.2.2.2 _ cg.1).1
  have hwg := P.ng.1
  have hF2 := hF
  simp only [fsOK, decide_eq_true_eq] at hF2
  have hrd : 0 ≤ (sxAt m.L id).rd ∧ (sxAt m.L id).rd ≤ (sxAt m.L id).cm ∧ (sxAt m.L id).cm ≤ 16384 * 402 := ⟨E.rd.1, E.rd.2.1, by have := E.rd.2.2; have := E.cm; have := E.td; omega⟩
  have hrc : 0 ≤ m.rc ∧ m.rc ≤ 16384 * 402 := ⟨hI.rc.1, by have := hI.rc.2; omega⟩
  obtain ⟨x1, ex1⟩ : ∃ x : SX, x = { sxAt m.L id with rd := (sxAt m.L id).rd + n } := ⟨_, rfl⟩
  obtain ⟨m2, em2⟩ : ∃ x : FX, x = { m with L := sxSet m.L id x1, rc := m.rc + n } := ⟨_, rfl⟩
  have e : fread F m id n = ({ m2 with L := sxSet m2.L id { x1 with td := tdV F.sw x1.rd x1.td }, tc := tdV F.cw m2.rc m2.tc },
      ⟨0, 0, 0, [] ++ []⟩) := by
    rw [em2, ex1]
    unfold fread
    rw [if_pos cg, if_neg (by omega), if_pos ha, if_pos hb]
    show (_, _) = (_, _)
    rw [sxSet_set (by exact ei)]
  rw [e]
  have hx1 : x1.id = id := by rw [ex1]; exact ei
  have hm2l : ixf m2.L id < m2.L.length := by rw [em2]; show ixf (sxSet m.L id x1) id < (sxSet m.L id x1).length; rw [set_ixf _ _ _ _ hx1, set_len]; exact cg.1
  have hm2i : ixf m2.L id = ixf m.L id := by rw [em2]; exact set_ixf _ _ _ _ hx1
  have hm2x : sxAt m2.L id = x1 := by rw [em2]; exact sxAt_set hx1 cg.1
  have hrd1 : x1.rd = (sxAt m.L id).rd + n := by rw [ex1]
  have htd1 : x1.td = (sxAt m.L id).td := by rw [ex1]
  have hrc1 : m2.rc = m.rc + n := by rw [em2]
  have htc1 : m2.tc = m.tc := by rw [em2]
  have ht0 := E.td
  have htc0 := hI.tc
  have hsc0 := hI.sum0.2.1
  have hcm0 := E.cm
  have s1 : sumS m2.L = sumS m.L := by rw [em2]; show sumS (sxSet m.L id x1) = _; rw [sumS_set _ _ _ cg.1, ex1]; show sumS m.L - (sxAt m.L id).sn + (sxAt m.L id).sn = _; omega
  have s2 : sumC m2.L = sumC m.L := by rw [em2]; show sumC (sxSet m.L id x1) = _; rw [sumC_set _ _ _ cg.1, ex1]; show sumC m.L - (sxAt m.L id).cm + (sxAt m.L id).cm = _; omega
  have FQ : ∀ q : Nat, FR (((w.drewN q).setCell ⟨pb (ixf m.L id), 4, none⟩ (.int .i64 ((sxAt m.L id).rd + n))).setCell ⟨wb, 4, none⟩ (.int .i64 (m.rc + n))) g base F m2 (sumS m.L) (sumC m.L) wb ms ml pb ∧ FCh base w (((w.drewN q).setCell ⟨pb (ixf m.L id), 4, none⟩ (.int .i64 ((sxAt m.L id).rd + n))).setCell ⟨wb, 4, none⟩ (.int .i64 (m.rc + n))) := fun q => by
    have h1 := (P.drewN q).setA id cg.1 4 (.int .i64 ((sxAt m.L id).rd + n)) x1 hx1 (by rw [ex1]) (by rw [ex1]; rfl)
    have k1 := (P.drewN q).chA ((ChT.refl _ _ _).drewN q) cg.1 4 (.int .i64 ((sxAt m.L id).rd + n))
    refine ⟨?_, h1.chW k1 4 _⟩
    rw [em2]
    exact h1.setW 4 _ rfl rfl rfl rfl rfl rfl
  have R1 : ∀ W : World, FR W g base F m2 (sumS m.L) (sumC m.L) wb ms ml pb → _ := fun W hW => renewS g base F hF m2 (sumS m.L) (sumC m.L) wb ms ml pb id W hW hm2l (by rw [hm2x, hrd1]; omega) (by rw [hm2x, htd1]; omega)
  have R2 : ∀ W : World, FR W g base F { m2 with L := sxSet m2.L id { sxAt m2.L id with td := tdV F.sw (sxAt m2.L id).rd (sxAt m2.L id).td } } (sumS m.L) (sumC m.L) wb ms ml pb → _ := fun W hW => renewW g base F hF _ (sumS m.L) (sumC m.L) wb ms ml pb W hW (by show 0 ≤ m2.rc ∧ m2.rc ≤ _; rw [hrc1]; omega) (by show 0 ≤ m2.tc ∧ m2.tc ≤ _; rw [htc1]; omega)
  rw [hm2i] at R1
  have eA : (!decide (tdV F.sw (sxAt m2.L id).rd (sxAt m2.L id).td = (sxAt m2.L id).td)) = false := by rw [hm2x, hrd1, htd1]; simpa using ha
  have eB : (!decide (tdV F.cw m2.rc m2.tc = m2.tc)) = false := by rw [hrc1, htc1]; simpa using hb
  rw [eA] at R1
  replace R2 : ∀ W : World, FR W g base F { m2 with L := sxSet m2.L id { sxAt m2.L id with td := tdV F.sw (sxAt m2.L id).rd (sxAt m2.L id).td } } (sumS m.L) (sumC m.L) wb ms ml pb → _ := fun W hW => (R2 W hW)
  have eB' : (!decide (tdV F.cw ({ m2 with L := sxSet m2.L id { sxAt m2.L id with td := tdV F.sw (sxAt m2.L id).rd (sxAt m2.L id).td } } : FX).rc ({ m2 with L := sxSet m2.L id { sxAt m2.L id with td := tdV F.sw (sxAt m2.L id).rd (sxAt m2.L id).td } } : FX).tc = ({ m2 with L := sxSet m2.L id { sxAt m2.L id with td := tdV F.sw (sxAt m2.L id).rd (sxAt m2.L id).td } } : FX).tc)) = false := eB
  rw [eB'] at R2
  rw [hm2x] at R1 R2
  have hix0 : ixf (sxSet m2.L id { x1 with td := tdV F.sw x1.rd x1.td }) id = ixf m.L id := (set_ixf _ _ _ { x1 with td := tdV F.sw x1.rd x1.td } (by exact hx1)).trans hm2i
  have hix3 : pb (ixf (sxSet m2.L id { x1 with td := tdV F.sw x1.rd x1.td }) id) = pb (ixf m.L id) := congrArg pb hix0
  have hl3 : ixf (sxSet m2.L id { x1 with td := tdV F.sw x1.rd x1.td }) id < (sxSet m2.L id { x1 with td := tdV F.sw x1.rd x1.td }).length := by rw [hix0, ← hm2i, set_len]; exact hm2l
  have hx3 : sxAt (sxSet m2.L id { x1 with td := tdV F.sw x1.rd x1.td }) id = { x1 with td := tdV F.sw x1.rd x1.td } := sxAt_set (by exact hx1) hm2l
  have s3 : sumS (sxSet m2.L id { x1 with td := tdV F.sw x1.rd x1.td }) = sumS m.L := by rw [sumS_set _ _ _ hm2l, hm2x, s1]; show sumS m.L - x1.sn + x1.sn = _; omega
  have s4 : sumC (sxSet m2.L id { x1 with td := tdV F.sw x1.rd x1.td }) = sumC m.L := by rw [sumC_set _ _ _ hm2l, hm2x, s2]; show sumC m.L - x1.cm + x1.cm = _; omega
  have fin : ∀ W : World, FR W g base F { m2 with L := sxSet m2.L id { x1 with td := tdV F.sw x1.rd x1.td }, tc := tdV F.cw m2.rc m2.tc } (sumS m.L) (sumC m.L) wb ms ml pb → FRep W g base F { m2 with L := sxSet m2.L id { x1 with td := tdV F.sw x1.rd x1.td }, tc := tdV F.cw m2.rc m2.tc } := fun W hW => ⟨wb, ms, ml, pb, by
    show FR W g base F _ (sumS (sxSet m2.L id _)) (sumC (sxSet m2.L id _)) wb ms ml pb
    rw [s3, s4]; exact hW⟩
  have et1 : tdV F.sw ((sxAt m.L id).rd + n) (sxAt m.L id).td = tdV F.sw x1.rd x1.td := by rw [hrd1, htd1]
  have et2 : tdV F.cw (m.rc + n) m.tc = tdV F.cw m2.rc m2.tc := by rw [hrc1, htc1]
  skip
  obtain ⟨L3, eL3⟩ : ∃ x, x = sxSet m2.L id { x1 with td := tdV F.sw x1.rd x1.td } := ⟨_, rfl⟩
  rw [← eL3] at R1 R2 fin hix3 hl3 hx3 ⊢
  obtain ⟨t1, eT1⟩ : ∃ x, x = tdV F.sw x1.rd x1.td := ⟨_, rfl⟩
  rw [← eT1] at hx3
  obtain ⟨t2, eT2⟩ : ∃ x, x = tdV F.cw m2.rc m2.tc := ⟨_, rfl⟩
  have HL : Hid _ := And.intro CG (And.intro FQ (And.intro R1 (And.intro R2 (And.intro fin (And.intro hix3 (And.intro hl3 (And.intro hx3 hbase)))))))
  rw [← eT2] at HL ⊢
  clear CG FQ R1 R2 fin hix0 hix3 hl3 hx3 e E ei hI hF hF2 ex1 em2 hx1 hm2l hm2i hm2x hrd1 htd1 hrc1 htc1 ht0 htc0 hsc0 hcm0 s1 s2 s3 s4 eA eB eB' et1 et2 eL3 eT1 eT2 ha hb P cg hbase
  obtain ⟨p, ep⟩ : ∃ x, x = pb (ixf m.L id) := ⟨_, rfl⟩
  obtain ⟨cm, ecm⟩ : ∃ x, x = (sxAt m.L id).cm := ⟨_, rfl⟩
  obtain ⟨rd, erd⟩ : ∃ x, x = (sxAt m.L id).rd := ⟨_, rfl⟩
  obtain ⟨rc, erc⟩ : ∃ x, x = m.rc := ⟨_, rfl⟩
  rw [← ep] at LK a3 a4 f4 hpw hpg
  rw [← ecm] at a3 hrd hy
  rw [← erd] at a4 hrd hy
  rw [← erc] at b4 hrc
  have hyd : decide (cm - rd < n) = false := decide_eq_false hy
  have hxd : decide (n < 1) = false := decide_eq_false hx
  have hn2 : n ≤ 16384 * 402 := by omega
  rw [← ep, ← erd, ← erc] at HL
  clear ep ecm erd erc
  go_enter Try.func39, Try.ntmps39
  go_wp2_with (first | (go_at_call 56; refine HL.out.1.mono ?_; rintro e wg ⟨rfl, hwg⟩; subst hwg))
  go_quiet (fail)
  go_wp2_with fail
  go_at_call 57
  refine (HL.out.2.2.1 _ (HL.out.2.1 nq).1).mono ?_
  rintro e w5 ⟨rfl, P5, C5⟩
  have K5 := (HL.out.2.1 nq).2.trans C5
  have d9 : w5.cell? ⟨g, 9, none⟩ = some (.pointer (some ⟨wb, 0, none⟩)) := P5.cell 9
  have d5 : w5.cell? ⟨p, 5, none⟩ = some (.int .i64 t1) := by
    have z : w5.cell? ⟨pb (ixf L3 id), 5, none⟩ = (acells F (sxAt L3 id))[5]? := P5.acell HL.out.2.2.2.2.2.2.1 5
    rw [HL.out.2.2.2.2.2.2.2.1, HL.out.2.2.2.2.2.1] at z
    exact z
  have H5 : Hid _ := And.intro P5 K5
  clear P5 C5 K5
  go_wp2_with (first
   | (go_at_call 57; refine (HL.out.2.2.2.1 _ H5.out.1).mono ?_; rintro e w8 ⟨rfl, P8, C8⟩; have K8 := (H5.out.2).trans C8; have e9 : w8.cell? ⟨g, 9, none⟩ = some (.pointer (some ⟨wb, 0, none⟩)) := P8.cell 9; have e5 : w8.cell? ⟨wb, 5, none⟩ = some (.int .i64 t2) := P8.wcell 5; have F8 : GOwns 38 8 w8 wg.heap.size (.slice none 0 0) (([] : List (Int × Int × Int)).map frC) := frames_nil _ _; have H8 : Hid _ := And.intro P8 (And.intro K8 F8); clear P8 C8 K8 F8))
  go_ret2
  exact ⟨_, rfl, H8.out.2.2, HL.out.2.2.2.2.1 _ H8.out.1, H8.out.2.1⟩
set_option maxRecDepth 20000 in
set_option maxHeartbeats 4000000 in
theorem read_ny (g base : Nat) (F : FS) (hF : fsOK F = true) (m : FX) (i : Nat) (id n : Int) (w : World) (h : FRep w g base F m) (hI : FXI F i m) (hi : i ≤ 400) (hbase : base ≤ w.heap.size) (hw : (Lit.int .i64 id).wf = true) (cg : canG F m.L id) (hx : ¬ n < 1) (hy : ¬ (sxAt m.L id).cm - (sxAt m.L id).rd < n)
    (ha : tdV F.sw ((sxAt m.L id).rd + n) (sxAt m.L id).td = (sxAt m.L id).td) (hb : ¬ tdV F.cw (m.rc + n) m.tc = m.tc) :
    Calls Try.prog 39 #[.pointer (some ⟨g, 0, none⟩), .int .i64 id, .int .i64 n] w fun e w' => ∃ fv, e = .returned (.tuple #[fv, .int .i64 (fread F m id n).2.code]) ∧ GOwns 38 8 w' w.heap.size fv ((fread F m id n).2.fr.map frC) ∧ FDo w w' g base F (fread F m id n).1 := by
  obtain ⟨wb, ms, ml, pb, P⟩ := h
  have CG := canGI g base F m _ _ wb ms ml pb i id w P hI hi hw
  rw [decide_eq_true cg] at CG
  obtain ⟨E, ei⟩ := hI.at' cg.1
  have c18 : w.cell? ⟨g, 18, none⟩ = some (.map (some ms)) := P.cell 18
  have c9 : w.cell? ⟨g, 9, none⟩ = some (.pointer (some ⟨wb, 0, none⟩)) := P.cell 9
  have LK := P.sm.look hw
  rw [mS_pos cg.1] at LK
  simp only [pval] at LK
  have a3 : w.cell? ⟨pb (ixf m.L id), 3, none⟩ = some (.int .i64 (sxAt m.L id).cm) := P.acell cg.1 3
  have a4 : w.cell? ⟨pb (ixf m.L id), 4, none⟩ = some (.int .i64 (sxAt m.L id).rd) := P.acell cg.1 4
  have f4 := P.afree cg.1 4
  have b4 : w.cell? ⟨wb, 4, none⟩ = some (.int .i64 m.rc) := P.wcell 4
  have g4 := P.wfree 4
  have hpw := P.nw _ cg.1
  have hpg := (P.ng.2.2.2.2.2 _ cg.1).1
  have hwg := P.ng.1
  have hF2 := hF
  simp only [fsOK, decide_eq_true_eq] at hF2
  have hrd : 0 ≤ (sxAt m.L id).rd ∧ (sxAt m.L id).rd ≤ (sxAt m.L id).cm ∧ (sxAt m.L id).cm ≤ 16384 * 402 := ⟨E.rd.1, E.rd.2.1, by have := E.rd.2.2; have := E.cm; have := E.td; omega⟩
  have hrc : 0 ≤ m.rc ∧ m.rc ≤ 16384 * 402 := ⟨hI.rc.1, by have := hI.rc.2; omega⟩
  obtain ⟨x1, ex1⟩ : ∃ x : SX, x = { sxAt m.L id with rd := (sxAt m.L id).rd + n } := ⟨_, rfl⟩
  obtain ⟨m2, em2⟩ : ∃ x : FX, x = { m with L := sxSet m.L id x1, rc := m.rc + n } := ⟨_, rfl⟩
  have e : fread F m id n = ({ m2 with L := sxSet m2.L id { x1 with td := tdV F.sw x1.rd x1.td }, tc := tdV F.cw m2.rc m2.tc },
      ⟨0, 0, 0, [] ++ [(16, tdV F.cw (m.rc + n) m.tc, 0)]⟩) := by
    rw [em2, ex1]
    unfold fread
    rw [if_pos cg, if_neg (by omega), if_pos ha, if_neg hb]
    show (_, _) = (_, _)
    rw [sxSet_set (by exact ei)]
  rw [e]
  have hx1 : x1.id = id := by rw [ex1]; exact ei
  have hm2l : ixf m2.L id < m2.L.length := by rw [em2]; show ixf (sxSet m.L id x1) id < (sxSet m.L id x1).length; rw [set_ixf _ _ _ _ hx1, set_len]; exact cg.1
  have hm2i : ixf m2.L id = ixf m.L id := by rw [em2]; exact set_ixf _ _ _ _ hx1
  have hm2x : sxAt m2.L id = x1 := by rw [em2]; exact sxAt_set hx1 cg.1
  have hrd1 : x1.rd = (sxAt m.L id).rd + n := by rw [ex1]
  have htd1 : x1.td = (sxAt m.L id).td := by rw [ex1]
  have hrc1 : m2.rc = m.rc + n := by rw [em2]
  have htc1 : m2.tc = m.tc := by rw [em2]
  have ht0 := E.td
  have htc0 := hI.tc
  have hsc0 := hI.sum0.2.1
  have hcm0 := E.cm
  have s1 : sumS m2.L = sumS m.L := by rw [em2]; show sumS (sxSet m.L id x1) = _; rw [sumS_set _ _ _ cg.1, ex1]; show sumS m.L - (sxAt m.L id).sn + (sxAt m.L id).sn = _; omega
  have s2 : sumC m2.L = sumC m.L := by rw [em2]; show sumC (sxSet m.L id x1) = _; rw [sumC_set _ _ _ cg.1, ex1]; show sumC m.L - (sxAt m.L id).cm + (sxAt m.L id).cm = _; omega
  have FQ : ∀ q : Nat, FR (((w.drewN q).setCell ⟨pb (ixf m.L id), 4, none⟩ (.int .i64 ((sxAt m.L id).rd + n))).setCell ⟨wb, 4, none⟩ (.int .i64 (m.rc + n))) g base F m2 (sumS m.L) (sumC m.L) wb ms ml pb ∧ FCh base w (((w.drewN q).setCell ⟨pb (ixf m.L id), 4, none⟩ (.int .i64 ((sxAt m.L id).rd + n))).setCell ⟨wb, 4, none⟩ (.int .i64 (m.rc + n))) := fun q => by
    have h1 := (P.drewN q).setA id cg.1 4 (.int .i64 ((sxAt m.L id).rd + n)) x1 hx1 (by rw [ex1]) (by rw [ex1]; rfl)
    have k1 := (P.drewN q).chA ((ChT.refl _ _ _).drewN q) cg.1 4 (.int .i64 ((sxAt m.L id).rd + n))
    refine ⟨?_, h1.chW k1 4 _⟩
    rw [em2]
    exact h1.setW 4 _ rfl rfl rfl rfl rfl rfl
  have R1 : ∀ W : World, FR W g base F m2 (sumS m.L) (sumC m.L) wb ms ml pb → _ := fun W hW => renewS g base F hF m2 (sumS m.L) (sumC m.L) wb ms ml pb id W hW hm2l (by rw [hm2x, hrd1]; omega) (by rw [hm2x, htd1]; omega)
  have R2 : ∀ W : World, FR W g base F { m2 with L := sxSet m2.L id { sxAt m2.L id with td := tdV F.sw (sxAt m2.L id).rd (sxAt m2.L id).td } } (sumS m.L) (sumC m.L) wb ms ml pb → _ := fun W hW => renewW g base F hF _ (sumS m.L) (sumC m.L) wb ms ml pb W hW (by show 0 ≤ m2.rc ∧ m2.rc ≤ _; rw [hrc1]; omega) (by show 0 ≤ m2.tc ∧ m2.tc ≤ _; rw [htc1]; omega)
  rw [hm2i] at R1
  have eA : (!decide (tdV F.sw (sxAt m2.L id).rd (sxAt m2.L id).td = (sxAt m2.L id).td)) = false := by rw [hm2x, hrd1, htd1]; simpa using ha
  have eB : (!decide (tdV F.cw m2.rc m2.tc = m2.tc)) = true := by rw [hrc1, htc1]; simpa using hb
  rw [eA] at R1
  replace R2 : ∀ W : World, FR W g base F { m2 with L := sxSet m2.L id { sxAt m2.L id with td := tdV F.sw (sxAt m2.L id).rd (sxAt m2.L id).td } } (sumS m.L) (sumC m.L) wb ms ml pb → _ := fun W hW => (R2 W hW)
  have eB' : (!decide (tdV F.cw ({ m2 with L := sxSet m2.L id { sxAt m2.L id with td := tdV F.sw (sxAt m2.L id).rd (sxAt m2.L id).td } } : FX).rc ({ m2 with L := sxSet m2.L id { sxAt m2.L id with td := tdV F.sw (sxAt m2.L id).rd (sxAt m2.L id).td } } : FX).tc = ({ m2 with L := sxSet m2.L id { sxAt m2.L id with td := tdV F.sw (sxAt m2.L id).rd (sxAt m2.L id).td } } : FX).tc)) = true := eB
  rw [eB'] at R2
  rw [hm2x] at R1 R2
  have hix0 : ixf (sxSet m2.L id { x1 with td := tdV F.sw x1.rd x1.td }) id = ixf m.L id := (set_ixf _ _ _ { x1 with td := tdV F.sw x1.rd x1.td } (by exact hx1)).trans hm2i
  have hix3 : pb (ixf (sxSet m2.L id { x1 with td := tdV F.sw x1.rd x1.td }) id) = pb (ixf m.L id) := congrArg pb hix0
  have hl3 : ixf (sxSet m2.L id { x1 with td := tdV F.sw x1.rd x1.td }) id < (sxSet m2.L id { x1 with td := tdV F.sw x1.rd x1.td }).length := by rw [hix0, ← hm2i, set_len]; exact hm2l
  have hx3 : sxAt (sxSet m2.L id { x1 with td := tdV F.sw x1.rd x1.td }) id = { x1 with td := tdV F.sw x1.rd x1.td } := sxAt_set (by exact hx1) hm2l
  have s3 : sumS (sxSet m2.L id { x1 with td := tdV F.sw x1.rd x1.td }) = sumS m.L := by rw [sumS_set _ _ _ hm2l, hm2x, s1]; show sumS m.L - x1.sn + x1.sn = _; omega
  have s4 : sumC (sxSet m2.L id { x1 with td := tdV F.sw x1.rd x1.td }) = sumC m.L := by rw [sumC_set _ _ _ hm2l, hm2x, s2]; show sumC m.L - x1.cm + x1.cm = _; omega
  have fin : ∀ W : World, FR W g base F { m2 with L := sxSet m2.L id { x1 with td := tdV F.sw x1.rd x1.td }, tc := tdV F.cw m2.rc m2.tc } (sumS m.L) (sumC m.L) wb ms ml pb → FRep W g base F { m2 with L := sxSet m2.L id { x1 with td := tdV F.sw x1.rd x1.td }, tc := tdV F.cw m2.rc m2.tc } := fun W hW => ⟨wb, ms, ml, pb, by
    show FR W g base F _ (sumS (sxSet m2.L id _)) (sumC (sxSet m2.L id _)) wb ms ml pb
    rw [s3, s4]; exact hW⟩
  have et1 : tdV F.sw ((sxAt m.L id).rd + n) (sxAt m.L id).td = tdV F.sw x1.rd x1.td := by rw [hrd1, htd1]
  have et2 : tdV F.cw (m.rc + n) m.tc = tdV F.cw m2.rc m2.tc := by rw [hrc1, htc1]
  rw [et2]
  obtain ⟨L3, eL3⟩ : ∃ x, x = sxSet m2.L id { x1 with td := tdV F.sw x1.rd x1.td } := ⟨_, rfl⟩
  rw [← eL3] at R1 R2 fin hix3 hl3 hx3 ⊢
  obtain ⟨t1, eT1⟩ : ∃ x, x = tdV F.sw x1.rd x1.td := ⟨_, rfl⟩
  rw [← eT1] at hx3
  obtain ⟨t2, eT2⟩ : ∃ x, x = tdV F.cw m2.rc m2.tc := ⟨_, rfl⟩
  have HL : Hid _ := And.intro CG (And.intro FQ (And.intro R1 (And.intro R2 (And.intro fin (And.intro hix3 (And.intro hl3 (And.intro hx3 hbase)))))))
  rw [← eT2] at HL ⊢
  clear CG FQ R1 R2 fin hix0 hix3 hl3 hx3 e E ei hI hF hF2 ex1 em2 hx1 hm2l hm2i hm2x hrd1 htd1 hrc1 htc1 ht0 htc0 hsc0 hcm0 s1 s2 s3 s4 eA eB eB' et1 et2 eL3 eT1 eT2 ha hb P cg hbase
  obtain ⟨p, ep⟩ : ∃ x, x = pb (ixf m.L id) := ⟨_, rfl⟩
  obtain ⟨cm, ecm⟩ : ∃ x, x = (sxAt m.L id).cm := ⟨_, rfl⟩
  obtain ⟨rd, erd⟩ : ∃ x, x = (sxAt m.L id).rd := ⟨_, rfl⟩
  obtain ⟨rc, erc⟩ : ∃ x, x = m.rc := ⟨_, rfl⟩
  rw [← ep] at LK a3 a4 f4 hpw hpg
  rw [← ecm] at a3 hrd hy
  rw [← erd] at a4 hrd hy
  rw [← erc] at b4 hrc
  have hyd : decide (cm - rd < n) = false := decide_eq_false hy
  have hxd : decide (n < 1) = false := decide_eq_false hx
  have hn2 : n ≤ 16384 * 402 := by omega
  rw [← ep, ← erd, ← erc] at HL
  clear ep ecm erd erc
  go_enter Try.func39, Try.ntmps39
  go_wp2_with (first | (go_at_call 56; refine HL.out.1.mono ?_; rintro e wg ⟨rfl, hwg⟩; subst hwg))
  go_quiet (fail)
  go_wp2_with fail
  go_at_call 57
  refine (HL.out.2.2.1 _ (HL.out.2.1 nq).1).mono ?_
  rintro e w5 ⟨rfl, P5, C5⟩
  have K5 := (HL.out.2.1 nq).2.trans C5
  have d9 : w5.cell? ⟨g, 9, none⟩ = some (.pointer (some ⟨wb, 0, none⟩)) := P5.cell 9
  have d5 : w5.cell? ⟨p, 5, none⟩ = some (.int .i64 t1) := by
    have z : w5.cell? ⟨pb (ixf L3 id), 5, none⟩ = (acells F (sxAt L3 id))[5]? := P5.acell HL.out.2.2.2.2.2.2.1 5
    rw [HL.out.2.2.2.2.2.2.2.1, HL.out.2.2.2.2.2.1] at z
    exact z
  have H5 : Hid _ := And.intro P5 K5
  clear P5 C5 K5
  go_wp2_with (first
   | (go_at_call 57; refine (HL.out.2.2.2.1 _ H5.out.1).mono ?_; rintro e w8 ⟨rfl, P8, C8⟩; have K8 := (H5.out.2).trans C8; have e9 : w8.cell? ⟨g, 9, none⟩ = some (.pointer (some ⟨wb, 0, none⟩)) := P8.cell 9; have e5 : w8.cell? ⟨wb, 5, none⟩ = some (.int .i64 t2) := P8.wcell 5; have F8 : GOwns 38 8 w8 wg.heap.size (.slice none 0 0) (([] : List (Int × Int × Int)).map frC) := frames_nil _ _; have H8 : Hid _ := And.intro P8 (And.intro K8 F8); clear P8 C8 K8 F8)
   | (at_builtin; refine wpList_append_flat rfl (.tmp 70) (.tmp 79) 33 38 Try.underlying33 _ 8 112 infoFrC rfl (by decide) (by decide) rfl wg.heap.size (.slice none 0 0) (([] : List (Int × Int × Int)).map frC) (frC_flat _) rfl (H8.out.2.2.below ((Below.refl _ _).alloc (Nat.le_refl _) _)) _ [frC (16, t2, 0)] (frC_flat [(16, t2, 0)]) rfl (lit_flat w8 (frC (16, t2, 0)) 38) (by simp) (by have := H8.out.2.1.size; simp; omega) ?_; intro v9 w9 o9 g9; have H9 : Hid _ := And.intro o9 g9; clear o9 g9))
  go_ret2
  have B9 : Below w8.heap.size w8 (w8.alloc (.cells (frC (16, t2, 0)).toArray 38)) := (Below.refl _ _).alloc (Nat.le_refl _) _
  have F9 := H8.out.2.2.below B9
  exact ⟨_, rfl, H9.out.1, HL.out.2.2.2.2.1 _ ((H8.out.1.below B9).grown F9 H9.out.2), (H8.out.2.1.trans (ChT.of_below B9)).grownN H9.out.2 (gown_lo F9)⟩
set_option maxRecDepth 20000 in
set_option maxHeartbeats 4000000 in
theorem read_yn (g base : Nat) (F : FS) (hF : fsOK F = true) (m : FX) (i : Nat) (id n : Int) (w : World) (h : FRep w g base F m) (hI : FXI F i m) (hi : i ≤ 400) (hbase : base ≤ w.heap.size) (hw : (Lit.int .i64 id).wf = true) (cg : canG F m.L id) (hx : ¬ n < 1) (hy : ¬ (sxAt m.L id).cm - (sxAt m.L id).rd < n)
    (ha : ¬ tdV F.sw ((sxAt m.L id).rd + n) (sxAt m.L id).td = (sxAt m.L id).td) (hb : tdV F.cw (m.rc + n) m.tc = m.tc) :
    Calls Try.prog 39 #[.pointer (some ⟨g, 0, none⟩), .int .i64 id, .int .i64 n] w fun e w' => ∃ fv, e = .returned (.tuple #[fv, .int .i64 (fread F m id n).2.code]) ∧ GOwns 38 8 w' w.heap.size fv ((fread F m id n).2.fr.map frC) ∧ FDo w w' g base F (fread F m id n).1 := by
  obtain ⟨wb, ms, ml, pb, P⟩ := h
  have CG := canGI g base F m _ _ wb ms ml pb i id w P hI hi hw
  rw [decide_eq_true cg] at CG
  obtain ⟨E, ei⟩ := hI.at' cg.1
  have c18 : w.cell? ⟨g, 18, none⟩ = some (.map (some ms)) := P.cell 18
  have c9 : w.cell? ⟨g, 9, none⟩ = some (.pointer (some ⟨wb, 0, none⟩)) := P.cell 9
  have LK := P.sm.look hw
  rw [mS_pos cg.1] at LK
  simp only [pval] at LK
  have a3 : w.cell? ⟨pb (ixf m.L id), 3, none⟩ = some (.int .i64 (sxAt m.L id).cm) := P.acell cg.1 3
  have a4 : w.cell? ⟨pb (ixf m.L id), 4, none⟩ = some (.int .i64 (sxAt m.L id).rd) := P.acell cg.1 4
  have f4 := P.afree cg.1 4
  have b4 : w.cell? ⟨wb, 4, none⟩ = some (.int .i64 m.rc) := P.wcell 4
  have g4 := P.wfree 4
  have hpw := P.nw _ cg.1
  have hpg := (P.ng.2.2.2.2.2 _ cg.1).1
  have hwg := P.ng.1
  have hF2 := hF
  simp only [fsOK, decide_eq_true_eq] at hF2
  have hrd : 0 ≤ (sxAt m.L id).rd ∧ (sxAt m.L id).rd ≤ (sxAt m.L id).cm ∧ (sxAt m.L id).cm ≤ 16384 * 402 := ⟨E.rd.1, E.rd.2.1, by have := E.rd.2.2; have := E.cm; have := E.td; omega⟩
  have hrc : 0 ≤ m.rc ∧ m.rc ≤ 16384 * 402 := ⟨hI.rc.1, by have := hI.rc.2; omega⟩
  obtain ⟨x1, ex1⟩ : ∃ x : SX, x = { sxAt m.L id with rd := (sxAt m.L id).rd + n } := ⟨_, rfl⟩
  obtain ⟨m2, em2⟩ : ∃ x : FX, x = { m with L := sxSet m.L id x1, rc := m.rc + n } := ⟨_, rfl⟩
  have e : fread F m id n = ({ m2 with L := sxSet m2.L id { x1 with td := tdV F.sw x1.rd x1.td }, tc := tdV F.cw m2.rc m2.tc },
      ⟨0, 0, 0, [(17, id, tdV F.sw ((sxAt m.L id).rd + n) (sxAt m.L id).td)] ++ []⟩) := by
    rw [em2, ex1]
    unfold fread
    rw [if_pos cg, if_neg (by omega), if_neg ha, if_pos hb]
    show (_, _) = (_, _)
    rw [sxSet_set (by exact ei)]
  rw [e]
  have hx1 : x1.id = id := by rw [ex1]; exact ei
  have hm2l : ixf m2.L id < m2.L.length := by rw [em2]; show ixf (sxSet m.L id x1) id < (sxSet m.L id x1).length; rw [set_ixf _ _ _ _ hx1, set_len]; exact cg.1
  have hm2i : ixf m2.L id = ixf m.L id := by rw [em2]; exact set_ixf _ _ _ _ hx1
  have hm2x : sxAt m2.L id = x1 := by rw [em2]; exact sxAt_set hx1 cg.1
  have hrd1 : x1.rd = (sxAt m.L id).rd + n := by rw [ex1]
  have htd1 : x1.td = (sxAt m.L id).td := by rw [ex1]
  have hrc1 : m2.rc = m.rc + n := by rw [em2]
  have htc1 : m2.tc = m.tc := by rw [em2]
  have ht0 := E.td
  have htc0 := hI.tc
  have hsc0 := hI.sum0.2.1
  have hcm0 := E.cm
  have s1 : sumS m2.L = sumS m.L := by rw [em2]; show sumS (sxSet m.L id x1) = _; rw [sumS_set _ _ _ cg.1, ex1]; show sumS m.L - (sxAt m.L id).sn + (sxAt m.L id).sn = _; omega
  have s2 : sumC m2.L = sumC m.L := by rw [em2]; show sumC (sxSet m.L id x1) = _; rw [sumC_set _ _ _ cg.1, ex1]; show sumC m.L - (sxAt m.L id).cm + (sxAt m.L id).cm = _; omega
  have FQ : ∀ q : Nat, FR (((w.drewN q).setCell ⟨pb (ixf m.L id), 4, none⟩ (.int .i64 ((sxAt m.L id).rd + n))).setCell ⟨wb, 4, none⟩ (.int .i64 (m.rc + n))) g base F m2 (sumS m.L) (sumC m.L) wb ms ml pb ∧ FCh base w (((w.drewN q).setCell ⟨pb (ixf m.L id), 4, none⟩ (.int .i64 ((sxAt m.L id).rd + n))).setCell ⟨wb, 4, none⟩ (.int .i64 (m.rc + n))) := fun q => by
    have h1 := (P.drewN q).setA id cg.1 4 (.int .i64 ((sxAt m.L id).rd + n)) x1 hx1 (by rw [ex1]) (by rw [ex1]; rfl)
    have k1 := (P.drewN q).chA ((ChT.refl _ _ _).drewN q) cg.1 4 (.int .i64 ((sxAt m.L id).rd + n))
    refine ⟨?_, h1.chW k1 4 _⟩
    rw [em2]
    exact h1.setW 4 _ rfl rfl rfl rfl rfl rfl
  have R1 : ∀ W : World, FR W g base F m2 (sumS m.L) (sumC m.L) wb ms ml pb → _ := fun W hW => renewS g base F hF m2 (sumS m.L) (sumC m.L) wb ms ml pb id W hW hm2l (by rw [hm2x, hrd1]; omega) (by rw [hm2x, htd1]; omega)
  have R2 : ∀ W : World, FR W g base F { m2 with L := sxSet m2.L id { sxAt m2.L id with td := tdV F.sw (sxAt m2.L id).rd (sxAt m2.L id).td } } (sumS m.L) (sumC m.L) wb ms ml pb → _ := fun W hW => renewW g base F hF _ (sumS m.L) (sumC m.L) wb ms ml pb W hW (by show 0 ≤ m2.rc ∧ m2.rc ≤ _; rw [hrc1]; omega) (by show 0 ≤ m2.tc ∧ m2.tc ≤ _; rw [htc1]; omega)
  rw [hm2i] at R1
  have eA : (!decide (tdV F.sw (sxAt m2.L id).rd (sxAt m2.L id).td = (sxAt m2.L id).td)) = true := by rw [hm2x, hrd1, htd1]; simpa using ha
  have eB : (!decide (tdV F.cw m2.rc m2.tc = m2.tc)) = false := by rw [hrc1, htc1]; simpa using hb
  rw [eA] at R1
  replace R2 : ∀ W : World, FR W g base F { m2 with L := sxSet m2.L id { sxAt m2.L id with td := tdV F.sw (sxAt m2.L id).rd (sxAt m2.L id).td } } (sumS m.L) (sumC m.L) wb ms ml pb → _ := fun W hW => (R2 W hW)
  have eB' : (!decide (tdV F.cw ({ m2 with L := sxSet m2.L id { sxAt m2.L id with td := tdV F.sw (sxAt m2.L id).rd (sxAt m2.L id).td } } : FX).rc ({ m2 with L := sxSet m2.L id { sxAt m2.L id with td := tdV F.sw (sxAt m2.L id).rd (sxAt m2.L id).td } } : FX).tc = ({ m2 with L := sxSet m2.L id { sxAt m2.L id with td := tdV F.sw (sxAt m2.L id).rd (sxAt m2.L id).td } } : FX).tc)) = false := eB
  rw [eB'] at R2
  rw [hm2x] at R1 R2
  have hix0 : ixf (sxSet m2.L id { x1 with td := tdV F.sw x1.rd x1.td }) id = ixf m.L id := (set_ixf _ _ _ { x1 with td := tdV F.sw x1.rd x1.td } (by exact hx1)).trans hm2i
  have hix3 : pb (ixf (sxSet m2.L id { x1 with td := tdV F.sw x1.rd x1.td }) id) = pb (ixf m.L id) := congrArg pb hix0
  have hl3 : ixf (sxSet m2.L id { x1 with td := tdV F.sw x1.rd x1.td }) id < (sxSet m2.L id { x1 with td := tdV F.sw x1.rd x1.td }).length := by rw [hix0, ← hm2i, set_len]; exact hm2l
  have hx3 : sxAt (sxSet m2.L id { x1 with td := tdV F.sw x1.rd x1.td }) id = { x1 with td := tdV F.sw x1.rd x1.td } := sxAt_set (by exact hx1) hm2l
  have s3 : sumS (sxSet m2.L id { x1 with td := tdV F.sw x1.rd x1.td }) = sumS m.L := by rw [sumS_set _ _ _ hm2l, hm2x, s1]; show sumS m.L - x1.sn + x1.sn = _; omega
  have s4 : sumC (sxSet m2.L id { x1 with td := tdV F.sw x1.rd x1.td }) = sumC m.L := by rw [sumC_set _ _ _ hm2l, hm2x, s2]; show sumC m.L - x1.cm + x1.cm = _; omega
  have fin : ∀ W : World, FR W g base F { m2 with L := sxSet m2.L id { x1 with td := tdV F.sw x1.rd x1.td }, tc := tdV F.cw m2.rc m2.tc } (sumS m.L) (sumC m.L) wb ms ml pb → FRep W g base F { m2 with L := sxSet m2.L id { x1 with td := tdV F.sw x1.rd x1.td }, tc := tdV F.cw m2.rc m2.tc } := fun W hW => ⟨wb, ms, ml, pb, by
    show FR W g base F _ (sumS (sxSet m2.L id _)) (sumC (sxSet m2.L id _)) wb ms ml pb
    rw [s3, s4]; exact hW⟩
  have et1 : tdV F.sw ((sxAt m.L id).rd + n) (sxAt m.L id).td = tdV F.sw x1.rd x1.td := by rw [hrd1, htd1]
  have et2 : tdV F.cw (m.rc + n) m.tc = tdV F.cw m2.rc m2.tc := by rw [hrc1, htc1]
  rw [et1]
  obtain ⟨L3, eL3⟩ : ∃ x, x = sxSet m2.L id { x1 with td := tdV F.sw x1.rd x1.td } := ⟨_, rfl⟩
  rw [← eL3] at R1 R2 fin hix3 hl3 hx3 ⊢
  obtain ⟨t1, eT1⟩ : ∃ x, x = tdV F.sw x1.rd x1.td := ⟨_, rfl⟩
  rw [← eT1] at hx3 ⊢
  obtain ⟨t2, eT2⟩ : ∃ x, x = tdV F.cw m2.rc m2.tc := ⟨_, rfl⟩
  have HL : Hid _ := And.intro CG (And.intro FQ (And.intro R1 (And.intro R2 (And.intro fin (And.intro hix3 (And.intro hl3 (And.intro hx3 hbase)))))))
  rw [← eT2] at HL ⊢
  clear CG FQ R1 R2 fin hix0 hix3 hl3 hx3 e E ei hI hF hF2 ex1 em2 hx1 hm2l hm2i hm2x hrd1 htd1 hrc1 htc1 ht0 htc0 hsc0 hcm0 s1 s2 s3 s4 eA eB eB' et1 et2 eL3 eT1 eT2 ha hb P cg hbase
  obtain ⟨p, ep⟩ : ∃ x, x = pb (ixf m.L id) := ⟨_, rfl⟩
  obtain ⟨cm, ecm⟩ : ∃ x, x = (sxAt m.L id).cm := ⟨_, rfl⟩
  obtain ⟨rd, erd⟩ : ∃ x, x = (sxAt m.L id).rd := ⟨_, rfl⟩
  obtain ⟨rc, erc⟩ : ∃ x, x = m.rc := ⟨_, rfl⟩
  rw [← ep] at LK a3 a4 f4 hpw hpg
  rw [← ecm] at a3 hrd hy
  rw [← erd] at a4 hrd hy
  rw [← erc] at b4 hrc
  have hyd : decide (cm - rd < n) = false := decide_eq_false hy
  have hxd : decide (n < 1) = false := decide_eq_false hx
  have hn2 : n ≤ 16384 * 402 := by omega
  rw [← ep, ← erd, ← erc] at HL
  clear ep ecm erd erc
  go_enter Try.func39, Try.ntmps39
  go_wp2_with (first | (go_at_call 56; refine HL.out.1.mono ?_; rintro e wg ⟨rfl, hwg⟩; subst hwg))
  go_quiet (fail)
  go_wp2_with fail
  go_at_call 57
  refine (HL.out.2.2.1 _ (HL.out.2.1 nq).1).mono ?_
  rintro e w5 ⟨rfl, P5, C5⟩
  have K5 := (HL.out.2.1 nq).2.trans C5
  have d9 : w5.cell? ⟨g, 9, none⟩ = some (.pointer (some ⟨wb, 0, none⟩)) := P5.cell 9
  have d5 : w5.cell? ⟨p, 5, none⟩ = some (.int .i64 t1) := by
    have z : w5.cell? ⟨pb (ixf L3 id), 5, none⟩ = (acells F (sxAt L3 id))[5]? := P5.acell HL.out.2.2.2.2.2.2.1 5
    rw [HL.out.2.2.2.2.2.2.2.1, HL.out.2.2.2.2.2.1] at z
    exact z
  have H5 : Hid _ := And.intro P5 K5
  clear P5 C5 K5
  go_wp2_with (first
   | (at_builtin; refine wpList_append_flat rfl (.tmp 56) (.tmp 63) 33 38 Try.underlying33 _ 8 112 infoFrC rfl (by decide) (by decide) rfl wg.heap.size (.slice none 0 0) (([] : List (Int × Int × Int)).map frC) (frC_flat _) rfl (frames_nil _ _) _ [frC (17, id, t1)] (frC_flat [(17, id, t1)]) rfl (lit_flat w5 (frC (17, id, t1)) 38) (by simp) (by have := H5.out.2.size; simp; omega) ?_; intro v6 w6 o6 g6
      have H6 : Hid _ := And.intro o6 g6
      have B6 : Below w5.heap.size w5 (w5.alloc (.cells (frC (17, id, t1)).toArray 38)) := (Below.refl _ _).alloc (Nat.le_refl _) _
      have P6 := (H5.out.1.below B6).grown (frames_nil _ wg.heap.size) H6.out.2
      have K6 : FCh base wg w6 := (H5.out.2.trans (ChT.of_below B6)).grownN H6.out.2 (fun k hk => by cases hk)
      have F6 : GOwns 38 8 w6 wg.heap.size v6 ([(17, id, t1)].map frC) := H6.out.1
      have d9' : w6.cell? ⟨g, 9, none⟩ = some (.pointer (some ⟨wb, 0, none⟩)) := P6.cell 9
      obtain ⟨fa, fn, fc, ef, efn⟩ := slice_form F6
      have H7 : Hid _ := And.intro P6 (And.intro K6 F6)
      have HEF : Hid _ := efn
      clear o6 g6 P6 K6 F6 B6 H6 efn d9 d5
      subst ef)
   | (go_at_call 57; refine (HL.out.2.2.2.1 _ H7.out.1).mono ?_; rintro e w8 ⟨rfl, P8, C8⟩; have K8 := (H7.out.2.1).trans C8; have e9 : w8.cell? ⟨g, 9, none⟩ = some (.pointer (some ⟨wb, 0, none⟩)) := P8.cell 9; have e5 : w8.cell? ⟨wb, 5, none⟩ = some (.int .i64 t2) := P8.wcell 5; have F8 : GOwns 38 8 w8 wg.heap.size (.slice fa fn fc) ([(17, id, t1)].map frC) := GOwns.ch C8 H7.out.2.2 (by decide); have H8 : Hid _ := And.intro P8 (And.intro K8 F8); clear P8 C8 K8 F8))
  go_ret2
  exact ⟨_, rfl, H8.out.2.2, HL.out.2.2.2.2.1 _ H8.out.1, H8.out.2.1⟩
set_option maxRecDepth 20000 in
set_option maxHeartbeats 4000000 in
theorem read_yy (g base : Nat) (F : FS) (hF : fsOK F = true) (m : FX) (i : Nat) (id n : Int) (w : World) (h : FRep w g base F m) (hI : FXI F i m) (hi : i ≤ 400) (hbase : base ≤ w.heap.size) (hw : (Lit.int .i64 id).wf = true) (cg : canG F m.L id) (hx : ¬ n < 1) (hy : ¬ (sxAt m.L id).cm - (sxAt m.L id).rd < n)
    (ha : ¬ tdV F.sw ((sxAt m.L id).rd + n) (sxAt m.L id).td = (sxAt m.L id).td) (hb : ¬ tdV F.cw (m.rc + n) m.tc = m.tc) :
    Calls Try.prog 39 #[.pointer (some ⟨g, 0, none⟩), .int .i64 id, .int .i64 n] w fun e w' => ∃ fv, e = .returned (.tuple #[fv, .int .i64 (fread F m id n).2.code]) ∧ GOwns 38 8 w' w.heap.size fv ((fread F m id n).2.fr.map frC) ∧ FDo w w' g base F (fread F m id n).1 := by
  obtain ⟨wb, ms, ml, pb, P⟩ := h
  have CG := canGI g base F m _ _ wb ms ml pb i id w P hI hi hw
  rw [decide_eq_true cg] at CG
  obtain ⟨E, ei⟩ := hI.at' cg.1
  have c18 : w.cell? ⟨g, 18, none⟩ = some (.map (some ms)) := P.cell 18
  have c9 : w.cell? ⟨g, 9, none⟩ = some (.pointer (some ⟨wb, 0, none⟩)) := P.cell 9
  have LK := P.sm.look hw
  rw [mS_pos cg.1] at LK
  simp only [pval] at LK
  have a3 : w.cell? ⟨pb (ixf m.L id), 3, none⟩ = some (.int .i64 (sxAt m.L id).cm) := P.acell cg.1 3
  have a4 : w.cell? ⟨pb (ixf m.L id), 4, none⟩ = some (.int .i64 (sxAt m.L id).rd) := P.acell cg.1 4
  have f4 := P.afree cg.1 4
  have b4 : w.cell? ⟨wb, 4, none⟩ = some (.int .i64 m.rc) := P.wcell 4
  have g4 := P.wfree 4
  have hpw := P.nw _ cg.1
  have hpg := (P.ng.2.2.2.2.2 _ cg.1).1
  have hwg := P.ng.1
  have hF2 := hF
  simp only [fsOK, decide_eq_true_eq] at hF2
  have hrd : 0 ≤ (sxAt m.L id).rd ∧ (sxAt m.L id).rd ≤ (sxAt m.L id).cm ∧ (sxAt m.L id).cm ≤ 16384 * 402 := ⟨E.rd.1, E.rd.2.1, by have := E.rd.2.2; have := E.cm; have := E.td; omega⟩
  have hrc : 0 ≤ m.rc ∧ m.rc ≤ 16384 * 402 := ⟨hI.rc.1, by have := hI.rc.2; omega⟩
  obtain ⟨x1, ex1⟩ : ∃ x : SX, x = { sxAt m.L id with rd := (sxAt m.L id).rd + n } := ⟨_, rfl⟩
  obtain ⟨m2, em2⟩ : ∃ x : FX, x = { m with L := sxSet m.L id x1, rc := m.rc + n } := ⟨_, rfl⟩
  have e : fread F m id n = ({ m2 with L := sxSet m2.L id { x1 with td := tdV F.sw x1.rd x1.td }, tc := tdV F.cw m2.rc m2.tc },
      ⟨0, 0, 0, [(17, id, tdV F.sw ((sxAt m.L id).rd + n) (sxAt m.L id).td)] ++ [(16, tdV F.cw (m.rc + n) m.tc, 0)]⟩) := by
    rw [em2, ex1]
    unfold fread
    rw [if_pos cg, if_neg (by omega), if_neg ha, if_neg hb]
    show (_, _) = (_, _)
    rw [sxSet_set (by exact ei)]
  rw [e]
  have hx1 : x1.id = id := by rw [ex1]; exact ei
  have hm2l : ixf m2.L id < m2.L.length := by rw [em2]; show ixf (sxSet m.L id x1) id < (sxSet m.L id x1).length; rw [set_ixf _ _ _ _ hx1, set_len]; exact cg.1
  have hm2i : ixf m2.L id = ixf m.L id := by rw [em2]; exact set_ixf _ _ _ _ hx1
  have hm2x : sxAt m2.L id = x1 := by rw [em2]; exact sxAt_set hx1 cg.1
  have hrd1 : x1.rd = (sxAt m.L id).rd + n := by rw [ex1]
  have htd1 : x1.td = (sxAt m.L id).td := by rw [ex1]
  have hrc1 : m2.rc = m.rc + n := by rw [em2]
  have htc1 : m2.tc = m.tc := by rw [em2]
  have ht0 := E.td
  have htc0 := hI.tc
  have hsc0 := hI.sum0.2.1
  have hcm0 := E.cm
  have s1 : sumS m2.L = sumS m.L := by rw [em2]; show sumS (sxSet m.L id x1) = _; rw [sumS_set _ _ _ cg.1, ex1]; show sumS m.L - (sxAt m.L id).sn + (sxAt m.L id).sn = _; omega
  have s2 : sumC m2.L = sumC m.L := by rw [em2]; show sumC (sxSet m.L id x1) = _; rw [sumC_set _ _ _ cg.1, ex1]; show sumC m.L - (sxAt m.L id).cm + (sxAt m.L id).cm = _; omega
  have FQ : ∀ q : Nat, FR (((w.drewN q).setCell ⟨pb (ixf m.L id), 4, none⟩ (.int .i64 ((sxAt m.L id).rd + n))).setCell ⟨wb, 4, none⟩ (.int .i64 (m.rc + n))) g base F m2 (sumS m.L) (sumC m.L) wb ms ml pb ∧ FCh base w (((w.drewN q).setCell ⟨pb (ixf m.L id), 4, none⟩ (.int .i64 ((sxAt m.L id).rd + n))).setCell ⟨wb, 4, none⟩ (.int .i64 (m.rc + n))) := fun q => by
    have h1 := (P.drewN q).setA id cg.1 4 (.int .i64 ((sxAt m.L id).rd + n)) x1 hx1 (by rw [ex1]) (by rw [ex1]; rfl)
    have k1 := (P.drewN q).chA ((ChT.refl _ _ _).drewN q) cg.1 4 (.int .i64 ((sxAt m.L id).rd + n))
    refine ⟨?_, h1.chW k1 4 _⟩
    rw [em2]
    exact h1.setW 4 _ rfl rfl rfl rfl rfl rfl
  have R1 : ∀ W : World, FR W g base F m2 (sumS m.L) (sumC m.L) wb ms ml pb → _ := fun W hW => renewS g base F hF m2 (sumS m.L) (sumC m.L) wb ms ml pb id W hW hm2l (by rw [hm2x, hrd1]; omega) (by rw [hm2x, htd1]; omega)
  have R2 : ∀ W : World, FR W g base F { m2 with L := sxSet m2.L id { sxAt m2.L id with td := tdV F.sw (sxAt m2.L id).rd (sxAt m2.L id).td } } (sumS m.L) (sumC m.L) wb ms ml pb → _ := fun W hW => renewW g base F hF _ (sumS m.L) (sumC m.L) wb ms ml pb W hW (by show 0 ≤ m2.rc ∧ m2.rc ≤ _; rw [hrc1]; omega) (by show 0 ≤ m2.tc ∧ m2.tc ≤ _; rw [htc1]; omega)
  rw [hm2i] at R1
  have eA : (!decide (tdV F.sw (sxAt m2.L id).rd (sxAt m2.L id).td = (sxAt m2.L id).td)) = true := by rw [hm2x, hrd1, htd1]; simpa using ha
  have eB : (!decide (tdV F.cw m2.rc m2.tc = m2.tc)) = true := by rw [hrc1, htc1]; simpa using hb
  rw [eA] at R1
  replace R2 : ∀ W : World, FR W g base F { m2 with L := sxSet m2.L id { sxAt m2.L id with td := tdV F.sw (sxAt m2.L id).rd (sxAt m2.L id).td } } (sumS m.L) (sumC m.L) wb ms ml pb → _ := fun W hW => (R2 W hW)
  have eB' : (!decide (tdV F.cw ({ m2 with L := sxSet m2.L id { sxAt m2.L id with td := tdV F.sw (sxAt m2.L id).rd (sxAt m2.L id).td } } : FX).rc ({ m2 with L := sxSet m2.L id { sxAt m2.L id with td := tdV F.sw (sxAt m2.L id).rd (sxAt m2.L id).td } } : FX).tc = ({ m2 with L := sxSet m2.L id { sxAt m2.L id with td := tdV F.sw (sxAt m2.L id).rd (sxAt m2.L id).td } } : FX).tc)) = true := eB
  rw [eB'] at R2
  rw [hm2x] at R1 R2
  have hix0 : ixf (sxSet m2.L id { x1 with td := tdV F.sw x1.rd x1.td }) id = ixf m.L id := (set_ixf _ _ _ { x1 with td := tdV F.sw x1.rd x1.td } (by exact hx1)).trans hm2i
  have hix3 : pb (ixf (sxSet m2.L id { x1 with td := tdV F.sw x1.rd x1.td }) id) = pb (ixf m.L id) := congrArg pb hix0
  have hl3 : ixf (sxSet m2.L id { x1 with td := tdV F.sw x1.rd x1.td }) id < (sxSet m2.L id { x1 with td := tdV F.sw x1.rd x1.td }).length := by rw [hix0, ← hm2i, set_len]; exact hm2l
  have hx3 : sxAt (sxSet m2.L id { x1 with td := tdV F.sw x1.rd x1.td }) id = { x1 with td := tdV F.sw x1.rd x1.td } := sxAt_set (by exact hx1) hm2l
  have s3 : sumS (sxSet m2.L id { x1 with td := tdV F.sw x1.rd x1.td }) = sumS m.L := by rw [sumS_set _ _ _ hm2l, hm2x, s1]; show sumS m.L - x1.sn + x1.sn = _; omega
  have s4 : sumC (sxSet m2.L id { x1 with td := tdV F.sw x1.rd x1.td }) = sumC m.L := by rw [sumC_set _ _ _ hm2l, hm2x, s2]; show sumC m.L - x1.cm + x1.cm = _; omega
  have fin : ∀ W : World, FR W g base F { m2 with L := sxSet m2.L id { x1 with td := tdV F.sw x1.rd x1.td }, tc := tdV F.cw m2.rc m2.tc } (sumS m.L) (sumC m.L) wb ms ml pb → FRep W g base F { m2 with L := sxSet m2.L id { x1 with td := tdV F.sw x1.rd x1.td }, tc := tdV F.cw m2.rc m2.tc } := fun W hW => ⟨wb, ms, ml, pb, by
    show FR W g base F _ (sumS (sxSet m2.L id _)) (sumC (sxSet m2.L id _)) wb ms ml pb
    rw [s3, s4]; exact hW⟩
  have et1 : tdV F.sw ((sxAt m.L id).rd + n) (sxAt m.L id).td = tdV F.sw x1.rd x1.td := by rw [hrd1, htd1]
  have et2 : tdV F.cw (m.rc + n) m.tc = tdV F.cw m2.rc m2.tc := by rw [hrc1, htc1]
  rw [et1, et2]
  obtain ⟨L3, eL3⟩ : ∃ x, x = sxSet m2.L id { x1 with td := tdV F.sw x1.rd x1.td } := ⟨_, rfl⟩
  rw [← eL3] at R1 R2 fin hix3 hl3 hx3 ⊢
  obtain ⟨t1, eT1⟩ : ∃ x, x = tdV F.sw x1.rd x1.td := ⟨_, rfl⟩
  rw [← eT1] at hx3 ⊢
  obtain ⟨t2, eT2⟩ : ∃ x, x = tdV F.cw m2.rc m2.tc := ⟨_, rfl⟩
  have HL : Hid _ := And.intro CG (And.intro FQ (And.intro R1 (And.intro R2 (And.intro fin (And.intro hix3 (And.intro hl3 (And.intro hx3 hbase)))))))
  rw [← eT2] at HL ⊢
  clear CG FQ R1 R2 fin hix0 hix3 hl3 hx3 e E ei hI hF hF2 ex1 em2 hx1 hm2l hm2i hm2x hrd1 htd1 hrc1 htc1 ht0 htc0 hsc0 hcm0 s1 s2 s3 s4 eA eB eB' et1 et2 eL3 eT1 eT2 ha hb P cg hbase
  obtain ⟨p, ep⟩ : ∃ x, x = pb (ixf m.L id) := ⟨_, rfl⟩
  obtain ⟨cm, ecm⟩ : ∃ x, x = (sxAt m.L id).cm := ⟨_, rfl⟩
  obtain ⟨rd, erd⟩ : ∃ x, x = (sxAt m.L id).rd := ⟨_, rfl⟩
  obtain ⟨rc, erc⟩ : ∃ x, x = m.rc := ⟨_, rfl⟩
  rw [← ep] at LK a3 a4 f4 hpw hpg
  rw [← ecm] at a3 hrd hy
  rw [← erd] at a4 hrd hy
  rw [← erc] at b4 hrc
  have hyd : decide (cm - rd < n) = false := decide_eq_false hy
  have hxd : decide (n < 1) = false := decide_eq_false hx
  have hn2 : n ≤ 16384 * 402 := by omega
  rw [← ep, ← erd, ← erc] at HL
  clear ep ecm erd erc
  go_enter Try.func39, Try.ntmps39
  go_wp2_with (first | (go_at_call 56; refine HL.out.1.mono ?_; rintro e wg ⟨rfl, hwg⟩; subst hwg))
  go_quiet (fail)
  go_wp2_with fail
  go_at_call 57
  refine (HL.out.2.2.1 _ (HL.out.2.1 nq).1).mono ?_
  rintro e w5 ⟨rfl, P5, C5⟩
  have K5 := (HL.out.2.1 nq).2.trans C5
  have d9 : w5.cell? ⟨g, 9, none⟩ = some (.pointer (some ⟨wb, 0, none⟩)) := P5.cell 9
  have d5 : w5.cell? ⟨p, 5, none⟩ = some (.int .i64 t1) := by
    have z : w5.cell? ⟨pb (ixf L3 id), 5, none⟩ = (acells F (sxAt L3 id))[5]? := P5.acell HL.out.2.2.2.2.2.2.1 5
    rw [HL.out.2.2.2.2.2.2.2.1, HL.out.2.2.2.2.2.1] at z
    exact z
  have H5 : Hid _ := And.intro P5 K5
  clear P5 C5 K5
  go_wp2_with (first
   | (at_builtin; refine wpList_append_flat rfl (.tmp 56) (.tmp 63) 33 38 Try.underlying33 _ 8 112 infoFrC rfl (by decide) (by decide) rfl wg.heap.size (.slice none 0 0) (([] : List (Int × Int × Int)).map frC) (frC_flat _) rfl (frames_nil _ _) _ [frC (17, id, t1)] (frC_flat [(17, id, t1)]) rfl (lit_flat w5 (frC (17, id, t1)) 38) (by simp) (by have := H5.out.2.size; simp; omega) ?_; intro v6 w6 o6 g6
      have H6 : Hid _ := And.intro o6 g6
      have B6 : Below w5.heap.size w5 (w5.alloc (.cells (frC (17, id, t1)).toArray 38)) := (Below.refl _ _).alloc (Nat.le_refl _) _
      have P6 := (H5.out.1.below B6).grown (frames_nil _ wg.heap.size) H6.out.2
      have K6 : FCh base wg w6 := (H5.out.2.trans (ChT.of_below B6)).grownN H6.out.2 (fun k hk => by cases hk)
      have F6 : GOwns 38 8 w6 wg.heap.size v6 ([(17, id, t1)].map frC) := H6.out.1
      have d9' : w6.cell? ⟨g, 9, none⟩ = some (.pointer (some ⟨wb, 0, none⟩)) := P6.cell 9
      obtain ⟨fa, fn, fc, ef, efn⟩ := slice_form F6
      have H7 : Hid _ := And.intro P6 (And.intro K6 F6)
      have HEF : Hid _ := efn
      clear o6 g6 P6 K6 F6 B6 H6 efn d9 d5
      subst ef)
   | (go_at_call 57; refine (HL.out.2.2.2.1 _ H7.out.1).mono ?_; rintro e w8 ⟨rfl, P8, C8⟩; have K8 := (H7.out.2.1).trans C8; have e9 : w8.cell? ⟨g, 9, none⟩ = some (.pointer (some ⟨wb, 0, none⟩)) := P8.cell 9; have e5 : w8.cell? ⟨wb, 5, none⟩ = some (.int .i64 t2) := P8.wcell 5; have F8 : GOwns 38 8 w8 wg.heap.size (.slice fa fn fc) ([(17, id, t1)].map frC) := GOwns.ch C8 H7.out.2.2 (by decide); have H8 : Hid _ := And.intro P8 (And.intro K8 F8); clear P8 C8 K8 F8)
   | (at_builtin; refine wpList_append_flat rfl (.tmp 70) (.tmp 79) 33 38 Try.underlying33 _ 8 112 infoFrC rfl (by decide) (by decide) rfl wg.heap.size (.slice fa fn fc) (([(17, id, t1)] : List (Int × Int × Int)).map frC) (frC_flat _) rfl (H8.out.2.2.below ((Below.refl _ _).alloc (Nat.le_refl _) _)) _ [frC (16, t2, 0)] (frC_flat [(16, t2, 0)]) rfl (lit_flat w8 (frC (16, t2, 0)) 38) (by simp) (by have := H8.out.2.1.size; simp; omega) ?_; intro v9 w9 o9 g9; have H9 : Hid _ := And.intro o9 g9; clear o9 g9))
  go_ret2
  have B9 : Below w8.heap.size w8 (w8.alloc (.cells (frC (16, t2, 0)).toArray 38)) := (Below.refl _ _).alloc (Nat.le_refl _) _
  have F9 := H8.out.2.2.below B9
  exact ⟨_, rfl, H9.out.1, HL.out.2.2.2.2.1 _ ((H8.out.1.below B9).grown F9 H9.out.2), (H8.out.2.1.trans (ChT.of_below B9)).grownN H9.out.2 (gown_lo F9)⟩
theorem readI (g base : Nat) (F : FS) (hF : fsOK F = true) (m : FX) (i : Nat) (id n : Int) (w : World) (h : FRep w g base F m) (hI : FXI F i m) (hi : i ≤ 400) (hbase : base ≤ w.heap.size) (hw : (Lit.int .i64 id).wf = true) :
    Calls Try.prog 39 #[.pointer (some ⟨g, 0, none⟩), .int .i64 id, .int .i64 n] w fun e w' => ∃ fv, e = .returned (.tuple #[fv, .int .i64 (fread F m id n).2.code]) ∧ GOwns 38 8 w' w.heap.size fv ((fread F m id n).2.fr.map frC) ∧ FDo w w' g base F (fread F m id n).1 := by
  by_cases cg : canG F m.L id
  · by_cases hx : n < 1
    · exact read_lo g base F hF m i id n w h hI hi hbase hw cg hx
    by_cases hy : (sxAt m.L id).cm - (sxAt m.L id).rd < n
    · exact read_hi g base F hF m i id n w h hI hi hbase hw cg hx hy
    by_cases ha : tdV F.sw ((sxAt m.L id).rd + n) (sxAt m.L id).td = (sxAt m.L id).td <;> by_cases hb : tdV F.cw (m.rc + n) m.tc = m.tc
    · exact read_nn g base F hF m i id n w h hI hi hbase hw cg hx hy ha hb
    · exact read_ny g base F hF m i id n w h hI hi hbase hw cg hx hy ha hb
    · exact read_yn g base F hF m i id n w h hI hi hbase hw cg hx hy ha hb
    · exact read_yy g base F hF m i id n w h hI hi hbase hw cg hx hy ha hb
  · exact read_no g base F hF m i id n w h hI hi hbase hw cg
end Go.Proofs.Ythjakbpcpfmbjaa

namespace Go.Proofs.Ythjakbpcpfmbjaa
open Go.RowKit
set_option linter.unusedVariables false
set_option linter.unusedSimpArgs false

theorem sxAt_oth {L : List SX} {id id' : Int} {x : SX} (hx : x.id = id) (hne : ixf L id' ≠ ixf L id) : sxAt (sxSet L id x) id' = sxAt L id' := by
  unfold sxAt
  rw [set_ixf L id id' x hx]
  simp [sxSet, List.getD, List.getElem?_set_ne (Ne.symm hne)]
/-- A stream is over. -/
theorem FR.over {w w' : World} {g base : Nat} {F : FS} {m : FX} {ss sc : Int} {wb ms ml : Nat} {pb : Nat → Nat} (h : FR w g base F m ss sc wb ms ml pb) (id : Int) (hl : lasts F m.L id) (p : PM w' ml m.L.length (updI (mL F m.L pb) id none)) (t : w.mapTurned w' ml) :
    FR w' g base F { m with L := sxSet m.L id { sxAt m.L id with ov := true } } ss sc wb ms ml pb := by
  obtain ⟨n1, n2, n3, n4, n5, n6⟩ := h.ng
  have hx : (sxAt m.L id).id = id := (ixf_some hl.1).1
  have el := set_len m.L id { sxAt m.L id with ov := true }
  have ids := set_ids m.L id { sxAt m.L id with ov := true } hx
  have z : ∀ {k : Nat} {o : Obj}, w.heap[k]? = some o → k ≠ ml → w'.heap[k]? = some o := fun {k o} e e2 => (turned_other t e2).trans e
  refine ⟨z h.bk n3, z h.wk n5, fun j hj => ?_, ?_, ?_, h.lo, ?_, ?_, ?_, h.ne⟩
  · replace hj : j < (sxSet m.L id { sxAt m.L id with ov := true }).length := hj
    rw [el] at hj
    show _ = some (Obj.cells (acells F ((sxSet m.L id { sxAt m.L id with ov := true }).getD j default)) _ _)
    refine (z (h.ak j hj) (n6 j hj).2.2).trans ?_
    by_cases e : j = ixf m.L id
    · subst e
      have e1 : m.L.getD (ixf m.L id) default = sxAt m.L id := rfl
      rw [e1]
      have e2 : (sxSet m.L id { sxAt m.L id with ov := true }).getD (ixf m.L id) default = { sxAt m.L id with ov := true } := by simp [sxSet, List.getD, hl.1]
      rw [e2]; rfl
    · have e2 : (sxSet m.L id { sxAt m.L id with ov := true }).getD j default = m.L.getD j default := by simp [sxSet, List.getD, List.getElem?_set_ne (Ne.symm e)]
      rw [e2]
  · show ∀ a b, a < (sxSet m.L id _).length → b < (sxSet m.L id _).length → _
    rw [el]; exact h.inj
  · show ∀ a, a < (sxSet m.L id _).length → _
    rw [el]; exact h.nw
  · show ∀ a, a < (sxSet m.L id _).length → _
    rw [el]; exact h.lp
  · show PM _ ms (sxSet m.L id _).length (mS (sxSet m.L id _) pb)
    rw [el]
    refine (h.sm.same (turned_other t h.ne)).congr fun id' _ => ?_
    unfold mS
    rw [el, ixf_ids ids]
  · show PM _ ml (sxSet m.L id _).length (mL F (sxSet m.L id _) pb)
    rw [el]
    refine p.congr fun id' _ => ?_
    unfold updI
    by_cases e : id' = id
    · subst e
      rw [if_pos rfl]
      refine mL_neg (fun q => ?_)
      have q3 := q.2.2
      rw [sxAt_set (by exact hx) hl.1] at q3
      cases q3
    · rw [if_neg e]
      have q : lasts F (sxSet m.L id { sxAt m.L id with ov := true }) id' ↔ lasts F m.L id' := lasts_congr el (ixf_ids ids id') fun hl' => by
        have ne : ixf m.L id' ≠ ixf m.L id := fun q => e (by
          have a := (ixf_some hl').1
          have b : sxAt m.L id' = sxAt m.L id := by unfold sxAt; rw [q]
          rw [← a, b]; exact hx)
        rw [sxAt_oth (by exact hx) ne]
      by_cases c : lasts F m.L id'
      · rw [mL_pos c, mL_pos (q.2 c), ixf_ids ids]
      · rw [mL_neg c, mL_neg (fun z => c (q.1 z))]
theorem way_bits {id : Int} (h0 : 0 ≤ id) (h1 : id < 4611686018427387904) : (bits .and .i64 id 2).tdiv 2 = if ptO id then 1 else 0 := by
  rw [andI2 id h0 (by omega)]
  have hn : ¬ (id < 0 ∨ 4611686018427387904 ≤ id) := by omega
  simp only [ptO, if_neg hn]
  rcases (show id / 2 % 2 = 0 ∨ id / 2 % 2 = 1 by omega) with a | a <;> rw [a] <;> rfl
set_option maxRecDepth 20000 in
set_option maxHeartbeats 4000000 in
theorem endI (g base : Nat) (F : FS) (m : FX) (i : Nat) (id : Int) (w : World) (h : FRep w g base F m) (hI : FXI F i m) (hi : i ≤ 400) (hbase : base ≤ w.heap.size) (hw : (Lit.int .i64 id).wf = true) :
    Calls Try.prog 40 #[.pointer (some ⟨g, 0, none⟩), .int .i64 id] w fun e w' => ∃ fv, e = .returned (.tuple #[fv, .int .i64 (fend F m id).2.code]) ∧ GOwns 38 8 w' w.heap.size fv ((fend F m id).2.fr.map frC) ∧ FDo w w' g base F (fend F m id).1 := by
  have HR : Hid _ := h
  obtain ⟨wb, ms, ml, pb, P⟩ := h
  have c19 : w.cell? ⟨g, 19, none⟩ = some (.map (some ml)) := P.cell 19
  have LK := P.lm.look hw
  by_cases c : lasts F m.L id
  · rw [mL_pos c] at LK
    simp only [pval] at LK
    have hv := hI.valid hi c.1
    have hb := bN_lt (ptS id) (ptO id)
    have em := pt_bits hv.1 hv.2
    have es := bS_bN (ptS id) (ptO id)
    have eo := bO_bN (ptS id) (ptO id)
    have ew := way_bits hv.1 hv.2
    have hband : 0 ≤ bits .and .i64 id 2 ∧ bits .and .i64 id 2 ≤ 2 := by
      rw [andI2 id hv.1 (by omega)]
      omega
    obtain ⟨b, eb⟩ : ∃ b, b = bN (ptS id) (ptO id) := ⟨_, rfl⟩
    rw [← eb] at hb em es eo
    have hsb : ¬ bS b = F.sv := by rw [es]; exact c.2.1
    obtain ⟨w4, hr4, p4, t4⟩ := P.lm.del hw 0
    have P4 := P.over id c p4 t4
    have C4 : FCh base w w4 := turned_ch t4 P.lo.2.2.2
    obtain ⟨k0, k1⟩ := P4.kc b hb
    obtain ⟨f0, f1⟩ := P4.kfree b
    have et : kT F { m with L := sxSet m.L id { sxAt m.L id with ov := true } } b = m.tin (ptO id) := by rw [kT_neg hsb, eo]
    rw [et] at k1
    have hti := hI.tin (ptO id)
    have hth := hI.th (ptO id)
    have hbi : (b : Int) < 4 := by omega
    have s1 : sumS (sxSet m.L id { sxAt m.L id with ov := true }) = sumS m.L := by rw [sumS_set _ _ _ c.1]; show sumS m.L - (sxAt m.L id).sn + (sxAt m.L id).sn = _; omega
    have s2 : sumC (sxSet m.L id { sxAt m.L id with ov := true }) = sumC m.L := by rw [sumC_set _ _ _ c.1]; show sumC m.L - (sxAt m.L id).cm + (sxAt m.L id).cm = _; omega
    have hs4 : w4.heap.size = w.heap.size := turned_size t4
    have HS := stT_L F { m with L := sxSet m.L id { sxAt m.L id with ov := true } } b (m.tin (ptO id) + 1)
    have P5 := P4.setK (10 + b * 2 + 1) (.int .i64 (m.tin (ptO id) + 1)) (fcells_st F _ wb ms ml b _ hb) HS.1 HS.2.1 HS.2.2.1 HS.2.2.2
    rw [stT_neg hsb, eo] at P5
    have C5 := P4.chK C4 (10 + b * 2 + 1) (.int .i64 (m.tin (ptO id) + 1))
    by_cases a : m.tin (ptO id) = 1152921504606846976
    · have e : fend F m id = ({ m with L := sxSet m.L id { sxAt m.L id with ov := true } }, ⟨0, 0, 0, []⟩) := (if_pos c).trans (if_pos a)
      rw [e]
      have HH : Hid _ := And.intro (show FRep w4 g base F { m with L := sxSet m.L id { sxAt m.L id with ov := true } } from ⟨wb, ms, ml, pb, by show FR _ g base F _ (sumS (sxSet m.L id _)) (sumC (sxSet m.L id _)) wb ms ml pb; rw [s1, s2]; exact P4⟩) C4
      rw [a] at k1
      clear e P P4 C4 P5 C5 HS hI c p4 t4 es eo ew hsb et s1 s2 a eb
      go_enter Try.func40, Try.ntmps40
      go_wp2
      go_ret2
      exact ⟨_, rfl, frames_nil _ _, HH.out.1, HH.out.2⟩
    · have e : fend F m id = ({ m with L := sxSet m.L id { sxAt m.L id with ov := true }, tin := updB m.tin (ptO id) (m.tin (ptO id) + 1) }, ⟨0, 0, 0, [(18, m.tin (ptO id) + 1, if ptO id then 1 else 0)]⟩) := (if_pos c).trans (if_neg a)
      rw [e]
      have HH : Hid _ := And.intro (show FRep (w4.setCell ⟨g, 10 + b * 2 + 1, none⟩ (.int .i64 (m.tin (ptO id) + 1))) g base F { m with L := sxSet m.L id { sxAt m.L id with ov := true }, tin := updB m.tin (ptO id) (m.tin (ptO id) + 1) } from ⟨wb, ms, ml, pb, by show FR _ g base F _ (sumS (sxSet m.L id _)) (sumC (sxSet m.L id _)) wb ms ml pb; rw [s1, s2]; exact P5⟩) C5
      have hs5 : (w4.setCell ⟨g, 10 + b * 2 + 1, none⟩ (.int .i64 (m.tin (ptO id) + 1))).heap.size = w.heap.size := by rw [setCell_sizeT]; exact hs4
      obtain ⟨wv, hwv⟩ : ∃ x : Int, x = id / 2 % 2 := ⟨_, rfl⟩
      have hb2 : bits .and .i64 id 2 = wv * 2 := by rw [andI2 id hv.1 (by omega), hwv]
      have ht2 : (wv * 2).tdiv 2 = wv := Int.mul_tdiv_cancel _ (by decide)
      have hw2 : 0 ≤ wv ∧ wv ≤ 1 := by omega
      rw [hb2, ht2] at ew
      rw [← ew]
      have HZ : Hid _ := And.intro hs5 True.intro
      clear hband hwv
      clear e P P4 C4 P5 C5 HS hI c p4 t4 es eo ew hsb et s1 s2 hs4 hs5 eb
      generalize m.tin (ptO id) = ti at *
      have hti2 : ti ≤ 500 ∧ 0 ≤ ti := by omega
      go_enter Try.func40, Try.ntmps40
      go_wp2
      go_ret2
      have G := GOwns.lit1 38 8 (w4.setCell ⟨g, 10 + b * 2 + 1, none⟩ (.int .i64 (ti + 1))) w.heap.size (frC (18, ti + 1, wv)) rfl (frC_flat [(18, ti + 1, wv)] _ (List.mem_singleton.2 rfl)).2 (by rw [HZ.out.1]; exact Nat.le_refl _)
      rw [setCell_sizeT] at G
      exact ⟨_, rfl, G, HH.out.1.below ((Below.refl _ _).alloc (Nat.le_refl _) _), HH.out.2.alloc _⟩
  · rw [mL_neg c] at LK
    simp only [pval] at LK
    have e : fend F m id = (m, ⟨7, 0, 0, []⟩) := if_neg c
    rw [e]
    clear e P hI
    go_enter Try.func40, Try.ntmps40
    go_wp2
    go_ret2
    exact ⟨_, rfl, frames_nil _ _, FDo.refl HR.out⟩
end Go.Proofs.Ythjakbpcpfmbjaa

namespace Go.Proofs.Ythjakbpcpfmbjaa
open Go.RowKit
set_option linter.unusedVariables false
set_option linter.unusedSimpArgs false

theorem FR.setO {w : World} {g base : Nat} {F : FS} {m : FX} {ss sc : Int} {wb ms ml : Nat} {pb : Nat → Nat} (h : FR w g base F m ss sc wb ms ml pb) {k : Nat} {c : Array Value} {fr : Nat × Nat} (hk : w.heap[k]? = some (.cells c 35 fr)) (i : Nat) (v : Value) : FR (w.setCell ⟨k, i, none⟩ v) g base F m ss sc wb ms ml pb := by
  obtain ⟨e1, c1, b1⟩ := h.sm.isMap
  obtain ⟨e2, c2, b2⟩ := h.lm.isMap
  have z : ∀ {q : Nat} {c' : Array Value} {T : TypeId} {f : Nat × Nat}, w.heap[q]? = some (.cells c' T f) → T ≠ 35 → (w.setCell ⟨k, i, none⟩ v).heap[q]? = some (.cells c' T f) := fun {q c' T f} hq hT => (bk_other (bk_apart hq hk hT) i v).trans hq
  exact ⟨z h.bk (by decide), z h.wk (by decide), fun j hj => z (h.ak j hj) (by decide), h.inj, h.nw, h.lo, h.lp, h.sm.setCell (map_apart hk b1).symm v, h.lm.setCell (map_apart hk b2).symm v, h.ne⟩
theorem own_set_type {T T' : TypeId} {K : Nat} {w : World} {base k i : Nat} {c : Array Value} {fr : Nat × Nat} {u v : Value} {L : List (List Value)} (h : GOwns T K w base v L) (hk : w.heap[k]? = some (.cells c T' fr)) (hT : T ≠ T') : GOwns T K (w.setCell ⟨k, i, none⟩ u) base v L := by
  obtain ⟨zs, ⟨hl, h2⟩, hz⟩ := h
  refine ⟨zs, ⟨hl, ?_⟩, hz⟩
  rcases h2 with h2 | ⟨g', cap, cur, rfl, hg, hh, r⟩
  · exact Or.inl h2
  · exact Or.inr ⟨g', cap, cur, rfl, hg, (bk_other (bk_apart hh hk hT) i u).trans hh, r⟩
/-- Amid an operation: the credit, the two observations, the frames. -/
structure ObX (g base : Nat) (w W : World) (F : FS) (m' : FX) (fv : Value) (fr : List (Int × Int × Int)) (r1 r2 : Array Value) : Prop where
  P : FRep W g base F m'
  C : FCh base w W
  h1 : W.heap[w.heap.size + 1]? = some (.cells r1 35 (0, 0))
  h2 : W.heap[w.heap.size + 2]? = some (.cells r2 35 (0, 0))
  f : GOwns 38 8 W w.heap.size fv (fr.map frC)
theorem ObX.s1 {g base : Nat} {w W : World} {F : FS} {m' : FX} {fv : Value} {fr : List (Int × Int × Int)} {r1 r2 : Array Value} (h : ObX g base w W F m' fv fr r1 r2) (o : Nat) (v : Value) : ObX g base w (W.setCell ⟨w.heap.size + 1, o, none⟩ v) F m' fv fr (r1.setIfInBounds o v) r2 := by
  obtain ⟨wb, ms, ml, pb, P⟩ := h.P
  exact ⟨⟨wb, ms, ml, pb, P.setO h.h1 o v⟩, h.C.setN (by omega) o v, bk_set h.h1 o v, (bk_other (by omega) o v).trans h.h2, own_set_type h.f h.h1 (by decide)⟩
theorem ObX.s2 {g base : Nat} {w W : World} {F : FS} {m' : FX} {fv : Value} {fr : List (Int × Int × Int)} {r1 r2 : Array Value} (h : ObX g base w W F m' fv fr r1 r2) (o : Nat) (v : Value) : ObX g base w (W.setCell ⟨w.heap.size + 2, o, none⟩ v) F m' fv fr r1 (r2.setIfInBounds o v) := by
  obtain ⟨wb, ms, ml, pb, P⟩ := h.P
  exact ⟨⟨wb, ms, ml, pb, P.setO h.h2 o v⟩, h.C.setN (by omega) o v, (bk_other (by omega) o v).trans h.h1, bk_set h.h2 o v, own_set_type h.f h.h2 (by decide)⟩
theorem infoFObs : (Try.prog.info? 35).map (·.size) = some 4 := by kernel_rfl
def runW (w : World) (k id n : Int) (o : Bool) : World := ((w.alloc (.cells #[.int .i64 k, .int .i64 id, .int .i64 n, .bool o] 32)).alloc (.cells #[.int .i64 0, .int .i64 0, .int .i64 0, .slice none 0 0] 35)).alloc (.cells #[.int .i64 1, .int .i64 0, .int .i64 0, .slice none 0 0] 35)
theorem runW_below (w : World) (k id n : Int) (o : Bool) : Below w.heap.size w (runW w k id n o) := (((Below.refl _ _).alloc (Nat.le_refl _) _).alloc (by simp) _).alloc (by simp; omega) _
theorem runW_size (w : World) (k id n : Int) (o : Bool) : (runW w k id n o).heap.size = w.heap.size + 3 := by simp [runW]
theorem runW_bk (w : World) (k id n : Int) (o : Bool) : (runW w k id n o).heap[w.heap.size + 1]? = some (.cells #[.int .i64 0, .int .i64 0, .int .i64 0, .slice none 0 0] 35 (0, 0)) ∧ (runW w k id n o).heap[w.heap.size + 2]? = some (.cells #[.int .i64 1, .int .i64 0, .int .i64 0, .slice none 0 0] 35 (0, 0)) := ⟨(bk_new3 w _ _ _).2.1, (bk_new3 w _ _ _).2.2⟩

set_option maxRecDepth 20000 in
set_option maxHeartbeats 4000000 in
theorem run_1 (g base : Nat) (F : FS) (hF : fsOK F = true) (m : FX) (i : Nat) (k id n : Int) (o : Bool) (w : World) (h : FRep w g base F m) (hI : FXI F i m) (hi : i ≤ 400) (hbase : base ≤ w.heap.size) (hw : (Lit.int .i64 id).wf = true) (hk : k = 1) :
    Calls Try.prog 23 #[.pointer (some ⟨g, 0, none⟩), .agg #[.int .i64 k, .int .i64 id, .int .i64 n, .bool o]] w fun e w' => ∃ fv, e = .returned (.agg #[.int .i64 (fstep F m k id n o).2.code, .int .i64 (fstep F m k id n o).2.id, .int .i64 (fstep F m k id n o).2.cnt, fv]) ∧ GOwns 38 8 w' w.heap.size fv ((fstep F m k id n o).2.fr.map frC) ∧ FDo w w' g base F (fstep F m k id n o).1 := by
  subst hk
  have es : fstep F m 1 id n o = fopen F m o := if_pos rfl
  rw [es]
  have hW := h.below (runW_below w 1 id n o)
  have hb0 : base ≤ (runW w 1 id n o).heap.size := Nat.le_trans hbase (runW_below w 1 id n o).size
  have C0 := openI g base F m i o _ hW hI hi hb0
  obtain ⟨X, eX⟩ : ∃ X, X = fopen F m o := ⟨_, rfl⟩
  have eZ : X.2.cnt = 0 ∧ X.2.fr = [] := by rw [eX]; unfold fopen; split <;> exact ⟨rfl, rfl⟩
  rw [← eX] at C0 ⊢
  have hB := runW_below w 1 id n o
  have hZ := runW_size w 1 id n o
  have hK := runW_bk w 1 id n o
  have HH : Hid _ := And.intro C0 (And.intro hB (And.intro hZ hK))
  unfold runW at HH
  clear h hI hW hb0 C0 hB hZ hK es eX hF hi hbase hw
  obtain ⟨M', O'⟩ := X
  dsimp only at HH ⊢
  obtain ⟨oc, oi, on, ofr⟩ := O'
  dsimp only at HH eZ ⊢
  obtain ⟨rfl, rfl⟩ := eZ
  go_enter Try.func23, Try.ntmps23
  go_wp2_with fail
  go_at_call 36
  refine HH.out.1.mono ?_
  rintro e w2 ⟨rfl, P2, C2⟩
  have G2 : GOwns 38 8 w2 w.heap.size (.slice none 0 0) (([] : List (Int × Int × Int)).map frC) := frames_nil _ _
  have hq1 := C2.bk HH.out.2.2.2.1 (by decide)
  have hq2 := C2.bk HH.out.2.2.2.2 (by decide)
  have a0 : w2.cell? ⟨w.heap.size + 1, 0, none⟩ = some (.int .i64 0) := (bk_cell hq1 0).trans rfl
  have ga0 := bk_free hq1 0
  have a1 : w2.cell? ⟨w.heap.size + 1, 1, none⟩ = some (.int .i64 0) := (bk_cell hq1 1).trans rfl
  have ga1 := bk_free hq1 1
  have a2 : w2.cell? ⟨w.heap.size + 1, 2, none⟩ = some (.int .i64 0) := (bk_cell hq1 2).trans rfl
  have ga2 := bk_free hq1 2
  have a3 : w2.cell? ⟨w.heap.size + 1, 3, none⟩ = some (.slice none 0 0) := (bk_cell hq1 3).trans rfl
  have ga3 := bk_free hq1 3
  have b0 : w2.cell? ⟨w.heap.size + 2, 0, none⟩ = some (.int .i64 1) := (bk_cell hq2 0).trans rfl
  have gb0 := bk_free hq2 0
  have b1 : w2.cell? ⟨w.heap.size + 2, 1, none⟩ = some (.int .i64 0) := (bk_cell hq2 1).trans rfl
  have gb1 := bk_free hq2 1
  have b2 : w2.cell? ⟨w.heap.size + 2, 2, none⟩ = some (.int .i64 0) := (bk_cell hq2 2).trans rfl
  have gb2 := bk_free hq2 2
  have b3 : w2.cell? ⟨w.heap.size + 2, 3, none⟩ = some (.slice none 0 0) := (bk_cell hq2 3).trans rfl
  have gb3 := bk_free hq2 3
  have T0 : ObX g base w w2 F M' (.slice none 0 0) [] _ _ := ⟨P2, (ChT.of_below HH.out.2.1).trans C2, hq1, hq2, G2⟩
  have H2 : Hid _ := And.intro T0 True.intro
  clear P2 C2 hq1 hq2 G2 T0
  go_wp2
  have T := ((((((H2.out.1.s2 1 (.int .i64 oi)).s2 0 (.int .i64 oc)).s1 0 ((.int .i64 oc))).s1 1 ((.int .i64 oi))).s1 2 (.int .i64 0)).s1 3 (.slice none 0 0))
  try simp only [Exit.inBlock, Exit.then]
  refine bodyPost_ret (v := .agg #[(.int .i64 oc), (.int .i64 oi), .int .i64 0, .slice none 0 0]) ?_ rfl ?_
  · exact results_cell_row (t := 35) rfl _ _ (w.heap.size + 1) _ (fr := (0, 0)) _ rfl T.h1 Try.underlying35 rfl infoFObs
  · exact ⟨_, rfl, T.f, T.P, T.C⟩
set_option maxRecDepth 20000 in
set_option maxHeartbeats 4000000 in
theorem run_2 (g base : Nat) (F : FS) (hF : fsOK F = true) (m : FX) (i : Nat) (k id n : Int) (o : Bool) (w : World) (h : FRep w g base F m) (hI : FXI F i m) (hi : i ≤ 400) (hbase : base ≤ w.heap.size) (hw : (Lit.int .i64 id).wf = true) (hk : k = 2) :
    Calls Try.prog 23 #[.pointer (some ⟨g, 0, none⟩), .agg #[.int .i64 k, .int .i64 id, .int .i64 n, .bool o]] w fun e w' => ∃ fv, e = .returned (.agg #[.int .i64 (fstep F m k id n o).2.code, .int .i64 (fstep F m k id n o).2.id, .int .i64 (fstep F m k id n o).2.cnt, fv]) ∧ GOwns 38 8 w' w.heap.size fv ((fstep F m k id n o).2.fr.map frC) ∧ FDo w w' g base F (fstep F m k id n o).1 := by
  subst hk
  have es : fstep F m 2 id n o = fsend F m id n := (if_neg (by decide)).trans (if_pos rfl)
  rw [es]
  have hW := h.below (runW_below w 2 id n o)
  have hb0 : base ≤ (runW w 2 id n o).heap.size := Nat.le_trans hbase (runW_below w 2 id n o).size
  have C0 := sendI g base F m i id n _ hW hI hi hw
  obtain ⟨X, eX⟩ : ∃ X, X = fsend F m id n := ⟨_, rfl⟩
  have eZ : X.2.id = 0 ∧ X.2.fr = [] := by rw [eX]; unfold fsend; split; exact ⟨rfl, rfl⟩; split <;> exact ⟨rfl, rfl⟩
  rw [← eX] at C0 ⊢
  have hB := runW_below w 2 id n o
  have hZ := runW_size w 2 id n o
  have hK := runW_bk w 2 id n o
  have HH : Hid _ := And.intro C0 (And.intro hB (And.intro hZ hK))
  unfold runW at HH
  clear h hI hW hb0 C0 hB hZ hK es eX hF hi hbase hw
  obtain ⟨M', O'⟩ := X
  dsimp only at HH ⊢
  obtain ⟨oc, oi, on, ofr⟩ := O'
  dsimp only at HH eZ ⊢
  obtain ⟨rfl, rfl⟩ := eZ
  go_enter Try.func23, Try.ntmps23
  go_wp2_with fail
  go_at_call 37
  refine HH.out.1.mono ?_
  rintro e w2 ⟨rfl, P2, C2⟩
  have G2 : GOwns 38 8 w2 w.heap.size (.slice none 0 0) (([] : List (Int × Int × Int)).map frC) := frames_nil _ _
  have hq1 := C2.bk HH.out.2.2.2.1 (by decide)
  have hq2 := C2.bk HH.out.2.2.2.2 (by decide)
  have a0 : w2.cell? ⟨w.heap.size + 1, 0, none⟩ = some (.int .i64 0) := (bk_cell hq1 0).trans rfl
  have ga0 := bk_free hq1 0
  have a1 : w2.cell? ⟨w.heap.size + 1, 1, none⟩ = some (.int .i64 0) := (bk_cell hq1 1).trans rfl
  have ga1 := bk_free hq1 1
  have a2 : w2.cell? ⟨w.heap.size + 1, 2, none⟩ = some (.int .i64 0) := (bk_cell hq1 2).trans rfl
  have ga2 := bk_free hq1 2
  have a3 : w2.cell? ⟨w.heap.size + 1, 3, none⟩ = some (.slice none 0 0) := (bk_cell hq1 3).trans rfl
  have ga3 := bk_free hq1 3
  have b0 : w2.cell? ⟨w.heap.size + 2, 0, none⟩ = some (.int .i64 1) := (bk_cell hq2 0).trans rfl
  have gb0 := bk_free hq2 0
  have b1 : w2.cell? ⟨w.heap.size + 2, 1, none⟩ = some (.int .i64 0) := (bk_cell hq2 1).trans rfl
  have gb1 := bk_free hq2 1
  have b2 : w2.cell? ⟨w.heap.size + 2, 2, none⟩ = some (.int .i64 0) := (bk_cell hq2 2).trans rfl
  have gb2 := bk_free hq2 2
  have b3 : w2.cell? ⟨w.heap.size + 2, 3, none⟩ = some (.slice none 0 0) := (bk_cell hq2 3).trans rfl
  have gb3 := bk_free hq2 3
  have T0 : ObX g base w w2 F M' (.slice none 0 0) [] _ _ := ⟨P2, (ChT.of_below HH.out.2.1).trans C2, hq1, hq2, G2⟩
  have H2 : Hid _ := And.intro T0 True.intro
  clear P2 C2 hq1 hq2 G2 T0
  go_wp2
  have T := ((((((H2.out.1.s2 2 (.int .i64 on)).s2 0 (.int .i64 oc)).s1 0 ((.int .i64 oc))).s1 1 (.int .i64 0)).s1 2 ((.int .i64 on))).s1 3 (.slice none 0 0))
  try simp only [Exit.inBlock, Exit.then]
  refine bodyPost_ret (v := .agg #[(.int .i64 oc), .int .i64 0, (.int .i64 on), .slice none 0 0]) ?_ rfl ?_
  · exact results_cell_row (t := 35) rfl _ _ (w.heap.size + 1) _ (fr := (0, 0)) _ rfl T.h1 Try.underlying35 rfl infoFObs
  · exact ⟨_, rfl, T.f, T.P, T.C⟩
set_option maxRecDepth 20000 in
set_option maxHeartbeats 4000000 in
theorem run_3 (g base : Nat) (F : FS) (hF : fsOK F = true) (m : FX) (i : Nat) (k id n : Int) (o : Bool) (w : World) (h : FRep w g base F m) (hI : FXI F i m) (hi : i ≤ 400) (hbase : base ≤ w.heap.size) (hw : (Lit.int .i64 id).wf = true) (hk : k = 3) :
    Calls Try.prog 23 #[.pointer (some ⟨g, 0, none⟩), .agg #[.int .i64 k, .int .i64 id, .int .i64 n, .bool o]] w fun e w' => ∃ fv, e = .returned (.agg #[.int .i64 (fstep F m k id n o).2.code, .int .i64 (fstep F m k id n o).2.id, .int .i64 (fstep F m k id n o).2.cnt, fv]) ∧ GOwns 38 8 w' w.heap.size fv ((fstep F m k id n o).2.fr.map frC) ∧ FDo w w' g base F (fstep F m k id n o).1 := by
  subst hk
  have es : fstep F m 3 id n o = cO (farrive F m id n) := (if_neg (by decide)).trans ((if_neg (by decide)).trans (if_pos rfl))
  rw [es]
  have hW := h.below (runW_below w 3 id n o)
  have hb0 : base ≤ (runW w 3 id n o).heap.size := Nat.le_trans hbase (runW_below w 3 id n o).size
  have C0 := arriveI g base F hF m i id n _ hW hI hi hb0 hw
  obtain ⟨X, eX⟩ : ∃ X, X = farrive F m id n := ⟨_, rfl⟩
  rw [← eX] at C0 ⊢
  have hB := runW_below w 3 id n o
  have hZ := runW_size w 3 id n o
  have hK := runW_bk w 3 id n o
  have HH : Hid _ := And.intro C0 (And.intro hB (And.intro hZ hK))
  unfold runW at HH
  clear h hI hW hb0 C0 hB hZ hK es eX hF hi hbase hw
  obtain ⟨M', c'⟩ := X
  unfold cO
  dsimp only at HH ⊢
  go_enter Try.func23, Try.ntmps23
  go_wp2_with fail
  go_at_call 38
  refine HH.out.1.mono ?_
  rintro e w2 ⟨rfl, P2, C2⟩
  have G2 : GOwns 38 8 w2 w.heap.size (.slice none 0 0) (([] : List (Int × Int × Int)).map frC) := frames_nil _ _
  have hq1 := C2.bk HH.out.2.2.2.1 (by decide)
  have hq2 := C2.bk HH.out.2.2.2.2 (by decide)
  have a0 : w2.cell? ⟨w.heap.size + 1, 0, none⟩ = some (.int .i64 0) := (bk_cell hq1 0).trans rfl
  have ga0 := bk_free hq1 0
  have a1 : w2.cell? ⟨w.heap.size + 1, 1, none⟩ = some (.int .i64 0) := (bk_cell hq1 1).trans rfl
  have ga1 := bk_free hq1 1
  have a2 : w2.cell? ⟨w.heap.size + 1, 2, none⟩ = some (.int .i64 0) := (bk_cell hq1 2).trans rfl
  have ga2 := bk_free hq1 2
  have a3 : w2.cell? ⟨w.heap.size + 1, 3, none⟩ = some (.slice none 0 0) := (bk_cell hq1 3).trans rfl
  have ga3 := bk_free hq1 3
  have b0 : w2.cell? ⟨w.heap.size + 2, 0, none⟩ = some (.int .i64 1) := (bk_cell hq2 0).trans rfl
  have gb0 := bk_free hq2 0
  have b1 : w2.cell? ⟨w.heap.size + 2, 1, none⟩ = some (.int .i64 0) := (bk_cell hq2 1).trans rfl
  have gb1 := bk_free hq2 1
  have b2 : w2.cell? ⟨w.heap.size + 2, 2, none⟩ = some (.int .i64 0) := (bk_cell hq2 2).trans rfl
  have gb2 := bk_free hq2 2
  have b3 : w2.cell? ⟨w.heap.size + 2, 3, none⟩ = some (.slice none 0 0) := (bk_cell hq2 3).trans rfl
  have gb3 := bk_free hq2 3
  have T0 : ObX g base w w2 F M' (.slice none 0 0) [] _ _ := ⟨P2, (ChT.of_below HH.out.2.1).trans C2, hq1, hq2, G2⟩
  have H2 : Hid _ := And.intro T0 True.intro
  clear P2 C2 hq1 hq2 G2 T0
  go_wp2
  have T := (((((H2.out.1.s2 0 (.int .i64 c')).s1 0 ((.int .i64 c'))).s1 1 (.int .i64 0)).s1 2 (.int .i64 0)).s1 3 (.slice none 0 0))
  try simp only [Exit.inBlock, Exit.then]
  refine bodyPost_ret (v := .agg #[(.int .i64 c'), .int .i64 0, .int .i64 0, .slice none 0 0]) ?_ rfl ?_
  · exact results_cell_row (t := 35) rfl _ _ (w.heap.size + 1) _ (fr := (0, 0)) _ rfl T.h1 Try.underlying35 rfl infoFObs
  · exact ⟨_, rfl, T.f, T.P, T.C⟩
set_option maxRecDepth 20000 in
set_option maxHeartbeats 4000000 in
theorem run_4 (g base : Nat) (F : FS) (hF : fsOK F = true) (m : FX) (i : Nat) (k id n : Int) (o : Bool) (w : World) (h : FRep w g base F m) (hI : FXI F i m) (hi : i ≤ 400) (hbase : base ≤ w.heap.size) (hw : (Lit.int .i64 id).wf = true) (hk : k = 4) :
    Calls Try.prog 23 #[.pointer (some ⟨g, 0, none⟩), .agg #[.int .i64 k, .int .i64 id, .int .i64 n, .bool o]] w fun e w' => ∃ fv, e = .returned (.agg #[.int .i64 (fstep F m k id n o).2.code, .int .i64 (fstep F m k id n o).2.id, .int .i64 (fstep F m k id n o).2.cnt, fv]) ∧ GOwns 38 8 w' w.heap.size fv ((fstep F m k id n o).2.fr.map frC) ∧ FDo w w' g base F (fstep F m k id n o).1 := by
  subst hk
  have es : fstep F m 4 id n o = fread F m id n := (if_neg (by decide)).trans ((if_neg (by decide)).trans ((if_neg (by decide)).trans (if_pos rfl)))
  rw [es]
  have hW := h.below (runW_below w 4 id n o)
  have hb0 : base ≤ (runW w 4 id n o).heap.size := Nat.le_trans hbase (runW_below w 4 id n o).size
  have C0 := readI g base F hF m i id n _ hW hI hi hb0 hw
  obtain ⟨X, eX⟩ : ∃ X, X = fread F m id n := ⟨_, rfl⟩
  have eZ : X.2.id = 0 ∧ X.2.cnt = 0 := by rw [eX]; unfold fread; split; split <;> exact ⟨rfl, rfl⟩; exact ⟨rfl, rfl⟩
  rw [← eX] at C0 ⊢
  have hB := runW_below w 4 id n o
  have hZ := runW_size w 4 id n o
  have hK := runW_bk w 4 id n o
  have HH : Hid _ := And.intro C0 (And.intro hB (And.intro hZ hK))
  unfold runW at HH
  clear h hI hW hb0 C0 hB hZ hK es eX hF hi hbase hw
  obtain ⟨M', O'⟩ := X
  dsimp only at HH ⊢
  obtain ⟨oc, oi, on, ofr⟩ := O'
  dsimp only at HH eZ ⊢
  obtain ⟨rfl, rfl⟩ := eZ
  go_enter Try.func23, Try.ntmps23
  go_wp2_with fail
  go_at_call 39
  refine HH.out.1.mono ?_
  rintro e w2 ⟨fv, rfl, G2, P2, C2⟩
  obtain ⟨fa, fn, fc, ef, efn⟩ := slice_form G2
  clear efn
  subst ef
  have G2 := G2.mono (base' := w.heap.size) (by rw [HH.out.2.2.1]; omega)
  have hq1 := C2.bk HH.out.2.2.2.1 (by decide)
  have hq2 := C2.bk HH.out.2.2.2.2 (by decide)
  have a0 : w2.cell? ⟨w.heap.size + 1, 0, none⟩ = some (.int .i64 0) := (bk_cell hq1 0).trans rfl
  have ga0 := bk_free hq1 0
  have a1 : w2.cell? ⟨w.heap.size + 1, 1, none⟩ = some (.int .i64 0) := (bk_cell hq1 1).trans rfl
  have ga1 := bk_free hq1 1
  have a2 : w2.cell? ⟨w.heap.size + 1, 2, none⟩ = some (.int .i64 0) := (bk_cell hq1 2).trans rfl
  have ga2 := bk_free hq1 2
  have a3 : w2.cell? ⟨w.heap.size + 1, 3, none⟩ = some (.slice none 0 0) := (bk_cell hq1 3).trans rfl
  have ga3 := bk_free hq1 3
  have b0 : w2.cell? ⟨w.heap.size + 2, 0, none⟩ = some (.int .i64 1) := (bk_cell hq2 0).trans rfl
  have gb0 := bk_free hq2 0
  have b1 : w2.cell? ⟨w.heap.size + 2, 1, none⟩ = some (.int .i64 0) := (bk_cell hq2 1).trans rfl
  have gb1 := bk_free hq2 1
  have b2 : w2.cell? ⟨w.heap.size + 2, 2, none⟩ = some (.int .i64 0) := (bk_cell hq2 2).trans rfl
  have gb2 := bk_free hq2 2
  have b3 : w2.cell? ⟨w.heap.size + 2, 3, none⟩ = some (.slice none 0 0) := (bk_cell hq2 3).trans rfl
  have gb3 := bk_free hq2 3
  have T0 : ObX g base w w2 F M' (.slice fa fn fc) ofr _ _ := ⟨P2, (ChT.of_below HH.out.2.1).trans C2, hq1, hq2, G2⟩
  have H2 : Hid _ := And.intro T0 True.intro
  clear P2 C2 hq1 hq2 G2 T0
  go_wp2
  have T := ((((((H2.out.1.s2 3 (.slice fa fn fc)).s2 0 (.int .i64 oc)).s1 0 ((.int .i64 oc))).s1 1 (.int .i64 0)).s1 2 (.int .i64 0)).s1 3 ((.slice fa fn fc)))
  try simp only [Exit.inBlock, Exit.then]
  refine bodyPost_ret (v := .agg #[(.int .i64 oc), .int .i64 0, .int .i64 0, (.slice fa fn fc)]) ?_ rfl ?_
  · exact results_cell_row (t := 35) rfl _ _ (w.heap.size + 1) _ (fr := (0, 0)) _ rfl T.h1 Try.underlying35 rfl infoFObs
  · exact ⟨_, rfl, T.f, T.P, T.C⟩
set_option maxRecDepth 20000 in
set_option maxHeartbeats 4000000 in
theorem run_5 (g base : Nat) (F : FS) (hF : fsOK F = true) (m : FX) (i : Nat) (k id n : Int) (o : Bool) (w : World) (h : FRep w g base F m) (hI : FXI F i m) (hi : i ≤ 400) (hbase : base ≤ w.heap.size) (hw : (Lit.int .i64 id).wf = true) (hk : k = 5) :
    Calls Try.prog 23 #[.pointer (some ⟨g, 0, none⟩), .agg #[.int .i64 k, .int .i64 id, .int .i64 n, .bool o]] w fun e w' => ∃ fv, e = .returned (.agg #[.int .i64 (fstep F m k id n o).2.code, .int .i64 (fstep F m k id n o).2.id, .int .i64 (fstep F m k id n o).2.cnt, fv]) ∧ GOwns 38 8 w' w.heap.size fv ((fstep F m k id n o).2.fr.map frC) ∧ FDo w w' g base F (fstep F m k id n o).1 := by
  subst hk
  have es : fstep F m 5 id n o = fend F m id := (if_neg (by decide)).trans ((if_neg (by decide)).trans ((if_neg (by decide)).trans ((if_neg (by decide)).trans (if_pos rfl))))
  rw [es]
  have hW := h.below (runW_below w 5 id n o)
  have hb0 : base ≤ (runW w 5 id n o).heap.size := Nat.le_trans hbase (runW_below w 5 id n o).size
  have C0 := endI g base F m i id _ hW hI hi hb0 hw
  obtain ⟨X, eX⟩ : ∃ X, X = fend F m id := ⟨_, rfl⟩
  have eZ : X.2.id = 0 ∧ X.2.cnt = 0 := by rw [eX]; unfold fend; split; split <;> exact ⟨rfl, rfl⟩; exact ⟨rfl, rfl⟩
  rw [← eX] at C0 ⊢
  have hB := runW_below w 5 id n o
  have hZ := runW_size w 5 id n o
  have hK := runW_bk w 5 id n o
  have HH : Hid _ := And.intro C0 (And.intro hB (And.intro hZ hK))
  unfold runW at HH
  clear h hI hW hb0 C0 hB hZ hK es eX hF hi hbase hw
  obtain ⟨M', O'⟩ := X
  dsimp only at HH ⊢
  obtain ⟨oc, oi, on, ofr⟩ := O'
  dsimp only at HH eZ ⊢
  obtain ⟨rfl, rfl⟩ := eZ
  go_enter Try.func23, Try.ntmps23
  go_wp2_with fail
  go_at_call 40
  refine HH.out.1.mono ?_
  rintro e w2 ⟨fv, rfl, G2, P2, C2⟩
  obtain ⟨fa, fn, fc, ef, efn⟩ := slice_form G2
  clear efn
  subst ef
  have G2 := G2.mono (base' := w.heap.size) (by rw [HH.out.2.2.1]; omega)
  have hq1 := C2.bk HH.out.2.2.2.1 (by decide)
  have hq2 := C2.bk HH.out.2.2.2.2 (by decide)
  have a0 : w2.cell? ⟨w.heap.size + 1, 0, none⟩ = some (.int .i64 0) := (bk_cell hq1 0).trans rfl
  have ga0 := bk_free hq1 0
  have a1 : w2.cell? ⟨w.heap.size + 1, 1, none⟩ = some (.int .i64 0) := (bk_cell hq1 1).trans rfl
  have ga1 := bk_free hq1 1
  have a2 : w2.cell? ⟨w.heap.size + 1, 2, none⟩ = some (.int .i64 0) := (bk_cell hq1 2).trans rfl
  have ga2 := bk_free hq1 2
  have a3 : w2.cell? ⟨w.heap.size + 1, 3, none⟩ = some (.slice none 0 0) := (bk_cell hq1 3).trans rfl
  have ga3 := bk_free hq1 3
  have b0 : w2.cell? ⟨w.heap.size + 2, 0, none⟩ = some (.int .i64 1) := (bk_cell hq2 0).trans rfl
  have gb0 := bk_free hq2 0
  have b1 : w2.cell? ⟨w.heap.size + 2, 1, none⟩ = some (.int .i64 0) := (bk_cell hq2 1).trans rfl
  have gb1 := bk_free hq2 1
  have b2 : w2.cell? ⟨w.heap.size + 2, 2, none⟩ = some (.int .i64 0) := (bk_cell hq2 2).trans rfl
  have gb2 := bk_free hq2 2
  have b3 : w2.cell? ⟨w.heap.size + 2, 3, none⟩ = some (.slice none 0 0) := (bk_cell hq2 3).trans rfl
  have gb3 := bk_free hq2 3
  have T0 : ObX g base w w2 F M' (.slice fa fn fc) ofr _ _ := ⟨P2, (ChT.of_below HH.out.2.1).trans C2, hq1, hq2, G2⟩
  have H2 : Hid _ := And.intro T0 True.intro
  clear P2 C2 hq1 hq2 G2 T0
  go_wp2
  have T := ((((((H2.out.1.s2 3 (.slice fa fn fc)).s2 0 (.int .i64 oc)).s1 0 ((.int .i64 oc))).s1 1 (.int .i64 0)).s1 2 (.int .i64 0)).s1 3 ((.slice fa fn fc)))
  try simp only [Exit.inBlock, Exit.then]
  refine bodyPost_ret (v := .agg #[(.int .i64 oc), .int .i64 0, .int .i64 0, (.slice fa fn fc)]) ?_ rfl ?_
  · exact results_cell_row (t := 35) rfl _ _ (w.heap.size + 1) _ (fr := (0, 0)) _ rfl T.h1 Try.underlying35 rfl infoFObs
  · exact ⟨_, rfl, T.f, T.P, T.C⟩
set_option maxRecDepth 20000 in
set_option maxHeartbeats 4000000 in
theorem run_6 (g base : Nat) (F : FS) (hF : fsOK F = true) (m : FX) (i : Nat) (k id n : Int) (o : Bool) (w : World) (h : FRep w g base F m) (hI : FXI F i m) (hi : i ≤ 400) (hbase : base ≤ w.heap.size) (hw : (Lit.int .i64 id).wf = true) (hk : k = 6) :
    Calls Try.prog 23 #[.pointer (some ⟨g, 0, none⟩), .agg #[.int .i64 k, .int .i64 id, .int .i64 n, .bool o]] w fun e w' => ∃ fv, e = .returned (.agg #[.int .i64 (fstep F m k id n o).2.code, .int .i64 (fstep F m k id n o).2.id, .int .i64 (fstep F m k id n o).2.cnt, fv]) ∧ GOwns 38 8 w' w.heap.size fv ((fstep F m k id n o).2.fr.map frC) ∧ FDo w w' g base F (fstep F m k id n o).1 := by
  subst hk
  have es : fstep F m 6 id n o = cO (fdin m n) := (if_neg (by decide)).trans ((if_neg (by decide)).trans ((if_neg (by decide)).trans ((if_neg (by decide)).trans ((if_neg (by decide)).trans (if_pos rfl)))))
  rw [es]
  have hW := h.below (runW_below w 6 id n o)
  have hb0 : base ≤ (runW w 6 id n o).heap.size := Nat.le_trans hbase (runW_below w 6 id n o).size
  have C0 := dataInI g base F m n _ hW
  obtain ⟨X, eX⟩ : ∃ X, X = fdin m n := ⟨_, rfl⟩
  rw [← eX] at C0 ⊢
  have hB := runW_below w 6 id n o
  have hZ := runW_size w 6 id n o
  have hK := runW_bk w 6 id n o
  have HH : Hid _ := And.intro C0 (And.intro hB (And.intro hZ hK))
  unfold runW at HH
  clear h hI hW hb0 C0 hB hZ hK es eX hF hi hbase hw
  obtain ⟨M', c'⟩ := X
  unfold cO
  dsimp only at HH ⊢
  go_enter Try.func23, Try.ntmps23
  go_wp2_with fail
  go_at_call 41
  refine HH.out.1.mono ?_
  rintro e w2 ⟨rfl, P2, C2⟩
  have G2 : GOwns 38 8 w2 w.heap.size (.slice none 0 0) (([] : List (Int × Int × Int)).map frC) := frames_nil _ _
  have hq1 := C2.bk HH.out.2.2.2.1 (by decide)
  have hq2 := C2.bk HH.out.2.2.2.2 (by decide)
  have a0 : w2.cell? ⟨w.heap.size + 1, 0, none⟩ = some (.int .i64 0) := (bk_cell hq1 0).trans rfl
  have ga0 := bk_free hq1 0
  have a1 : w2.cell? ⟨w.heap.size + 1, 1, none⟩ = some (.int .i64 0) := (bk_cell hq1 1).trans rfl
  have ga1 := bk_free hq1 1
  have a2 : w2.cell? ⟨w.heap.size + 1, 2, none⟩ = some (.int .i64 0) := (bk_cell hq1 2).trans rfl
  have ga2 := bk_free hq1 2
  have a3 : w2.cell? ⟨w.heap.size + 1, 3, none⟩ = some (.slice none 0 0) := (bk_cell hq1 3).trans rfl
  have ga3 := bk_free hq1 3
  have b0 : w2.cell? ⟨w.heap.size + 2, 0, none⟩ = some (.int .i64 1) := (bk_cell hq2 0).trans rfl
  have gb0 := bk_free hq2 0
  have b1 : w2.cell? ⟨w.heap.size + 2, 1, none⟩ = some (.int .i64 0) := (bk_cell hq2 1).trans rfl
  have gb1 := bk_free hq2 1
  have b2 : w2.cell? ⟨w.heap.size + 2, 2, none⟩ = some (.int .i64 0) := (bk_cell hq2 2).trans rfl
  have gb2 := bk_free hq2 2
  have b3 : w2.cell? ⟨w.heap.size + 2, 3, none⟩ = some (.slice none 0 0) := (bk_cell hq2 3).trans rfl
  have gb3 := bk_free hq2 3
  have T0 : ObX g base w w2 F M' (.slice none 0 0) [] _ _ := ⟨P2, (ChT.of_below HH.out.2.1).trans C2, hq1, hq2, G2⟩
  have H2 : Hid _ := And.intro T0 True.intro
  clear P2 C2 hq1 hq2 G2 T0
  go_wp2
  have T := (((((H2.out.1.s2 0 (.int .i64 c')).s1 0 ((.int .i64 c'))).s1 1 (.int .i64 0)).s1 2 (.int .i64 0)).s1 3 (.slice none 0 0))
  try simp only [Exit.inBlock, Exit.then]
  refine bodyPost_ret (v := .agg #[(.int .i64 c'), .int .i64 0, .int .i64 0, .slice none 0 0]) ?_ rfl ?_
  · exact results_cell_row (t := 35) rfl _ _ (w.heap.size + 1) _ (fr := (0, 0)) _ rfl T.h1 Try.underlying35 rfl infoFObs
  · exact ⟨_, rfl, T.f, T.P, T.C⟩
set_option maxRecDepth 20000 in
set_option maxHeartbeats 4000000 in
theorem run_7 (g base : Nat) (F : FS) (hF : fsOK F = true) (m : FX) (i : Nat) (k id n : Int) (o : Bool) (w : World) (h : FRep w g base F m) (hI : FXI F i m) (hi : i ≤ 400) (hbase : base ≤ w.heap.size) (hw : (Lit.int .i64 id).wf = true) (hk : k = 7) :
    Calls Try.prog 23 #[.pointer (some ⟨g, 0, none⟩), .agg #[.int .i64 k, .int .i64 id, .int .i64 n, .bool o]] w fun e w' => ∃ fv, e = .returned (.agg #[.int .i64 (fstep F m k id n o).2.code, .int .i64 (fstep F m k id n o).2.id, .int .i64 (fstep F m k id n o).2.cnt, fv]) ∧ GOwns 38 8 w' w.heap.size fv ((fstep F m k id n o).2.fr.map frC) ∧ FDo w w' g base F (fstep F m k id n o).1 := by
  subst hk
  have es : fstep F m 7 id n o = cO (fsin F m id n) := (if_neg (by decide)).trans ((if_neg (by decide)).trans ((if_neg (by decide)).trans ((if_neg (by decide)).trans ((if_neg (by decide)).trans ((if_neg (by decide)).trans (if_pos rfl))))))
  rw [es]
  have hW := h.below (runW_below w 7 id n o)
  have hb0 : base ≤ (runW w 7 id n o).heap.size := Nat.le_trans hbase (runW_below w 7 id n o).size
  have C0 := streamInI g base F m i id n _ hW hI hi hw
  obtain ⟨X, eX⟩ : ∃ X, X = fsin F m id n := ⟨_, rfl⟩
  rw [← eX] at C0 ⊢
  have hB := runW_below w 7 id n o
  have hZ := runW_size w 7 id n o
  have hK := runW_bk w 7 id n o
  have HH : Hid _ := And.intro C0 (And.intro hB (And.intro hZ hK))
  unfold runW at HH
  clear h hI hW hb0 C0 hB hZ hK es eX hF hi hbase hw
  obtain ⟨M', c'⟩ := X
  unfold cO
  dsimp only at HH ⊢
  go_enter Try.func23, Try.ntmps23
  go_wp2_with fail
  go_at_call 42
  refine HH.out.1.mono ?_
  rintro e w2 ⟨rfl, P2, C2⟩
  have G2 : GOwns 38 8 w2 w.heap.size (.slice none 0 0) (([] : List (Int × Int × Int)).map frC) := frames_nil _ _
  have hq1 := C2.bk HH.out.2.2.2.1 (by decide)
  have hq2 := C2.bk HH.out.2.2.2.2 (by decide)
  have a0 : w2.cell? ⟨w.heap.size + 1, 0, none⟩ = some (.int .i64 0) := (bk_cell hq1 0).trans rfl
  have ga0 := bk_free hq1 0
  have a1 : w2.cell? ⟨w.heap.size + 1, 1, none⟩ = some (.int .i64 0) := (bk_cell hq1 1).trans rfl
  have ga1 := bk_free hq1 1
  have a2 : w2.cell? ⟨w.heap.size + 1, 2, none⟩ = some (.int .i64 0) := (bk_cell hq1 2).trans rfl
  have ga2 := bk_free hq1 2
  have a3 : w2.cell? ⟨w.heap.size + 1, 3, none⟩ = some (.slice none 0 0) := (bk_cell hq1 3).trans rfl
  have ga3 := bk_free hq1 3
  have b0 : w2.cell? ⟨w.heap.size + 2, 0, none⟩ = some (.int .i64 1) := (bk_cell hq2 0).trans rfl
  have gb0 := bk_free hq2 0
  have b1 : w2.cell? ⟨w.heap.size + 2, 1, none⟩ = some (.int .i64 0) := (bk_cell hq2 1).trans rfl
  have gb1 := bk_free hq2 1
  have b2 : w2.cell? ⟨w.heap.size + 2, 2, none⟩ = some (.int .i64 0) := (bk_cell hq2 2).trans rfl
  have gb2 := bk_free hq2 2
  have b3 : w2.cell? ⟨w.heap.size + 2, 3, none⟩ = some (.slice none 0 0) := (bk_cell hq2 3).trans rfl
  have gb3 := bk_free hq2 3
  have T0 : ObX g base w w2 F M' (.slice none 0 0) [] _ _ := ⟨P2, (ChT.of_below HH.out.2.1).trans C2, hq1, hq2, G2⟩
  have H2 : Hid _ := And.intro T0 True.intro
  clear P2 C2 hq1 hq2 G2 T0
  go_wp2
  have T := (((((H2.out.1.s2 0 (.int .i64 c')).s1 0 ((.int .i64 c'))).s1 1 (.int .i64 0)).s1 2 (.int .i64 0)).s1 3 (.slice none 0 0))
  try simp only [Exit.inBlock, Exit.then]
  refine bodyPost_ret (v := .agg #[(.int .i64 c'), .int .i64 0, .int .i64 0, .slice none 0 0]) ?_ rfl ?_
  · exact results_cell_row (t := 35) rfl _ _ (w.heap.size + 1) _ (fr := (0, 0)) _ rfl T.h1 Try.underlying35 rfl infoFObs
  · exact ⟨_, rfl, T.f, T.P, T.C⟩
set_option maxRecDepth 20000 in
set_option maxHeartbeats 4000000 in
theorem run_8 (g base : Nat) (F : FS) (hF : fsOK F = true) (m : FX) (i : Nat) (k id n : Int) (o : Bool) (w : World) (h : FRep w g base F m) (hI : FXI F i m) (hi : i ≤ 400) (hbase : base ≤ w.heap.size) (hw : (Lit.int .i64 id).wf = true) (hk : k = 8) :
    Calls Try.prog 23 #[.pointer (some ⟨g, 0, none⟩), .agg #[.int .i64 k, .int .i64 id, .int .i64 n, .bool o]] w fun e w' => ∃ fv, e = .returned (.agg #[.int .i64 (fstep F m k id n o).2.code, .int .i64 (fstep F m k id n o).2.id, .int .i64 (fstep F m k id n o).2.cnt, fv]) ∧ GOwns 38 8 w' w.heap.size fv ((fstep F m k id n o).2.fr.map frC) ∧ FDo w w' g base F (fstep F m k id n o).1 := by
  subst hk
  have es : fstep F m 8 id n o = cO (fmin m o n) := (if_neg (by decide)).trans ((if_neg (by decide)).trans ((if_neg (by decide)).trans ((if_neg (by decide)).trans ((if_neg (by decide)).trans ((if_neg (by decide)).trans ((if_neg (by decide)).trans (if_pos rfl)))))))
  rw [es]
  have hW := h.below (runW_below w 8 id n o)
  have hb0 : base ≤ (runW w 8 id n o).heap.size := Nat.le_trans hbase (runW_below w 8 id n o).size
  have C0 := streamsInI g base F m o n _ hW
  obtain ⟨X, eX⟩ : ∃ X, X = fmin m o n := ⟨_, rfl⟩
  rw [← eX] at C0 ⊢
  have hB := runW_below w 8 id n o
  have hZ := runW_size w 8 id n o
  have hK := runW_bk w 8 id n o
  have HH : Hid _ := And.intro C0 (And.intro hB (And.intro hZ hK))
  unfold runW at HH
  clear h hI hW hb0 C0 hB hZ hK es eX hF hi hbase hw
  obtain ⟨M', c'⟩ := X
  unfold cO
  dsimp only at HH ⊢
  go_enter Try.func23, Try.ntmps23
  go_wp2_with fail
  go_at_call 43
  refine HH.out.1.mono ?_
  rintro e w2 ⟨rfl, P2, C2⟩
  have G2 : GOwns 38 8 w2 w.heap.size (.slice none 0 0) (([] : List (Int × Int × Int)).map frC) := frames_nil _ _
  have hq1 := C2.bk HH.out.2.2.2.1 (by decide)
  have hq2 := C2.bk HH.out.2.2.2.2 (by decide)
  have a0 : w2.cell? ⟨w.heap.size + 1, 0, none⟩ = some (.int .i64 0) := (bk_cell hq1 0).trans rfl
  have ga0 := bk_free hq1 0
  have a1 : w2.cell? ⟨w.heap.size + 1, 1, none⟩ = some (.int .i64 0) := (bk_cell hq1 1).trans rfl
  have ga1 := bk_free hq1 1
  have a2 : w2.cell? ⟨w.heap.size + 1, 2, none⟩ = some (.int .i64 0) := (bk_cell hq1 2).trans rfl
  have ga2 := bk_free hq1 2
  have a3 : w2.cell? ⟨w.heap.size + 1, 3, none⟩ = some (.slice none 0 0) := (bk_cell hq1 3).trans rfl
  have ga3 := bk_free hq1 3
  have b0 : w2.cell? ⟨w.heap.size + 2, 0, none⟩ = some (.int .i64 1) := (bk_cell hq2 0).trans rfl
  have gb0 := bk_free hq2 0
  have b1 : w2.cell? ⟨w.heap.size + 2, 1, none⟩ = some (.int .i64 0) := (bk_cell hq2 1).trans rfl
  have gb1 := bk_free hq2 1
  have b2 : w2.cell? ⟨w.heap.size + 2, 2, none⟩ = some (.int .i64 0) := (bk_cell hq2 2).trans rfl
  have gb2 := bk_free hq2 2
  have b3 : w2.cell? ⟨w.heap.size + 2, 3, none⟩ = some (.slice none 0 0) := (bk_cell hq2 3).trans rfl
  have gb3 := bk_free hq2 3
  have T0 : ObX g base w w2 F M' (.slice none 0 0) [] _ _ := ⟨P2, (ChT.of_below HH.out.2.1).trans C2, hq1, hq2, G2⟩
  have H2 : Hid _ := And.intro T0 True.intro
  clear P2 C2 hq1 hq2 G2 T0
  go_wp2
  have T := (((((H2.out.1.s2 0 (.int .i64 c')).s1 0 ((.int .i64 c'))).s1 1 (.int .i64 0)).s1 2 (.int .i64 0)).s1 3 (.slice none 0 0))
  try simp only [Exit.inBlock, Exit.then]
  refine bodyPost_ret (v := .agg #[(.int .i64 c'), .int .i64 0, .int .i64 0, .slice none 0 0]) ?_ rfl ?_
  · exact results_cell_row (t := 35) rfl _ _ (w.heap.size + 1) _ (fr := (0, 0)) _ rfl T.h1 Try.underlying35 rfl infoFObs
  · exact ⟨_, rfl, T.f, T.P, T.C⟩
set_option maxRecDepth 20000 in
set_option maxHeartbeats 4000000 in
theorem run_bad (g base : Nat) (F : FS) (hF : fsOK F = true) (m : FX) (i : Nat) (k id n : Int) (o : Bool) (w : World) (h : FRep w g base F m) (hI : FXI F i m) (hi : i ≤ 400) (hbase : base ≤ w.heap.size) (hw : (Lit.int .i64 id).wf = true) (hk : k < 1 ∨ 8 < k) :
    Calls Try.prog 23 #[.pointer (some ⟨g, 0, none⟩), .agg #[.int .i64 k, .int .i64 id, .int .i64 n, .bool o]] w fun e w' => ∃ fv, e = .returned (.agg #[.int .i64 (fstep F m k id n o).2.code, .int .i64 (fstep F m k id n o).2.id, .int .i64 (fstep F m k id n o).2.cnt, fv]) ∧ GOwns 38 8 w' w.heap.size fv ((fstep F m k id n o).2.fr.map frC) ∧ FDo w w' g base F (fstep F m k id n o).1 := by
  have es : fstep F m k id n o = (m, ⟨1, 0, 0, []⟩) := by
    unfold fstep
    rw [if_neg (by omega), if_neg (by omega), if_neg (by omega), if_neg (by omega), if_neg (by omega), if_neg (by omega), if_neg (by omega), if_neg (by omega)]
  rw [es]
  have hB : Below w.heap.size w (((w.alloc (.cells #[.int .i64 k, .int .i64 id, .int .i64 n, .bool o] 32)).alloc (.cells #[.int .i64 1, .int .i64 0, .int .i64 0, .slice none 0 0] 35)).alloc (.cells #[.int .i64 1, .int .i64 0, .int .i64 0, .slice none 0 0] 35)) := (((Below.refl _ _).alloc (Nat.le_refl _) _).alloc (by simp) _).alloc (by simp; omega) _
  have hW := h.below hB
  have hK := (bk_new3 w (.cells #[.int .i64 k, .int .i64 id, .int .i64 n, .bool o] 32) (.cells #[.int .i64 1, .int .i64 0, .int .i64 0, .slice none 0 0] 35) (.cells #[.int .i64 1, .int .i64 0, .int .i64 0, .slice none 0 0] 35)).2
  have T0 : ObX g base w _ F m (.slice none 0 0) [] _ _ := ⟨hW, ChT.of_below hB, hK.1, hK.2, frames_nil _ _⟩
  have HH : Hid _ := And.intro T0 True.intro
  have q1 : ¬ k = 1 := by omega
  have q2 : ¬ k = 2 := by omega
  have q3 : ¬ k = 3 := by omega
  have q4 : ¬ k = 4 := by omega
  have q5 : ¬ k = 5 := by omega
  have q6 : ¬ k = 6 := by omega
  have q7 : ¬ k = 7 := by omega
  have q8 : ¬ k = 8 := by omega
  clear h hI hW hB hK T0 hF hi hbase hw es hk
  go_enter Try.func23, Try.ntmps23
  go_wp2
  have T := HH.out.1
  try simp only [Exit.inBlock, Exit.then]
  refine bodyPost_ret (v := .agg #[.int .i64 1, .int .i64 0, .int .i64 0, .slice none 0 0]) ?_ rfl ?_
  · exact results_cell_row (t := 35) rfl _ _ (w.heap.size + 1) _ (fr := (0, 0)) _ rfl T.h1 Try.underlying35 rfl infoFObs
  · exact ⟨_, rfl, T.f, T.P, T.C⟩
theorem runI (g base : Nat) (F : FS) (hF : fsOK F = true) (m : FX) (i : Nat) (k id n : Int) (o : Bool) (w : World) (h : FRep w g base F m) (hI : FXI F i m) (hi : i ≤ 400) (hbase : base ≤ w.heap.size) (hw : (Lit.int .i64 id).wf = true) :
    Calls Try.prog 23 #[.pointer (some ⟨g, 0, none⟩), .agg #[.int .i64 k, .int .i64 id, .int .i64 n, .bool o]] w fun e w' => ∃ fv, e = .returned (.agg #[.int .i64 (fstep F m k id n o).2.code, .int .i64 (fstep F m k id n o).2.id, .int .i64 (fstep F m k id n o).2.cnt, fv]) ∧ GOwns 38 8 w' w.heap.size fv ((fstep F m k id n o).2.fr.map frC) ∧ FDo w w' g base F (fstep F m k id n o).1 := by
  by_cases hk : k < 1 ∨ 8 < k
  · exact run_bad g base F hF m i k id n o w h hI hi hbase hw hk
  obtain rfl | rfl | rfl | rfl | rfl | rfl | rfl | rfl : k = 1 ∨ k = 2 ∨ k = 3 ∨ k = 4 ∨ k = 5 ∨ k = 6 ∨ k = 7 ∨ k = 8 := by omega
  · exact run_1 g base F hF m i _ id n o w h hI hi hbase hw rfl
  · exact run_2 g base F hF m i _ id n o w h hI hi hbase hw rfl
  · exact run_3 g base F hF m i _ id n o w h hI hi hbase hw rfl
  · exact run_4 g base F hF m i _ id n o w h hI hi hbase hw rfl
  · exact run_5 g base F hF m i _ id n o w h hI hi hbase hw rfl
  · exact run_6 g base F hF m i _ id n o w h hI hi hbase hw rfl
  · exact run_7 g base F hF m i _ id n o w h hI hi hbase hw rfl
  · exact run_8 g base F hF m i _ id n o w h hI hi hbase hw rfl
end Go.Proofs.Ythjakbpcpfmbjaa
