import Derived.Test.YtcoakpmfappnlaaFuU
namespace Go.Proofs.Ytcoakpmfappnlaa
open Go.RowKit
set_option linter.unusedVariables false
set_option linter.unusedSimpArgs false

theorem set_ixf (L : List SX) (id id' : Int) (x : SX) (hx : x.id = id) : ixf (sxSet L id x) id' = ixf L id' := ixf_ids (set_ids L id x hx) id'
theorem sxAt_set {L : List SX} {id : Int} {x : SX} (hx : x.id = id) (hl : ixf L id < L.length) : sxAt (sxSet L id x) id = x := by
  unfold sxAt
  rw [set_ixf L id id x hx]
  simp [sxSet, List.getD, hl]
theorem sxSet_set {L : List SX} {id : Int} {x y : SX} (hx : x.id = id) : sxSet (sxSet L id x) id y = sxSet L id y := by
  unfold sxSet
  have e : ixf (L.set (ixf L id) x) id = ixf L id := set_ixf L id id x hx
  rw [e]
  simp
theorem renewS (g base : Nat) (F : FS) (hF : fsOK F = true) (M : FX) (ss sc : Int) (wb ms ml : Nat) (pb : Nat → Nat) (id : Int) (w : World) (P : FR w g base F M ss sc wb ms ml pb) (hl : ixf M.L id < M.L.length) (hr : 0 ≤ (sxAt M.L id).rd ∧ (sxAt M.L id).rd ≤ 1099511627776) (ht : 0 ≤ (sxAt M.L id).td ∧ (sxAt M.L id).td ≤ 1099511627776) :
    Calls Try.prog 63 #[.pointer (some ⟨pb (ixf M.L id), 0, none⟩)] w fun e w' => e = .returned (.bool (!decide (tdV F.sw (sxAt M.L id).rd (sxAt M.L id).td = (sxAt M.L id).td))) ∧
      FR w' g base F { M with L := sxSet M.L id { sxAt M.L id with td := tdV F.sw (sxAt M.L id).rd (sxAt M.L id).td } } ss sc wb ms ml pb ∧ FCh base w w' := by
  simp only [fsOK, decide_eq_true_eq] at hF
  refine (renewI (pb (ixf M.L id)) F.sw _ _ _ _ _ w (P.ak _ hl) hr ht (by omega)).mono ?_
  rintro e w' ⟨rfl, q, rfl⟩
  exact ⟨rfl, (P.drewN q).setA id hl 5 _ { sxAt M.L id with td := tdV F.sw (sxAt M.L id).rd (sxAt M.L id).td } (ixf_some hl).1 rfl rfl, (P.drewN q).chA ((ChT.refl _ _ _).drewN q) hl 5 _⟩
theorem renewW (g base : Nat) (F : FS) (hF : fsOK F = true) (M : FX) (ss sc : Int) (wb ms ml : Nat) (pb : Nat → Nat) (w : World) (P : FR w g base F M ss sc wb ms ml pb) (hr : 0 ≤ M.rc ∧ M.rc ≤ 1099511627776) (ht : 0 ≤ M.tc ∧ M.tc ≤ 1099511627776) :
    Calls Try.prog 63 #[.pointer (some ⟨wb, 0, none⟩)] w fun e w' => e = .returned (.bool (!decide (tdV F.cw M.rc M.tc = M.tc))) ∧ FR w' g base F { M with tc := tdV F.cw M.rc M.tc } ss sc wb ms ml pb ∧ FCh base w w' := by
  simp only [fsOK, decide_eq_true_eq] at hF
  refine (renewI wb F.cw _ _ _ _ _ w P.wk hr ht (by omega)).mono ?_
  rintro e w' ⟨rfl, q, rfl⟩
  exact ⟨rfl, (P.drewN q).setW 5 _ rfl rfl rfl rfl rfl rfl, (P.drewN q).chW ((ChT.refl _ _ _).drewN q) 5 _⟩
theorem GOwns.ch {S : TypeId → Bool} {base : Nat} {w w' : World} (hc : ChT S base w w') {T : TypeId} {K b : Nat} {v : Value} {L : List (List Value)} (h : GOwns T K w b v L) (hn : S T = false) : GOwns T K w' b v L := by
  obtain ⟨zs, o, hz⟩ := h
  exact ⟨zs, hc.owns o hn, hz⟩
theorem frames_nil (w : World) (base : Nat) : GOwns 87 8 w base (.slice none 0 0) (([] : List (Int × Int × Int)).map frC) := ⟨[], World.ownsRow_nil _ _ _ _, fun j hj => by simp at hj⟩
/-- A frame is put behind those that are there. -/
theorem frames_app {v' : Value} {w' : World} {base : Nat} {L : List (Int × Int × Int)} (x : Int × Int × Int) (h : GOwns 87 8 w' base v' (L.map frC ++ [frC x])) : GOwns 87 8 w' base v' ((L ++ [x]).map frC) := by
  rw [List.map_append]; exact h
/-- Blocks of frames may be made and grow. -/
theorem FR.grown {w w' : World} {g base : Nat} {F : FS} {m : FX} {ss sc : Int} {wb ms ml : Nat} {pb : Nat → Nat} (h : FR w g base F m ss sc wb ms ml pb) {v : Value} {b K : Nat} {L : List (List Value)} (o : GOwns 87 K w b v L) (hg : w.grownBy w' v.ownBlock) : FR w' g base F m ss sc wb ms ml pb := by
  have hne : ∀ {k : Nat} {c : Array Value} {T : TypeId} {fr : Nat × Nat}, w.heap[k]? = some (.cells c T fr) → T ≠ 87 → some k ≠ v.ownBlock := fun {k c T fr} hk hT e => by
    obtain ⟨zs, ow, _⟩ := o
    rcases ow.2 with ⟨rfl, _⟩ | ⟨g', cap, cur, rfl, _, hh, _⟩
    · cases e
    · obtain rfl : k = g' := Option.some.inj e
      rw [hk] at hh
      have e2 := Option.some.inj hh
      injection e2 with _ e3
      exact hT e3
  have hnm : ∀ {k : Nat} {es : Array MapEntry} {cl : Nat}, w.heap[k]? = some (.map es cl) → some k ≠ v.ownBlock := fun {k es cl} hk e => by
    obtain ⟨zs, ow, _⟩ := o
    rcases ow.2 with ⟨rfl, _⟩ | ⟨g', cap, cur, rfl, _, hh, _⟩
    · cases e
    · obtain rfl : k = g' := Option.some.inj e
      rw [hk] at hh
      cases hh
  have z : ∀ {k : Nat} {c : Array Value} {T : TypeId} {fr : Nat × Nat}, w.heap[k]? = some (.cells c T fr) → T ≠ 87 → w'.heap[k]? = some (.cells c T fr) := fun {k c T fr} hk hT => (hg.block k (Array.getElem?_eq_some_iff.1 hk).1 (hne hk hT)).trans hk
  obtain ⟨e1, c1, b1⟩ := h.sm.isMap
  obtain ⟨e2, c2, b2⟩ := h.lm.isMap
  exact ⟨z h.bk (by decide), z h.wk (by decide), fun j hj => z (h.ak j hj) (by decide), h.inj, h.nw, h.lo, h.lp, h.sm.same (hg.block _ h.sm.lt (hnm b1)), h.lm.same (hg.block _ h.lm.lt (hnm b2)), h.ne⟩
theorem grown_ch {w w' : World} {v : Value} {b K : Nat} {L : List (List Value)} (o : GOwns 87 K w b v L) (hg : w.grownBy w' v.ownBlock) : ChT (fun T => T == 87) b w w' := by
  refine ChT.of_grown hg fun k hk => ?_
  obtain ⟨zs, ow, _⟩ := o
  rcases ow.2 with ⟨rfl, _⟩ | ⟨g', cap, cur, rfl, hb, hh, _⟩
  · cases hk
  · obtain rfl : g' = k := Option.some.inj hk
    exact ⟨hb, fun c T fr e => by
      rw [hh] at e
      have e2 := Option.some.inj e
      injection e2 with _ e3
      rw [← e3]; decide⟩
end Go.Proofs.Ytcoakpmfappnlaa
