import Derived.Test.YthjakbpcpfmbjaaFuQ
import Derived.Deep.LoopGhost
namespace Go.Proofs.Ythjakbpcpfmbjaa
open Go.RowKit
set_option linter.unusedVariables false
set_option linter.unusedSimpArgs false

theorem mn3f (a b c : Int) (ts : Array TypeId) (t : TypeId) (w : World) : (Builtin.min_ ts t #[.int .i64 a, .int .i64 b, .int .i64 c]).run Try.prog w = .ok (.int .i64 (min (min a b) c)) w := by
  have e : ∀ x y : Int, (if y < x then y else x) = min x y := by
    intro x y
    rw [Int.min_def]
    split <;> split <;> omega
  simp [Builtin.min_, Builtin.min2, e]
theorem FRep.drew {w : World} {g base : Nat} {F : FS} {m : FX} (h : FRep w g base F m) : FRep w.drew g base F m := by
  obtain ⟨wb, ms, ml, pb, h⟩ := h
  exact ⟨wb, ms, ml, pb, h.drewN 1⟩
theorem FRep.drewN {w : World} {g base : Nat} {F : FS} {m : FX} (h : FRep w g base F m) (n : Nat) : FRep (w.drewN n) g base F m := by
  obtain ⟨wb, ms, ml, pb, h⟩ := h
  exact ⟨wb, ms, ml, pb, h.drewN n⟩
theorem FRep.below {w w' : World} {g base : Nat} {F : FS} {m : FX} (h : FRep w g base F m) (hb : Below w.heap.size w w') : FRep w' g base F m := by
  obtain ⟨wb, ms, ml, pb, h⟩ := h
  exact ⟨wb, ms, ml, pb, h.below hb⟩
theorem FXI.sum0 {F : FS} {i : Nat} {m : FX} (h : FXI F i m) : 0 ≤ sumS m.L ∧ 0 ≤ sumC m.L ∧ ∀ s ∈ m.L, s.cm ≤ sumC m.L := by
  have a := one_le_sum SX.sn m.L (fun x hx => (h.each x hx).sn.1)
  have b := one_le_sum SX.cm m.L (fun x hx => by have := (h.each x hx).rd; omega)
  exact ⟨a.1, b.1, b.2⟩
set_option maxRecDepth 20000 in
set_option maxHeartbeats 4000000 in
theorem sendI (g base : Nat) (F : FS) (m : FX) (i : Nat) (id n : Int) (w : World) (h : FRep w g base F m) (hI : FXI F i m) (hi : i ≤ 400) (hw : (Lit.int .i64 id).wf = true) :
    Calls Try.prog 37 #[.pointer (some ⟨g, 0, none⟩), .int .i64 id, .int .i64 n] w fun e w' => e = .returned (.tuple #[.int .i64 (fsend F m id n).2.cnt, .int .i64 (fsend F m id n).2.code]) ∧ FDo w w' g base F (fsend F m id n).1 := by
  have HR : Hid _ := h
  obtain ⟨wb, ms, ml, pb, h⟩ := h
  by_cases a : n < 0
  · have e : fsend F m id n = (m, ⟨1, 0, 0, []⟩) := if_pos a
    rw [e]
    clear e h
    go_enter Try.func37, Try.ntmps37
    go_wp2
    go_ret2
    exact ⟨rfl, FDo.refl HR.out⟩
  have C := canSI g base F m _ _ wb ms ml pb i id w h hI hi hw
  by_cases c : canS F m.L id
  · have e : fsend F m id n = ({ m with L := sxSet m.L id { sxAt m.L id with sn := (sxAt m.L id).sn + cntS m id n } }, ⟨0, 0, cntS m id n, []⟩) := (if_neg a).trans (if_pos c)
    rw [e]
    rw [decide_eq_true c] at C
    have c18 : w.cell? ⟨g, 18, none⟩ = some (.map (some ms)) := h.cell 18
    have c9 : w.cell? ⟨g, 9, none⟩ = some (.pointer (some ⟨wb, 0, none⟩)) := h.cell 9
    have LK := h.sm.look hw
    rw [mS_pos c.1] at LK
    simp only [pval] at LK
    have a1 : w.cell? ⟨pb (ixf m.L id), 1, none⟩ = some (.int .i64 (sxAt m.L id).sn) := h.acell c.1 1
    have a2 : w.cell? ⟨pb (ixf m.L id), 2, none⟩ = some (.int .i64 (sxAt m.L id).cr) := h.acell c.1 2
    have f1 := h.afree c.1 1
    have b1 : w.cell? ⟨wb, 1, none⟩ = some (.int .i64 (sumS m.L)) := h.wcell 1
    have b2 : w.cell? ⟨wb, 2, none⟩ = some (.int .i64 m.cc) := h.wcell 2
    have g1 := h.wfree 1
    have hx := (ixf_some c.1).1
    have hpw := h.nw _ c.1
    obtain ⟨E, -⟩ := hI.at' c.1
    have hs := E.sn
    have hc := E.cr
    have hss := hI.sum0.1
    have hcc := hI.cc
    have hpg := (h.ng.2.2.2.2.2 _ c.1).1
    have hwg := h.ng.1
    obtain ⟨ct, ect⟩ : ∃ ct, ct = cntS m id n := ⟨_, rfl⟩
    have h1 := h.setA id c.1 1 (.int .i64 ((sxAt m.L id).sn + ct)) { sxAt m.L id with sn := (sxAt m.L id).sn + ct } hx rfl rfl
    have ch1 := h.chA (ChT.refl _ _ _) c.1 1 (.int .i64 ((sxAt m.L id).sn + ct))
    have h2 := h1.setW (m' := { m with L := sxSet m.L id { sxAt m.L id with sn := (sxAt m.L id).sn + ct } }) 1 (.int .i64 (sumS m.L + ct)) (ss' := sumS m.L + ct) (sc' := sumC m.L) rfl rfl rfl rfl rfl rfl
    have ch2 := h1.chW ch1 1 (.int .i64 (sumS m.L + ct))
    have s1 : sumS (sxSet m.L id { sxAt m.L id with sn := (sxAt m.L id).sn + ct }) = sumS m.L + ct := by rw [sumS_set _ _ _ c.1]; show sumS m.L - (sxAt m.L id).sn + ((sxAt m.L id).sn + ct) = _; omega
    have s2 : sumC (sxSet m.L id { sxAt m.L id with sn := (sxAt m.L id).sn + ct }) = sumC m.L := by rw [sumC_set _ _ _ c.1]; show sumC m.L - (sxAt m.L id).cm + (sxAt m.L id).cm = _; omega
    have fin : FRep (((w.setCell ⟨pb (ixf m.L id), 1, none⟩ (.int .i64 ((sxAt m.L id).sn + ct)))).setCell ⟨wb, 1, none⟩ (.int .i64 (sumS m.L + ct))) g base F { m with L := sxSet m.L id { sxAt m.L id with sn := (sxAt m.L id).sn + ct } } := ⟨wb, ms, ml, pb, by
      show FR _ g base F _ (sumS (sxSet m.L id _)) (sumC (sxSet m.L id _)) wb ms ml pb
      rw [s1, s2]; exact h2⟩
    rw [← ect]
    unfold cntS at ect
    have M := fun u => mn3f n ((sxAt m.L id).cr - (sxAt m.L id).sn) (m.cc - sumS m.L) #[3, 3, 3] 3 u
    rw [← ect] at M
    have hct : 0 ≤ ct ∧ (sxAt m.L id).sn + ct ≤ (sxAt m.L id).cr ∧ sumS m.L + ct ≤ m.cc := by omega
    have hE : Hid _ := ect
    clear ect
    have HH : Hid _ := And.intro fin (And.intro ch2 C)
    clear e h h1 h2 ch1 ch2 fin C s1 s2 hx hI hi c E
    generalize pb (ixf m.L id) = p at *
    generalize (sxAt m.L id).cr = cr at *
    generalize (sxAt m.L id).sn = sn at *
    generalize sumS m.L = ss at *
    generalize m.cc = cc at *
    go_enter Try.func37, Try.ntmps37
    go_wp2_with (first | (go_at_call 53; refine HH.out.2.2.mono ?_; rintro e w1 ⟨rfl, hw1⟩; subst hw1))
    go_region
    go_wp2
    go_ret2
    exact ⟨rfl, HH.out.1.drew, HH.out.2.1.drew⟩
  · have e : fsend F m id n = (m, ⟨7, 0, 0, []⟩) := (if_neg a).trans (if_neg c)
    rw [e]
    rw [decide_eq_false c] at C
    have HC : Hid _ := And.intro C True.intro
    clear e h C hI hi c
    go_enter Try.func37, Try.ntmps37
    go_wp2_with (first | (go_at_call 53; refine HC.out.1.mono ?_; rintro e w1 ⟨rfl, hw1⟩; subst hw1))
    go_ret2
    exact ⟨rfl, FDo.refl HR.out⟩
end Go.Proofs.Ythjakbpcpfmbjaa
