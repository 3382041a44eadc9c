import Derived.Test.YthjakbpcpfmbjaaSbX
import Derived.Test.YthjakbpcpfmbjaaDrawNum
import Derived.Test.YthjakbpcpfmbjaaKb_I
import Derived.Test.YthjakbpcpfmbjaaKb_J
import Derived.Laws.Tables
import Derived.OrdersHeld
import Derived.RegionTactic
import Derived.Test.YthjakbpcpfmbjaaMem
import Derived.Test.YthjakbpcpfmbjaaFlApp
import Derived.Deep.LoopGhost
import Derived.Deep.CutRange
import Derived.Deep.CutBlock
namespace Go.Proofs.Ythjakbpcpfmbjaa
open Go.RowKit
set_option linter.unusedVariables false
set_option linter.unusedSimpArgs false

/-- DrawFlowRun: what is drawn, as pure functions. -/
def k15f : List Int := [1, 2, 2, 2, 3, 3, 3, 3, 4, 4, 4, 5, 6, 7, 8]
def w4f : List Int := [0, 1, 16384, 16385]
def o3f : List Int := [-1, 64, 65]
/-- The states amid the setup. -/
def fs1 (xs : List Int) (s : St) : St := nextS xs 2 s
def fs2 (xs : List Int) (s : St) : St := nextS xs 100 (fs1 xs s)
def fs3 (xs : List Int) (s : St) : St := nextS xs 60 (fs2 xs s)
def fs4 (xs : List Int) (s : St) : St := nextS xs 4 (fs3 xs s)
def fs5 (xs : List Int) (s : St) : St := nextS xs 3 (fs4 xs s)
def fs6 (xs : List Int) (s : St) : St := nextS xs 150 (fs5 xs s)
def fs7 (xs : List Int) (s : St) : St := nextS xs 60 (fs6 xs s)
def fs8 (xs : List Int) (s : St) : St := nextS xs 4 (fs7 xs s)
def fs9 (xs : List Int) (s : St) : St := nextS xs 3 (fs8 xs s)
/-- The setup, ahead of its bend. -/
def fsA (xs : List Int) (s : St) : FS := ⟨nextV xs 2 s == 2 - 1, 20 + nextV xs 100 (fs1 xs s), 10 + nextV xs 60 (fs2 xs s), nextV xs 4 (fs3 xs s), nextV xs 3 (fs4 xs s), nextV xs 150 (fs5 xs s), nextV xs 60 (fs6 xs s), nextV xs 4 (fs7 xs s), nextV xs 3 (fs8 xs s)⟩
/-- Its bend. -/
def fsB (xs : List Int) (F : FS) (s : St) : FS × St :=
  if nextV xs 40 s = 0 then ({ F with cw := w4f.getD (nextV xs 4 (nextS xs 40 s)).toNat 0 }, nextS xs 4 (nextS xs 40 s))
  else if nextV xs 40 s = 1 then ({ F with sw := w4f.getD (nextV xs 4 (nextS xs 40 s)).toNat 0 }, nextS xs 4 (nextS xs 40 s))
  else if nextV xs 40 s = 2 then ({ F with tw := o3f.getD (nextV xs 3 (nextS xs 40 s)).toNat 0 }, nextS xs 3 (nextS xs 40 s))
  else if nextV xs 40 s = 3 then ({ F with pc := numV xs (nextS xs 40 s) }, numS xs (nextS xs 40 s))
  else if nextV xs 40 s = 4 then ({ F with ps := numV xs (nextS xs 40 s) }, numS xs (nextS xs 40 s))
  else if nextV xs 40 s = 5 then ({ F with pt := 1152921504606846976 + nextV xs 2 (nextS xs 40 s) }, nextS xs 2 (nextS xs 40 s))
  else (F, nextS xs 40 s)
def fsD (xs : List Int) (s : St) : FS × St := fsB xs (fsA xs s) (fs9 xs s)
/-- An operation, ahead of its bend. -/
def foA (xs : List Int) (s : St) : SFlowOp := ⟨k15f.getD (nextV xs 15 s).toNat 0, nextV xs 12 (nextS xs 15 s), nextV xs 60 (nextS xs 12 (nextS xs 15 s)), nextV xs 3 (nextS xs 60 (nextS xs 12 (nextS xs 15 s))) == 3 - 1⟩
def foS (xs : List Int) (s : St) : St := nextS xs 3 (nextS xs 60 (nextS xs 12 (nextS xs 15 s)))
/-- Its bend. -/
def foB (xs : List Int) (o : SFlowOp) (s : St) : SFlowOp × St :=
  if nextV xs 40 s = 0 then ({ o with f2 := numV xs (nextS xs 40 s) }, numS xs (nextS xs 40 s))
  else if nextV xs 40 s = 1 then ({ o with f1 := numV xs (nextS xs 40 s) }, numS xs (nextS xs 40 s))
  else if nextV xs 40 s = 2 then ({ o with f0 := nextV xs 11 (nextS xs 40 s) - 1 }, nextS xs 11 (nextS xs 40 s))
  else (o, nextS xs 40 s)
def foD (xs : List Int) (s : St) : SFlowOp × St := foB xs (foA xs s) (foS xs s)
def fLp (xs : List Int) (s0 : St) : Nat → List SFlowOp × St
  | 0 => ([], s0)
  | i + 1 => ((fLp xs s0 i).1 ++ [(foD xs (fLp xs s0 i).2).1], (foD xs (fLp xs s0 i).2).2)
theorem fLp_succ (xs : List Int) (s0 : St) (i : Nat) : fLp xs s0 (i + 1) = ((fLp xs s0 i).1 ++ [(foD xs (fLp xs s0 i).2).1], (foD xs (fLp xs s0 i).2).2) := rfl
theorem fLp_len (xs : List Int) (s0 : St) : ∀ i, (fLp xs s0 i).1.length = i
  | 0 => rfl
  | i + 1 => by rw [fLp_succ, List.length_append, fLp_len xs s0 i]; rfl
/-- What DrawFlowRun draws: the setup, the operations. -/
def dfF (xs : List Int) : FS := (fsD xs (stZ xs)).1
def dfN (xs : List Int) : Nat := (nextV xs (szV xs 90 + 1) (fsD xs (stZ xs)).2).toNat + 1
def dfS (xs : List Int) : St := nextS xs (szV xs 90 + 1) (fsD xs (stZ xs)).2
def dfr (xs : List Int) : List SFlowOp := (fLp xs (dfS xs) (dfN xs)).1
theorem dfN_le (xs : List Int) : 1 ≤ dfN xs ∧ dfN xs ≤ 91 := by
  have h0 : 0 ≤ szV xs 90 ∧ szV xs 90 ≤ 90 := by unfold szV; split <;> omega
  have := nextV_bd xs (szV xs 90 + 1) (fsD xs (stZ xs)).2 (by omega)
  unfold dfN
  omega
theorem dfr_len (xs : List Int) : (dfr xs).length = dfN xs := fLp_len _ _ _
theorem wf_of_b {x : Int} (h : i64b x) : (Lit.int .i64 x).wf = true := by
  unfold i64b at h
  simp [Lit.wf, IntKind.min, IntKind.max, IntKind.signed, IntKind.bits]
  omega
theorem foD_wf (xs : List Int) (s : St) : (Lit.int .i64 (foD xs s).1.f1).wf = true := by
  have h12 := nextV_bd xs 12 (nextS xs 15 s) (by decide)
  have hA : (Lit.int .i64 (foA xs s).f1).wf = true := wf_of_b (by unfold i64b; show _ ≤ nextV xs 12 (nextS xs 15 s) ∧ nextV xs 12 (nextS xs 15 s) ≤ _; omega)
  unfold foD foB
  split
  · exact hA
  split
  · exact wf_of_b (numV_bd _ _)
  split
  · exact hA
  · exact hA
theorem fLp_wf (xs : List Int) (s0 : St) : ∀ i, ∀ o ∈ (fLp xs s0 i).1, (Lit.int .i64 o.f1).wf = true
  | 0, o, ho => by cases ho
  | i + 1, o, ho => by
    rw [fLp_succ] at ho
    rcases List.mem_append.1 ho with z | z
    · exact fLp_wf xs s0 i o z
    · obtain rfl : o = (foD xs (fLp xs s0 i).2).1 := by simpa using z
      exact foD_wf _ _
theorem dfr_wf (xs : List Int) (j : Nat) : (Lit.int .i64 ((dfr xs).getD j default).f1).wf = true := by
  by_cases h : j < (dfr xs).length
  · refine fLp_wf xs (dfS xs) (dfN xs) _ ?_
    show (dfr xs).getD j default ∈ dfr xs
    simp [List.getD, h]
  · have e : (dfr xs).getD j default = default := by simp [List.getD, List.getElem?_eq_none (show (dfr xs).length ≤ j by omega)]
    rw [e]; decide
end Go.Proofs.Ythjakbpcpfmbjaa

namespace Go.Proofs.Ythjakbpcpfmbjaa
open Go.RowKit
set_option linter.unusedVariables false
set_option linter.unusedSimpArgs false

theorem infoFSz : (Try.prog.info? 24).map (·.size) = some 9 := by kernel_rfl
/-- Amid the draw of a setup: the source, what stays, the answer's block. -/
structure DSu (W0 : World) (g : Nat) (c : Value) (xs : List Int) (s : St) (p : Int) (w : World) : Prop where
  dz : Dz w g c xs s p
  gr : W0.grownBy w (some g)
  kb : w.heap[W0.heap.size]? = some (.cells #[.bool false, .int .i64 0, .int .i64 0, .int .i64 0, .int .i64 0, .int .i64 0, .int .i64 0, .int .i64 0, .int .i64 0] 24 (0, 0))
theorem grown_trF {a b c : World} {r : Option Nat} (h : a.grownBy b r) (k : b.grownBy c r) : a.grownBy c r :=
  ⟨k.os.trans h.os, k.tape.trans h.tape, k.output.trans h.output, Nat.le_trans h.size k.size, fun i hi hr => (k.block i (Nat.lt_of_lt_of_le hi h.size) hr).trans (h.block i hi hr)⟩
theorem grown_allocF (w : World) (ob : Obj) (r : Option Nat) : w.grownBy (w.alloc ob) r := by
  have h : Below w.heap.size w (w.alloc ob) := (Below.refl _ _).alloc (Nat.le_refl _) _
  exact ⟨h.os, h.tape, h.output, h.size, fun i hi _ => h.block i hi⟩
theorem DSu.next {W0 : World} {g : Nat} {c : Value} {xs : List Int} {s s' : St} {p p' : Int} {w w' : World} (h : DSu W0 g c xs s p w) (d : Dz w' g c xs s' p') (gr : w.grownBy w' (some g)) (hg : g < W0.heap.size) : DSu W0 g c xs s' p' w' :=
  ⟨d, grown_trF h.gr gr, (gr.block _ (Array.getElem?_eq_some_iff.1 h.kb).1 (fun e => by have := Option.some.inj e; omega)).trans h.kb⟩
theorem DSu.fin {W : World} {g : Nat} {c : Value} {xs : List Int} {s : St} {p : Int} {w : World} (h : DSu W g c xs s p w) (hg : g < W.heap.size) (cs : Array Value) :
    (w.setRow W.heap.size cs).heap[W.heap.size]? = some (.cells cs 24 (0, 0)) ∧ Dz (w.setRow W.heap.size cs) g c xs s p ∧ W.grownBy (w.setRow W.heap.size cs) (some g) := by
  have gr : w.grownBy (w.setRow W.heap.size cs) (some W.heap.size) := ⟨rfl, rfl, rfl, by simp [World.setRow], fun k hk hn => setRow_other w W.heap.size k cs (fun e => hn (by rw [e]))⟩
  refine ⟨setRow_heap w W.heap.size _ cs _ _ h.kb, h.dz.grown gr (fun k hk => by have := Option.some.inj hk; omega), ⟨h.gr.os, h.gr.tape, h.gr.output, by rw [setRow_size]; exact h.gr.size, fun i hi hn => (setRow_other w W.heap.size i cs (by omega)).trans (h.gr.block i hi hn)⟩⟩
theorem DSu.set {W : World} {g : Nat} {c : Value} {xs : List Int} {s : St} {p : Int} {w : World} (h : DSu W g c xs s p w) (hg : g < W.heap.size) {k : Nat} (hk : W.heap.size < k) (i : Nat) (v : Value) : DSu W g c xs s p (w.setCell ⟨k, i, none⟩ v) := by
  have gr : w.grownBy (w.setCell ⟨k, i, none⟩ v) (some k) := ⟨rfl, rfl, rfl, by simp [World.setCell], fun j _ hj => Below.heap_setCell _ _ _ _ (fun e => hj (by rw [e]))⟩
  refine ⟨h.dz.grown gr (fun j hj => by have := Option.some.inj hj; omega), ⟨h.gr.os, h.gr.tape, h.gr.output, by rw [setCell_sizeT]; exact h.gr.size, fun j hj hn => (bk_other (by omega) i v).trans (h.gr.block j hj hn)⟩, (bk_other (by omega) i v).trans h.kb⟩
theorem DSu.alloc {W : World} {g : Nat} {c : Value} {xs : List Int} {s : St} {p : Int} {w : World} (h : DSu W g c xs s p w) (ob : Obj) : DSu W g c xs s p (w.alloc ob) :=
  ⟨h.dz.alloc _, grown_trF h.gr (grown_allocF _ _ _), (((Below.refl w.heap.size w).alloc (Nat.le_refl _) ob).block _ (Array.getElem?_eq_some_iff.1 h.kb).1).trans h.kb⟩

set_option maxRecDepth 20000 in
set_option maxHeartbeats 4000000 in
theorem drawSetup (g : Nat) (c : Value) (xs : List Int) (s : St) (p : Int) (W : World) (h : Dz W g c xs s p) (hp : p ≤ 900000) :
    Calls Try.prog 12 #[.pointer (some ⟨g, 0, none⟩)] W fun e w' => e = .returned (fsV (fsD xs s).1) ∧ Dz w' g c xs (fsD xs s).2 (p + 39) ∧ W.grownBy w' (some g) := by
  have hg := h.lt
  have D0 : DSu W g c xs s p (W.alloc (.cells #[.bool false, .int .i64 0, .int .i64 0, .int .i64 0, .int .i64 0, .int .i64 0, .int .i64 0, .int .i64 0, .int .i64 0] 24)) := ⟨h.alloc _, grown_allocF _ _ _, heap_alloc_new _ _⟩
  have H0 : Hid _ := D0
  clear h D0
  go_enter Try.func12, Try.ntmps12
  go_wp2_with fail
  go_at_call 15
  refine (chanceZ g c xs s (p + 0) 2 _ (H0.out.dz.mono (by omega)) (by omega) (by decide) (by decide)).mono ?_
  rintro e w1 ⟨k0, t1, ek0, et1, rfl, dz1, gr1⟩
  have H1 : Hid _ := H0.out.next (s' := fs1 xs s) (by rw [et1] at dz1; exact dz1) gr1 hg
  have K0 : Hid _ := ek0
  clear dz1 gr1 ek0 et1 H0
  go_wp2_with fail
  go_at_call 13
  refine (nextZ g c xs (fs1 xs s) (p + 3) 100 _ (H1.out.dz.mono (by omega)) (by omega) (by decide) (by decide)).mono ?_
  rintro e w2 ⟨k1, t2, ek1, et2, rfl, lo1, hi1, dz2, gr2⟩
  have H2 : Hid _ := H1.out.next (s' := fs2 xs s) (by rw [et2] at dz2; exact dz2) gr2 hg
  have K1 : Hid _ := ek1
  clear dz2 gr2 ek1 et2 H1
  go_wp2_with fail
  go_at_call 13
  refine (nextZ g c xs (fs2 xs s) (p + 6) 60 _ (H2.out.dz.mono (by omega)) (by omega) (by decide) (by decide)).mono ?_
  rintro e w3 ⟨k2, t3, ek2, et3, rfl, lo2, hi2, dz3, gr3⟩
  have H3 : Hid _ := H2.out.next (s' := fs3 xs s) (by rw [et3] at dz3; exact dz3) gr3 hg
  have K2 : Hid _ := ek2
  clear dz3 gr3 ek2 et3 H2
  go_wp2_with fail
  go_at_call 13
  refine (nextZ g c xs (fs3 xs s) (p + 9) 4 _ (H3.out.dz.mono (by omega)) (by omega) (by decide) (by decide)).mono ?_
  rintro e w4 ⟨k3, t4, ek3, et4, rfl, lo3, hi3, dz4, gr4⟩
  have H4 : Hid _ := H3.out.next (s' := fs4 xs s) (by rw [et4] at dz4; exact dz4) gr4 hg
  have K3 : Hid _ := ek3
  clear dz4 gr4 ek3 et4 H3
  go_wp2_with fail
  go_at_call 13
  refine (nextZ g c xs (fs4 xs s) (p + 12) 3 _ (H4.out.dz.mono (by omega)) (by omega) (by decide) (by decide)).mono ?_
  rintro e w5 ⟨k4, t5, ek4, et5, rfl, lo4, hi4, dz5, gr5⟩
  have H5 : Hid _ := H4.out.next (s' := fs5 xs s) (by rw [et5] at dz5; exact dz5) gr5 hg
  have K4 : Hid _ := ek4
  clear dz5 gr5 ek4 et5 H4
  go_wp2_with fail
  go_at_call 13
  refine (nextZ g c xs (fs5 xs s) (p + 15) 150 _ (H5.out.dz.mono (by omega)) (by omega) (by decide) (by decide)).mono ?_
  rintro e w6 ⟨k5, t6, ek5, et6, rfl, lo5, hi5, dz6, gr6⟩
  have H6 : Hid _ := H5.out.next (s' := fs6 xs s) (by rw [et6] at dz6; exact dz6) gr6 hg
  have K5 : Hid _ := ek5
  clear dz6 gr6 ek5 et6 H5
  go_wp2_with fail
  go_at_call 13
  refine (nextZ g c xs (fs6 xs s) (p + 18) 60 _ (H6.out.dz.mono (by omega)) (by omega) (by decide) (by decide)).mono ?_
  rintro e w7 ⟨k6, t7, ek6, et7, rfl, lo6, hi6, dz7, gr7⟩
  have H7 : Hid _ := H6.out.next (s' := fs7 xs s) (by rw [et7] at dz7; exact dz7) gr7 hg
  have K6 : Hid _ := ek6
  clear dz7 gr7 ek6 et7 H6
  go_wp2_with fail
  go_at_call 13
  refine (nextZ g c xs (fs7 xs s) (p + 21) 4 _ (H7.out.dz.mono (by omega)) (by omega) (by decide) (by decide)).mono ?_
  rintro e w8 ⟨k7, t8, ek7, et8, rfl, lo7, hi7, dz8, gr8⟩
  have H8 : Hid _ := H7.out.next (s' := fs8 xs s) (by rw [et8] at dz8; exact dz8) gr8 hg
  have K7 : Hid _ := ek7
  clear dz8 gr8 ek7 et8 H7
  go_wp2_with fail
  go_at_call 13
  refine (nextZ g c xs (fs8 xs s) (p + 24) 3 _ (H8.out.dz.mono (by omega)) (by omega) (by decide) (by decide)).mono ?_
  rintro e w9 ⟨k8, t9, ek8, et9, rfl, lo8, hi8, dz9, gr9⟩
  have H9 : Hid _ := H8.out.next (s' := fs9 xs s) (by rw [et9] at dz9; exact dz9) gr9 hg
  have K8 : Hid _ := ek8
  clear dz9 gr9 ek8 et9 H8
  go_wp2_with fail
  have BX : Below w9.heap.size w9 (w9.alloc (.cells #[.bool k0, .int .i64 (20 + k1), .int .i64 (10 + k2), .int .i64 k3, .int .i64 k4, .int .i64 k5, .int .i64 k6, .int .i64 k7, .int .i64 k8] 24)) := (Below.refl _ _).alloc (Nat.le_refl _) _
  have HA : DSu W g c xs (fs9 xs s) (p + 27) (w9.alloc (.cells #[.bool k0, .int .i64 (20 + k1), .int .i64 (10 + k2), .int .i64 k3, .int .i64 k4, .int .i64 k5, .int .i64 k6, .int .i64 k7, .int .i64 k8] 24)) := ⟨(H9.out.dz.mono (show p + 24 + 3 ≤ p + 27 by omega)).alloc _, grown_trF H9.out.gr (grown_allocF _ _ _), (BX.block _ (Array.getElem?_eq_some_iff.1 H9.out.kb).1).trans H9.out.kb⟩
  have hs9 := H9.out.gr.size
  have hlt9 : W.heap.size < w9.heap.size := (Array.getElem?_eq_some_iff.1 H9.out.kb).1
  go_at_call 13
  refine (nextZ g c xs (fs9 xs s) (p + 27) 40 _ HA.dz (by omega) (by decide) (by decide)).mono ?_
  rintro e w10 ⟨k9, t9, ek9, et9, rfl, lo9, hi9, dz10, gr10⟩
  have KF : w10.heap[w9.heap.size]? = some (.cells #[.bool k0, .int .i64 (20 + k1), .int .i64 (10 + k2), .int .i64 k3, .int .i64 k4, .int .i64 k5, .int .i64 k6, .int .i64 k7, .int .i64 k8] 24 (0, 0)) := (gr10.block _ (by simp) (fun e => by have := Option.some.inj e; omega)).trans (heap_alloc_new w9 _)
  have H10 : Hid _ := And.intro (HA.next (s' := nextS xs 40 (fs9 xs s)) (by rw [et9] at dz10; exact dz10) gr10 hg) KF
  have K9 : Hid _ := ek9
  clear dz10 gr10 ek9 et9 HA BX H9 KF
  by_cases b0 : k9 = 0
  · subst b0
    have eF : fsD xs s = ({ fsA xs s with cw := w4f.getD (nextV xs 4 (nextS xs 40 (fs9 xs s))).toNat 0 }, nextS xs 4 (nextS xs 40 (fs9 xs s))) := by
      unfold fsD fsB
      rw [← K9.out,  if_pos rfl]
    have EF : Hid _ := eF
    clear eF 
    go_wp2_with fail
    have HB10 := H10.out.1.alloc (.cells #[.int .i64 0, .int .i64 1, .int .i64 16384, .int .i64 16385] 3)
    have KF0 : (w10.alloc (.cells #[.int .i64 0, .int .i64 1, .int .i64 16384, .int .i64 16385] 3)).heap[w9.heap.size]? = some (.cells #[.bool k0, .int .i64 (20 + k1), .int .i64 (10 + k2), .int .i64 k3, .int .i64 k4, .int .i64 k5, .int .i64 k6, .int .i64 k7, .int .i64 k8] 24 (0, 0)) := (((Below.refl w10.heap.size w10).alloc (Nat.le_refl _) _).block _ (Array.getElem?_eq_some_iff.1 H10.out.2).1).trans H10.out.2
    have hg10 : g < w10.heap.size := H10.out.1.dz.lt
    go_at_call 13
    refine (nextZ g c xs (nextS xs 40 (fs9 xs s)) (p + 30) 4 _ (HB10.dz.mono (by omega)) (by omega) (by decide) (by decide)).mono ?_
    rintro e w11 ⟨kn, tn, ekn, etn, rfl, lo, hi, dz11, gr11⟩
    have KF := (gr11.block _ (Array.getElem?_eq_some_iff.1 KF0).1 (fun e => by have := Option.some.inj e; omega)).trans KF0
    have KT := (gr11.block w10.heap.size (by simp) (fun e => by have := Option.some.inj e; omega)).trans (heap_alloc_new w10 (.cells #[.int .i64 0, .int .i64 1, .int .i64 16384, .int .i64 16385] 3))
    have D10 := HB10.next (s' := nextS xs 4 (nextS xs 40 (fs9 xs s))) (by rw [etn] at dz11; exact dz11) gr11 hg
    have KN : Hid _ := ekn
    clear dz11 gr11 ekn etn H10 HB10 KF0
    have hk : kn = 0 ∨ kn = 1 ∨ kn = 2 ∨ kn = 3 := by omega
    rcases hk with rfl | rfl | rfl | rfl
    · have D11 := D10.set hg hlt9 1 (.int .i64 0)
      have HK : Hid _ := And.intro D11 (bk_set KF 1 (.int .i64 0))
      have fz := bk_free KF 1
      have cz := bk_cell KF 1
      have ct : w11.cell? ⟨w10.heap.size, 0, none⟩ = some (.int .i64 0) := (bk_cell KT 0).trans rfl
      clear KF D11 D10 KT
      go_wp2_with (first
        | (refine wpList_load_row rfl 24 _ rfl w9.heap.size rfl 24 #[.bool k0, .int .i64 0, .int .i64 (10 + k2), .int .i64 k3, .int .i64 k4, .int .i64 k5, .int .i64 k6, .int .i64 k7, .int .i64 k8] (0, 0) _ HK.out.2 Try.underlying24 rfl infoFSz ?_)
        | (refine wpList_store_row rfl 24 _ _ rfl W.heap.size #[.bool k0, .int .i64 0, .int .i64 (10 + k2), .int .i64 k3, .int .i64 k4, .int .i64 k5, .int .i64 k6, .int .i64 k7, .int .i64 k8] rfl rfl 24 _ HK.out.1.kb infoFSz rfl (by simp [Value.oneCell']) ?_))
      have T := HK.out.1.fin hg #[.bool k0, .int .i64 0, .int .i64 (10 + k2), .int .i64 k3, .int .i64 k4, .int .i64 k5, .int .i64 k6, .int .i64 k7, .int .i64 k8]
      refine bodyPost_ret (v := .agg #[.bool k0, .int .i64 0, .int .i64 (10 + k2), .int .i64 k3, .int .i64 k4, .int .i64 k5, .int .i64 k6, .int .i64 k7, .int .i64 k8]) ?_ rfl ?_
      · exact results_cell_row (t := 24) rfl _ _ (W.heap.size) _ (fr := (0, 0)) _ rfl T.1 Try.underlying24 rfl infoFSz
      · rw [EF.out]
        refine ⟨?_, T.2.1.mono (by omega), T.2.2⟩
        show Ending.returned _ = Ending.returned (fsV { fsA xs s with cw := w4f.getD (nextV xs 4 (nextS xs 40 (fs9 xs s))).toNat 0 })
        unfold fsA fsV
        rw [← KN.out, K0.out, K2.out, K3.out, K4.out, K5.out, K6.out, K7.out, K8.out] <;> rfl
    · have D11 := D10.set hg hlt9 1 (.int .i64 1)
      have HK : Hid _ := And.intro D11 (bk_set KF 1 (.int .i64 1))
      have fz := bk_free KF 1
      have cz := bk_cell KF 1
      have ct : w11.cell? ⟨w10.heap.size, 1, none⟩ = some (.int .i64 1) := (bk_cell KT 1).trans rfl
      clear KF D11 D10 KT
      go_wp2_with (first
        | (refine wpList_load_row rfl 24 _ rfl w9.heap.size rfl 24 #[.bool k0, .int .i64 1, .int .i64 (10 + k2), .int .i64 k3, .int .i64 k4, .int .i64 k5, .int .i64 k6, .int .i64 k7, .int .i64 k8] (0, 0) _ HK.out.2 Try.underlying24 rfl infoFSz ?_)
        | (refine wpList_store_row rfl 24 _ _ rfl W.heap.size #[.bool k0, .int .i64 1, .int .i64 (10 + k2), .int .i64 k3, .int .i64 k4, .int .i64 k5, .int .i64 k6, .int .i64 k7, .int .i64 k8] rfl rfl 24 _ HK.out.1.kb infoFSz rfl (by simp [Value.oneCell']) ?_))
      have T := HK.out.1.fin hg #[.bool k0, .int .i64 1, .int .i64 (10 + k2), .int .i64 k3, .int .i64 k4, .int .i64 k5, .int .i64 k6, .int .i64 k7, .int .i64 k8]
      refine bodyPost_ret (v := .agg #[.bool k0, .int .i64 1, .int .i64 (10 + k2), .int .i64 k3, .int .i64 k4, .int .i64 k5, .int .i64 k6, .int .i64 k7, .int .i64 k8]) ?_ rfl ?_
      · exact results_cell_row (t := 24) rfl _ _ (W.heap.size) _ (fr := (0, 0)) _ rfl T.1 Try.underlying24 rfl infoFSz
      · rw [EF.out]
        refine ⟨?_, T.2.1.mono (by omega), T.2.2⟩
        show Ending.returned _ = Ending.returned (fsV { fsA xs s with cw := w4f.getD (nextV xs 4 (nextS xs 40 (fs9 xs s))).toNat 0 })
        unfold fsA fsV
        rw [← KN.out, K0.out, K2.out, K3.out, K4.out, K5.out, K6.out, K7.out, K8.out] <;> rfl
    · have D11 := D10.set hg hlt9 1 (.int .i64 16384)
      have HK : Hid _ := And.intro D11 (bk_set KF 1 (.int .i64 16384))
      have fz := bk_free KF 1
      have cz := bk_cell KF 1
      have ct : w11.cell? ⟨w10.heap.size, 2, none⟩ = some (.int .i64 16384) := (bk_cell KT 2).trans rfl
      clear KF D11 D10 KT
      go_wp2_with (first
        | (refine wpList_load_row rfl 24 _ rfl w9.heap.size rfl 24 #[.bool k0, .int .i64 16384, .int .i64 (10 + k2), .int .i64 k3, .int .i64 k4, .int .i64 k5, .int .i64 k6, .int .i64 k7, .int .i64 k8] (0, 0) _ HK.out.2 Try.underlying24 rfl infoFSz ?_)
        | (refine wpList_store_row rfl 24 _ _ rfl W.heap.size #[.bool k0, .int .i64 16384, .int .i64 (10 + k2), .int .i64 k3, .int .i64 k4, .int .i64 k5, .int .i64 k6, .int .i64 k7, .int .i64 k8] rfl rfl 24 _ HK.out.1.kb infoFSz rfl (by simp [Value.oneCell']) ?_))
      have T := HK.out.1.fin hg #[.bool k0, .int .i64 16384, .int .i64 (10 + k2), .int .i64 k3, .int .i64 k4, .int .i64 k5, .int .i64 k6, .int .i64 k7, .int .i64 k8]
      refine bodyPost_ret (v := .agg #[.bool k0, .int .i64 16384, .int .i64 (10 + k2), .int .i64 k3, .int .i64 k4, .int .i64 k5, .int .i64 k6, .int .i64 k7, .int .i64 k8]) ?_ rfl ?_
      · exact results_cell_row (t := 24) rfl _ _ (W.heap.size) _ (fr := (0, 0)) _ rfl T.1 Try.underlying24 rfl infoFSz
      · rw [EF.out]
        refine ⟨?_, T.2.1.mono (by omega), T.2.2⟩
        show Ending.returned _ = Ending.returned (fsV { fsA xs s with cw := w4f.getD (nextV xs 4 (nextS xs 40 (fs9 xs s))).toNat 0 })
        unfold fsA fsV
        rw [← KN.out, K0.out, K2.out, K3.out, K4.out, K5.out, K6.out, K7.out, K8.out] <;> rfl
    · have D11 := D10.set hg hlt9 1 (.int .i64 16385)
      have HK : Hid _ := And.intro D11 (bk_set KF 1 (.int .i64 16385))
      have fz := bk_free KF 1
      have cz := bk_cell KF 1
      have ct : w11.cell? ⟨w10.heap.size, 3, none⟩ = some (.int .i64 16385) := (bk_cell KT 3).trans rfl
      clear KF D11 D10 KT
      go_wp2_with (first
        | (refine wpList_load_row rfl 24 _ rfl w9.heap.size rfl 24 #[.bool k0, .int .i64 16385, .int .i64 (10 + k2), .int .i64 k3, .int .i64 k4, .int .i64 k5, .int .i64 k6, .int .i64 k7, .int .i64 k8] (0, 0) _ HK.out.2 Try.underlying24 rfl infoFSz ?_)
        | (refine wpList_store_row rfl 24 _ _ rfl W.heap.size #[.bool k0, .int .i64 16385, .int .i64 (10 + k2), .int .i64 k3, .int .i64 k4, .int .i64 k5, .int .i64 k6, .int .i64 k7, .int .i64 k8] rfl rfl 24 _ HK.out.1.kb infoFSz rfl (by simp [Value.oneCell']) ?_))
      have T := HK.out.1.fin hg #[.bool k0, .int .i64 16385, .int .i64 (10 + k2), .int .i64 k3, .int .i64 k4, .int .i64 k5, .int .i64 k6, .int .i64 k7, .int .i64 k8]
      refine bodyPost_ret (v := .agg #[.bool k0, .int .i64 16385, .int .i64 (10 + k2), .int .i64 k3, .int .i64 k4, .int .i64 k5, .int .i64 k6, .int .i64 k7, .int .i64 k8]) ?_ rfl ?_
      · exact results_cell_row (t := 24) rfl _ _ (W.heap.size) _ (fr := (0, 0)) _ rfl T.1 Try.underlying24 rfl infoFSz
      · rw [EF.out]
        refine ⟨?_, T.2.1.mono (by omega), T.2.2⟩
        show Ending.returned _ = Ending.returned (fsV { fsA xs s with cw := w4f.getD (nextV xs 4 (nextS xs 40 (fs9 xs s))).toNat 0 })
        unfold fsA fsV
        rw [← KN.out, K0.out, K2.out, K3.out, K4.out, K5.out, K6.out, K7.out, K8.out] <;> rfl
  by_cases b1 : k9 = 1
  · subst b1
    have eF : fsD xs s = ({ fsA xs s with sw := w4f.getD (nextV xs 4 (nextS xs 40 (fs9 xs s))).toNat 0 }, nextS xs 4 (nextS xs 40 (fs9 xs s))) := by
      unfold fsD fsB
      rw [← K9.out, if_neg (by decide), if_pos rfl]
    have EF : Hid _ := eF
    clear eF b0
    go_wp2_with fail
    have HB10 := H10.out.1.alloc (.cells #[.int .i64 0, .int .i64 1, .int .i64 16384, .int .i64 16385] 3)
    have KF0 : (w10.alloc (.cells #[.int .i64 0, .int .i64 1, .int .i64 16384, .int .i64 16385] 3)).heap[w9.heap.size]? = some (.cells #[.bool k0, .int .i64 (20 + k1), .int .i64 (10 + k2), .int .i64 k3, .int .i64 k4, .int .i64 k5, .int .i64 k6, .int .i64 k7, .int .i64 k8] 24 (0, 0)) := (((Below.refl w10.heap.size w10).alloc (Nat.le_refl _) _).block _ (Array.getElem?_eq_some_iff.1 H10.out.2).1).trans H10.out.2
    have hg10 : g < w10.heap.size := H10.out.1.dz.lt
    go_at_call 13
    refine (nextZ g c xs (nextS xs 40 (fs9 xs s)) (p + 30) 4 _ (HB10.dz.mono (by omega)) (by omega) (by decide) (by decide)).mono ?_
    rintro e w11 ⟨kn, tn, ekn, etn, rfl, lo, hi, dz11, gr11⟩
    have KF := (gr11.block _ (Array.getElem?_eq_some_iff.1 KF0).1 (fun e => by have := Option.some.inj e; omega)).trans KF0
    have KT := (gr11.block w10.heap.size (by simp) (fun e => by have := Option.some.inj e; omega)).trans (heap_alloc_new w10 (.cells #[.int .i64 0, .int .i64 1, .int .i64 16384, .int .i64 16385] 3))
    have D10 := HB10.next (s' := nextS xs 4 (nextS xs 40 (fs9 xs s))) (by rw [etn] at dz11; exact dz11) gr11 hg
    have KN : Hid _ := ekn
    clear dz11 gr11 ekn etn H10 HB10 KF0
    have hk : kn = 0 ∨ kn = 1 ∨ kn = 2 ∨ kn = 3 := by omega
    rcases hk with rfl | rfl | rfl | rfl
    · have D11 := D10.set hg hlt9 2 (.int .i64 0)
      have HK : Hid _ := And.intro D11 (bk_set KF 2 (.int .i64 0))
      have fz := bk_free KF 2
      have cz := bk_cell KF 2
      have ct : w11.cell? ⟨w10.heap.size, 0, none⟩ = some (.int .i64 0) := (bk_cell KT 0).trans rfl
      clear KF D11 D10 KT
      go_wp2_with (first
        | (refine wpList_load_row rfl 24 _ rfl w9.heap.size rfl 24 #[.bool k0, .int .i64 (20 + k1), .int .i64 0, .int .i64 k3, .int .i64 k4, .int .i64 k5, .int .i64 k6, .int .i64 k7, .int .i64 k8] (0, 0) _ HK.out.2 Try.underlying24 rfl infoFSz ?_)
        | (refine wpList_store_row rfl 24 _ _ rfl W.heap.size #[.bool k0, .int .i64 (20 + k1), .int .i64 0, .int .i64 k3, .int .i64 k4, .int .i64 k5, .int .i64 k6, .int .i64 k7, .int .i64 k8] rfl rfl 24 _ HK.out.1.kb infoFSz rfl (by simp [Value.oneCell']) ?_))
      have T := HK.out.1.fin hg #[.bool k0, .int .i64 (20 + k1), .int .i64 0, .int .i64 k3, .int .i64 k4, .int .i64 k5, .int .i64 k6, .int .i64 k7, .int .i64 k8]
      refine bodyPost_ret (v := .agg #[.bool k0, .int .i64 (20 + k1), .int .i64 0, .int .i64 k3, .int .i64 k4, .int .i64 k5, .int .i64 k6, .int .i64 k7, .int .i64 k8]) ?_ rfl ?_
      · exact results_cell_row (t := 24) rfl _ _ (W.heap.size) _ (fr := (0, 0)) _ rfl T.1 Try.underlying24 rfl infoFSz
      · rw [EF.out]
        refine ⟨?_, T.2.1.mono (by omega), T.2.2⟩
        show Ending.returned _ = Ending.returned (fsV { fsA xs s with sw := w4f.getD (nextV xs 4 (nextS xs 40 (fs9 xs s))).toNat 0 })
        unfold fsA fsV
        rw [← KN.out, K0.out, K1.out, K3.out, K4.out, K5.out, K6.out, K7.out, K8.out] <;> rfl
    · have D11 := D10.set hg hlt9 2 (.int .i64 1)
      have HK : Hid _ := And.intro D11 (bk_set KF 2 (.int .i64 1))
      have fz := bk_free KF 2
      have cz := bk_cell KF 2
      have ct : w11.cell? ⟨w10.heap.size, 1, none⟩ = some (.int .i64 1) := (bk_cell KT 1).trans rfl
      clear KF D11 D10 KT
      go_wp2_with (first
        | (refine wpList_load_row rfl 24 _ rfl w9.heap.size rfl 24 #[.bool k0, .int .i64 (20 + k1), .int .i64 1, .int .i64 k3, .int .i64 k4, .int .i64 k5, .int .i64 k6, .int .i64 k7, .int .i64 k8] (0, 0) _ HK.out.2 Try.underlying24 rfl infoFSz ?_)
        | (refine wpList_store_row rfl 24 _ _ rfl W.heap.size #[.bool k0, .int .i64 (20 + k1), .int .i64 1, .int .i64 k3, .int .i64 k4, .int .i64 k5, .int .i64 k6, .int .i64 k7, .int .i64 k8] rfl rfl 24 _ HK.out.1.kb infoFSz rfl (by simp [Value.oneCell']) ?_))
      have T := HK.out.1.fin hg #[.bool k0, .int .i64 (20 + k1), .int .i64 1, .int .i64 k3, .int .i64 k4, .int .i64 k5, .int .i64 k6, .int .i64 k7, .int .i64 k8]
      refine bodyPost_ret (v := .agg #[.bool k0, .int .i64 (20 + k1), .int .i64 1, .int .i64 k3, .int .i64 k4, .int .i64 k5, .int .i64 k6, .int .i64 k7, .int .i64 k8]) ?_ rfl ?_
      · exact results_cell_row (t := 24) rfl _ _ (W.heap.size) _ (fr := (0, 0)) _ rfl T.1 Try.underlying24 rfl infoFSz
      · rw [EF.out]
        refine ⟨?_, T.2.1.mono (by omega), T.2.2⟩
        show Ending.returned _ = Ending.returned (fsV { fsA xs s with sw := w4f.getD (nextV xs 4 (nextS xs 40 (fs9 xs s))).toNat 0 })
        unfold fsA fsV
        rw [← KN.out, K0.out, K1.out, K3.out, K4.out, K5.out, K6.out, K7.out, K8.out] <;> rfl
    · have D11 := D10.set hg hlt9 2 (.int .i64 16384)
      have HK : Hid _ := And.intro D11 (bk_set KF 2 (.int .i64 16384))
      have fz := bk_free KF 2
      have cz := bk_cell KF 2
      have ct : w11.cell? ⟨w10.heap.size, 2, none⟩ = some (.int .i64 16384) := (bk_cell KT 2).trans rfl
      clear KF D11 D10 KT
      go_wp2_with (first
        | (refine wpList_load_row rfl 24 _ rfl w9.heap.size rfl 24 #[.bool k0, .int .i64 (20 + k1), .int .i64 16384, .int .i64 k3, .int .i64 k4, .int .i64 k5, .int .i64 k6, .int .i64 k7, .int .i64 k8] (0, 0) _ HK.out.2 Try.underlying24 rfl infoFSz ?_)
        | (refine wpList_store_row rfl 24 _ _ rfl W.heap.size #[.bool k0, .int .i64 (20 + k1), .int .i64 16384, .int .i64 k3, .int .i64 k4, .int .i64 k5, .int .i64 k6, .int .i64 k7, .int .i64 k8] rfl rfl 24 _ HK.out.1.kb infoFSz rfl (by simp [Value.oneCell']) ?_))
      have T := HK.out.1.fin hg #[.bool k0, .int .i64 (20 + k1), .int .i64 16384, .int .i64 k3, .int .i64 k4, .int .i64 k5, .int .i64 k6, .int .i64 k7, .int .i64 k8]
      refine bodyPost_ret (v := .agg #[.bool k0, .int .i64 (20 + k1), .int .i64 16384, .int .i64 k3, .int .i64 k4, .int .i64 k5, .int .i64 k6, .int .i64 k7, .int .i64 k8]) ?_ rfl ?_
      · exact results_cell_row (t := 24) rfl _ _ (W.heap.size) _ (fr := (0, 0)) _ rfl T.1 Try.underlying24 rfl infoFSz
      · rw [EF.out]
        refine ⟨?_, T.2.1.mono (by omega), T.2.2⟩
        show Ending.returned _ = Ending.returned (fsV { fsA xs s with sw := w4f.getD (nextV xs 4 (nextS xs 40 (fs9 xs s))).toNat 0 })
        unfold fsA fsV
        rw [← KN.out, K0.out, K1.out, K3.out, K4.out, K5.out, K6.out, K7.out, K8.out] <;> rfl
    · have D11 := D10.set hg hlt9 2 (.int .i64 16385)
      have HK : Hid _ := And.intro D11 (bk_set KF 2 (.int .i64 16385))
      have fz := bk_free KF 2
      have cz := bk_cell KF 2
      have ct : w11.cell? ⟨w10.heap.size, 3, none⟩ = some (.int .i64 16385) := (bk_cell KT 3).trans rfl
      clear KF D11 D10 KT
      go_wp2_with (first
        | (refine wpList_load_row rfl 24 _ rfl w9.heap.size rfl 24 #[.bool k0, .int .i64 (20 + k1), .int .i64 16385, .int .i64 k3, .int .i64 k4, .int .i64 k5, .int .i64 k6, .int .i64 k7, .int .i64 k8] (0, 0) _ HK.out.2 Try.underlying24 rfl infoFSz ?_)
        | (refine wpList_store_row rfl 24 _ _ rfl W.heap.size #[.bool k0, .int .i64 (20 + k1), .int .i64 16385, .int .i64 k3, .int .i64 k4, .int .i64 k5, .int .i64 k6, .int .i64 k7, .int .i64 k8] rfl rfl 24 _ HK.out.1.kb infoFSz rfl (by simp [Value.oneCell']) ?_))
      have T := HK.out.1.fin hg #[.bool k0, .int .i64 (20 + k1), .int .i64 16385, .int .i64 k3, .int .i64 k4, .int .i64 k5, .int .i64 k6, .int .i64 k7, .int .i64 k8]
      refine bodyPost_ret (v := .agg #[.bool k0, .int .i64 (20 + k1), .int .i64 16385, .int .i64 k3, .int .i64 k4, .int .i64 k5, .int .i64 k6, .int .i64 k7, .int .i64 k8]) ?_ rfl ?_
      · exact results_cell_row (t := 24) rfl _ _ (W.heap.size) _ (fr := (0, 0)) _ rfl T.1 Try.underlying24 rfl infoFSz
      · rw [EF.out]
        refine ⟨?_, T.2.1.mono (by omega), T.2.2⟩
        show Ending.returned _ = Ending.returned (fsV { fsA xs s with sw := w4f.getD (nextV xs 4 (nextS xs 40 (fs9 xs s))).toNat 0 })
        unfold fsA fsV
        rw [← KN.out, K0.out, K1.out, K3.out, K4.out, K5.out, K6.out, K7.out, K8.out] <;> rfl
  by_cases b2 : k9 = 2
  · subst b2
    have eF : fsD xs s = ({ fsA xs s with tw := o3f.getD (nextV xs 3 (nextS xs 40 (fs9 xs s))).toNat 0 }, nextS xs 3 (nextS xs 40 (fs9 xs s))) := by
      unfold fsD fsB
      rw [← K9.out, if_neg (by decide), if_neg (by decide), if_pos rfl]
    have EF : Hid _ := eF
    clear eF b0 b1
    go_wp2_with fail
    have HB10 := H10.out.1.alloc (.cells #[.int .i64 (-1), .int .i64 64, .int .i64 65] 3)
    have KF0 : (w10.alloc (.cells #[.int .i64 (-1), .int .i64 64, .int .i64 65] 3)).heap[w9.heap.size]? = some (.cells #[.bool k0, .int .i64 (20 + k1), .int .i64 (10 + k2), .int .i64 k3, .int .i64 k4, .int .i64 k5, .int .i64 k6, .int .i64 k7, .int .i64 k8] 24 (0, 0)) := (((Below.refl w10.heap.size w10).alloc (Nat.le_refl _) _).block _ (Array.getElem?_eq_some_iff.1 H10.out.2).1).trans H10.out.2
    have hg10 : g < w10.heap.size := H10.out.1.dz.lt
    go_at_call 13
    refine (nextZ g c xs (nextS xs 40 (fs9 xs s)) (p + 30) 3 _ (HB10.dz.mono (by omega)) (by omega) (by decide) (by decide)).mono ?_
    rintro e w11 ⟨kn, tn, ekn, etn, rfl, lo, hi, dz11, gr11⟩
    have KF := (gr11.block _ (Array.getElem?_eq_some_iff.1 KF0).1 (fun e => by have := Option.some.inj e; omega)).trans KF0
    have KT := (gr11.block w10.heap.size (by simp) (fun e => by have := Option.some.inj e; omega)).trans (heap_alloc_new w10 (.cells #[.int .i64 (-1), .int .i64 64, .int .i64 65] 3))
    have D10 := HB10.next (s' := nextS xs 3 (nextS xs 40 (fs9 xs s))) (by rw [etn] at dz11; exact dz11) gr11 hg
    have KN : Hid _ := ekn
    clear dz11 gr11 ekn etn H10 HB10 KF0
    have hk : kn = 0 ∨ kn = 1 ∨ kn = 2 := by omega
    rcases hk with rfl | rfl | rfl
    · have D11 := D10.set hg hlt9 3 (.int .i64 (-1))
      have HK : Hid _ := And.intro D11 (bk_set KF 3 (.int .i64 (-1)))
      have fz := bk_free KF 3
      have cz := bk_cell KF 3
      have ct : w11.cell? ⟨w10.heap.size, 0, none⟩ = some (.int .i64 (-1)) := (bk_cell KT 0).trans rfl
      clear KF D11 D10 KT
      go_wp2_with (first
        | (refine wpList_load_row rfl 24 _ rfl w9.heap.size rfl 24 #[.bool k0, .int .i64 (20 + k1), .int .i64 (10 + k2), .int .i64 (-1), .int .i64 k4, .int .i64 k5, .int .i64 k6, .int .i64 k7, .int .i64 k8] (0, 0) _ HK.out.2 Try.underlying24 rfl infoFSz ?_)
        | (refine wpList_store_row rfl 24 _ _ rfl W.heap.size #[.bool k0, .int .i64 (20 + k1), .int .i64 (10 + k2), .int .i64 (-1), .int .i64 k4, .int .i64 k5, .int .i64 k6, .int .i64 k7, .int .i64 k8] rfl rfl 24 _ HK.out.1.kb infoFSz rfl (by simp [Value.oneCell']) ?_))
      have T := HK.out.1.fin hg #[.bool k0, .int .i64 (20 + k1), .int .i64 (10 + k2), .int .i64 (-1), .int .i64 k4, .int .i64 k5, .int .i64 k6, .int .i64 k7, .int .i64 k8]
      refine bodyPost_ret (v := .agg #[.bool k0, .int .i64 (20 + k1), .int .i64 (10 + k2), .int .i64 (-1), .int .i64 k4, .int .i64 k5, .int .i64 k6, .int .i64 k7, .int .i64 k8]) ?_ rfl ?_
      · exact results_cell_row (t := 24) rfl _ _ (W.heap.size) _ (fr := (0, 0)) _ rfl T.1 Try.underlying24 rfl infoFSz
      · rw [EF.out]
        refine ⟨?_, T.2.1.mono (by omega), T.2.2⟩
        show Ending.returned _ = Ending.returned (fsV { fsA xs s with tw := o3f.getD (nextV xs 3 (nextS xs 40 (fs9 xs s))).toNat 0 })
        unfold fsA fsV
        rw [← KN.out, K0.out, K1.out, K2.out, K4.out, K5.out, K6.out, K7.out, K8.out] <;> rfl
    · have D11 := D10.set hg hlt9 3 (.int .i64 64)
      have HK : Hid _ := And.intro D11 (bk_set KF 3 (.int .i64 64))
      have fz := bk_free KF 3
      have cz := bk_cell KF 3
      have ct : w11.cell? ⟨w10.heap.size, 1, none⟩ = some (.int .i64 64) := (bk_cell KT 1).trans rfl
      clear KF D11 D10 KT
      go_wp2_with (first
        | (refine wpList_load_row rfl 24 _ rfl w9.heap.size rfl 24 #[.bool k0, .int .i64 (20 + k1), .int .i64 (10 + k2), .int .i64 64, .int .i64 k4, .int .i64 k5, .int .i64 k6, .int .i64 k7, .int .i64 k8] (0, 0) _ HK.out.2 Try.underlying24 rfl infoFSz ?_)
        | (refine wpList_store_row rfl 24 _ _ rfl W.heap.size #[.bool k0, .int .i64 (20 + k1), .int .i64 (10 + k2), .int .i64 64, .int .i64 k4, .int .i64 k5, .int .i64 k6, .int .i64 k7, .int .i64 k8] rfl rfl 24 _ HK.out.1.kb infoFSz rfl (by simp [Value.oneCell']) ?_))
      have T := HK.out.1.fin hg #[.bool k0, .int .i64 (20 + k1), .int .i64 (10 + k2), .int .i64 64, .int .i64 k4, .int .i64 k5, .int .i64 k6, .int .i64 k7, .int .i64 k8]
      refine bodyPost_ret (v := .agg #[.bool k0, .int .i64 (20 + k1), .int .i64 (10 + k2), .int .i64 64, .int .i64 k4, .int .i64 k5, .int .i64 k6, .int .i64 k7, .int .i64 k8]) ?_ rfl ?_
      · exact results_cell_row (t := 24) rfl _ _ (W.heap.size) _ (fr := (0, 0)) _ rfl T.1 Try.underlying24 rfl infoFSz
      · rw [EF.out]
        refine ⟨?_, T.2.1.mono (by omega), T.2.2⟩
        show Ending.returned _ = Ending.returned (fsV { fsA xs s with tw := o3f.getD (nextV xs 3 (nextS xs 40 (fs9 xs s))).toNat 0 })
        unfold fsA fsV
        rw [← KN.out, K0.out, K1.out, K2.out, K4.out, K5.out, K6.out, K7.out, K8.out] <;> rfl
    · have D11 := D10.set hg hlt9 3 (.int .i64 65)
      have HK : Hid _ := And.intro D11 (bk_set KF 3 (.int .i64 65))
      have fz := bk_free KF 3
      have cz := bk_cell KF 3
      have ct : w11.cell? ⟨w10.heap.size, 2, none⟩ = some (.int .i64 65) := (bk_cell KT 2).trans rfl
      clear KF D11 D10 KT
      go_wp2_with (first
        | (refine wpList_load_row rfl 24 _ rfl w9.heap.size rfl 24 #[.bool k0, .int .i64 (20 + k1), .int .i64 (10 + k2), .int .i64 65, .int .i64 k4, .int .i64 k5, .int .i64 k6, .int .i64 k7, .int .i64 k8] (0, 0) _ HK.out.2 Try.underlying24 rfl infoFSz ?_)
        | (refine wpList_store_row rfl 24 _ _ rfl W.heap.size #[.bool k0, .int .i64 (20 + k1), .int .i64 (10 + k2), .int .i64 65, .int .i64 k4, .int .i64 k5, .int .i64 k6, .int .i64 k7, .int .i64 k8] rfl rfl 24 _ HK.out.1.kb infoFSz rfl (by simp [Value.oneCell']) ?_))
      have T := HK.out.1.fin hg #[.bool k0, .int .i64 (20 + k1), .int .i64 (10 + k2), .int .i64 65, .int .i64 k4, .int .i64 k5, .int .i64 k6, .int .i64 k7, .int .i64 k8]
      refine bodyPost_ret (v := .agg #[.bool k0, .int .i64 (20 + k1), .int .i64 (10 + k2), .int .i64 65, .int .i64 k4, .int .i64 k5, .int .i64 k6, .int .i64 k7, .int .i64 k8]) ?_ rfl ?_
      · exact results_cell_row (t := 24) rfl _ _ (W.heap.size) _ (fr := (0, 0)) _ rfl T.1 Try.underlying24 rfl infoFSz
      · rw [EF.out]
        refine ⟨?_, T.2.1.mono (by omega), T.2.2⟩
        show Ending.returned _ = Ending.returned (fsV { fsA xs s with tw := o3f.getD (nextV xs 3 (nextS xs 40 (fs9 xs s))).toNat 0 })
        unfold fsA fsV
        rw [← KN.out, K0.out, K1.out, K2.out, K4.out, K5.out, K6.out, K7.out, K8.out] <;> rfl
  by_cases b3 : k9 = 3
  · subst b3
    have eF : fsD xs s = ({ fsA xs s with pc := numV xs (nextS xs 40 (fs9 xs s)) }, numS xs (nextS xs 40 (fs9 xs s))) := by
      unfold fsD fsB
      rw [← K9.out, if_neg (by decide), if_neg (by decide), if_neg (by decide), if_pos rfl]
    have EF : Hid _ := eF
    clear eF b0 b1 b2
    go_wp2_with fail
    go_at_call 16
    refine (numberZ g c xs (nextS xs 40 (fs9 xs s)) (p + 30) _ (H10.out.1.dz.mono (by omega)) (by omega)).mono ?_
    rintro e w11 ⟨kn, tn, ekn, etn, rfl, dz11, gr11⟩
    have KF := (gr11.block _ (Array.getElem?_eq_some_iff.1 H10.out.2).1 (fun e => by have := Option.some.inj e; omega)).trans H10.out.2
    have D11 := (H10.out.1.next (s' := numS xs (nextS xs 40 (fs9 xs s))) (by rw [etn] at dz11; exact dz11) gr11 hg).set hg hlt9 5 (.int .i64 kn)
    have HK : Hid _ := And.intro D11 (bk_set KF 5 (.int .i64 kn))
    have fz := bk_free KF 5
    have cz := bk_cell KF 5
    have KN : Hid _ := ekn
    clear dz11 gr11 ekn etn KF D11 H10
    go_wp2_with (first
      | (refine wpList_load_row rfl 24 _ rfl w9.heap.size rfl 24 #[.bool k0, .int .i64 (20 + k1), .int .i64 (10 + k2), .int .i64 k3, .int .i64 k4, .int .i64 kn, .int .i64 k6, .int .i64 k7, .int .i64 k8] (0, 0) _ HK.out.2 Try.underlying24 rfl infoFSz ?_)
      | (refine wpList_store_row rfl 24 _ _ rfl W.heap.size #[.bool k0, .int .i64 (20 + k1), .int .i64 (10 + k2), .int .i64 k3, .int .i64 k4, .int .i64 kn, .int .i64 k6, .int .i64 k7, .int .i64 k8] rfl rfl 24 _ HK.out.1.kb infoFSz rfl (by simp [Value.oneCell']) ?_))
    have T := HK.out.1.fin hg #[.bool k0, .int .i64 (20 + k1), .int .i64 (10 + k2), .int .i64 k3, .int .i64 k4, .int .i64 kn, .int .i64 k6, .int .i64 k7, .int .i64 k8]
    refine bodyPost_ret (v := .agg #[.bool k0, .int .i64 (20 + k1), .int .i64 (10 + k2), .int .i64 k3, .int .i64 k4, .int .i64 kn, .int .i64 k6, .int .i64 k7, .int .i64 k8]) ?_ rfl ?_
    · exact results_cell_row (t := 24) rfl _ _ (W.heap.size) _ (fr := (0, 0)) _ rfl T.1 Try.underlying24 rfl infoFSz
    · rw [EF.out]
      refine ⟨?_, T.2.1.mono (by omega), T.2.2⟩
      show Ending.returned _ = Ending.returned (fsV { fsA xs s with pc := numV xs (nextS xs 40 (fs9 xs s)) })
      unfold fsA fsV
      rw [K0.out, K1.out, K2.out, K3.out, K4.out, K6.out, K7.out, K8.out, KN.out] <;> rfl
  by_cases b4 : k9 = 4
  · subst b4
    have eF : fsD xs s = ({ fsA xs s with ps := numV xs (nextS xs 40 (fs9 xs s)) }, numS xs (nextS xs 40 (fs9 xs s))) := by
      unfold fsD fsB
      rw [← K9.out, if_neg (by decide), if_neg (by decide), if_neg (by decide), if_neg (by decide), if_pos rfl]
    have EF : Hid _ := eF
    clear eF b0 b1 b2 b3
    go_wp2_with fail
    go_at_call 16
    refine (numberZ g c xs (nextS xs 40 (fs9 xs s)) (p + 30) _ (H10.out.1.dz.mono (by omega)) (by omega)).mono ?_
    rintro e w11 ⟨kn, tn, ekn, etn, rfl, dz11, gr11⟩
    have KF := (gr11.block _ (Array.getElem?_eq_some_iff.1 H10.out.2).1 (fun e => by have := Option.some.inj e; omega)).trans H10.out.2
    have D11 := (H10.out.1.next (s' := numS xs (nextS xs 40 (fs9 xs s))) (by rw [etn] at dz11; exact dz11) gr11 hg).set hg hlt9 6 (.int .i64 kn)
    have HK : Hid _ := And.intro D11 (bk_set KF 6 (.int .i64 kn))
    have fz := bk_free KF 6
    have cz := bk_cell KF 6
    have KN : Hid _ := ekn
    clear dz11 gr11 ekn etn KF D11 H10
    go_wp2_with (first
      | (refine wpList_load_row rfl 24 _ rfl w9.heap.size rfl 24 #[.bool k0, .int .i64 (20 + k1), .int .i64 (10 + k2), .int .i64 k3, .int .i64 k4, .int .i64 k5, .int .i64 kn, .int .i64 k7, .int .i64 k8] (0, 0) _ HK.out.2 Try.underlying24 rfl infoFSz ?_)
      | (refine wpList_store_row rfl 24 _ _ rfl W.heap.size #[.bool k0, .int .i64 (20 + k1), .int .i64 (10 + k2), .int .i64 k3, .int .i64 k4, .int .i64 k5, .int .i64 kn, .int .i64 k7, .int .i64 k8] rfl rfl 24 _ HK.out.1.kb infoFSz rfl (by simp [Value.oneCell']) ?_))
    have T := HK.out.1.fin hg #[.bool k0, .int .i64 (20 + k1), .int .i64 (10 + k2), .int .i64 k3, .int .i64 k4, .int .i64 k5, .int .i64 kn, .int .i64 k7, .int .i64 k8]
    refine bodyPost_ret (v := .agg #[.bool k0, .int .i64 (20 + k1), .int .i64 (10 + k2), .int .i64 k3, .int .i64 k4, .int .i64 k5, .int .i64 kn, .int .i64 k7, .int .i64 k8]) ?_ rfl ?_
    · exact results_cell_row (t := 24) rfl _ _ (W.heap.size) _ (fr := (0, 0)) _ rfl T.1 Try.underlying24 rfl infoFSz
    · rw [EF.out]
      refine ⟨?_, T.2.1.mono (by omega), T.2.2⟩
      show Ending.returned _ = Ending.returned (fsV { fsA xs s with ps := numV xs (nextS xs 40 (fs9 xs s)) })
      unfold fsA fsV
      rw [K0.out, K1.out, K2.out, K3.out, K4.out, K5.out, K7.out, K8.out, KN.out] <;> rfl
  by_cases b5 : k9 = 5
  · subst b5
    have eF : fsD xs s = ({ fsA xs s with pt := 1152921504606846976 + nextV xs 2 (nextS xs 40 (fs9 xs s)) }, nextS xs 2 (nextS xs 40 (fs9 xs s))) := by
      unfold fsD fsB
      rw [← K9.out, if_neg (by decide), if_neg (by decide), if_neg (by decide), if_neg (by decide), if_neg (by decide), if_pos rfl]
    have EF : Hid _ := eF
    clear eF b0 b1 b2 b3 b4
    go_wp2_with fail
    go_at_call 13
    refine (nextZ g c xs (nextS xs 40 (fs9 xs s)) (p + 30) 2 _ (H10.out.1.dz.mono (by omega)) (by omega) (by decide) (by decide)).mono ?_
    rintro e w11 ⟨kn, tn, ekn, etn, rfl, lo, hi, dz11, gr11⟩
    have KF := (gr11.block _ (Array.getElem?_eq_some_iff.1 H10.out.2).1 (fun e => by have := Option.some.inj e; omega)).trans H10.out.2
    have D11 := (H10.out.1.next (s' := nextS xs 2 (nextS xs 40 (fs9 xs s))) (by rw [etn] at dz11; exact dz11) gr11 hg).set hg hlt9 7 (.int .i64 (1152921504606846976 + kn))
    have HK : Hid _ := And.intro D11 (bk_set KF 7 (.int .i64 (1152921504606846976 + kn)))
    have fz := bk_free KF 7
    have cz := bk_cell KF 7
    have KN : Hid _ := ekn
    clear dz11 gr11 ekn etn KF D11 H10
    go_wp2_with (first
      | (refine wpList_load_row rfl 24 _ rfl w9.heap.size rfl 24 #[.bool k0, .int .i64 (20 + k1), .int .i64 (10 + k2), .int .i64 k3, .int .i64 k4, .int .i64 k5, .int .i64 k6, .int .i64 (1152921504606846976 + kn), .int .i64 k8] (0, 0) _ HK.out.2 Try.underlying24 rfl infoFSz ?_)
      | (refine wpList_store_row rfl 24 _ _ rfl W.heap.size #[.bool k0, .int .i64 (20 + k1), .int .i64 (10 + k2), .int .i64 k3, .int .i64 k4, .int .i64 k5, .int .i64 k6, .int .i64 (1152921504606846976 + kn), .int .i64 k8] rfl rfl 24 _ HK.out.1.kb infoFSz rfl (by simp [Value.oneCell']) ?_))
    have T := HK.out.1.fin hg #[.bool k0, .int .i64 (20 + k1), .int .i64 (10 + k2), .int .i64 k3, .int .i64 k4, .int .i64 k5, .int .i64 k6, .int .i64 (1152921504606846976 + kn), .int .i64 k8]
    refine bodyPost_ret (v := .agg #[.bool k0, .int .i64 (20 + k1), .int .i64 (10 + k2), .int .i64 k3, .int .i64 k4, .int .i64 k5, .int .i64 k6, .int .i64 (1152921504606846976 + kn), .int .i64 k8]) ?_ rfl ?_
    · exact results_cell_row (t := 24) rfl _ _ (W.heap.size) _ (fr := (0, 0)) _ rfl T.1 Try.underlying24 rfl infoFSz
    · rw [EF.out]
      refine ⟨?_, T.2.1.mono (by omega), T.2.2⟩
      show Ending.returned _ = Ending.returned (fsV { fsA xs s with pt := 1152921504606846976 + nextV xs 2 (nextS xs 40 (fs9 xs s)) })
      unfold fsA fsV
      rw [K0.out, K1.out, K2.out, K3.out, K4.out, K5.out, K6.out, K8.out, KN.out] <;> rfl
  have q0 : (k9 == 0) = false := by simpa using b0
  have q1 : (k9 == 1) = false := by simpa using b1
  have q2 : (k9 == 2) = false := by simpa using b2
  have q3 : (k9 == 3) = false := by simpa using b3
  have q4 : (k9 == 4) = false := by simpa using b4
  have q5 : (k9 == 5) = false := by simpa using b5
  have eF : fsD xs s = (fsA xs s, nextS xs 40 (fs9 xs s)) := by
    unfold fsD fsB
    rw [← K9.out, if_neg b0, if_neg b1, if_neg b2, if_neg b3, if_neg b4, if_neg b5]
  have EF : Hid _ := eF
  clear eF b0 b1 b2 b3 b4 b5
  go_wp2_with (first
    | (refine wpList_load_row rfl 24 _ rfl w9.heap.size rfl 24 #[.bool k0, .int .i64 (20 + k1), .int .i64 (10 + k2), .int .i64 k3, .int .i64 k4, .int .i64 k5, .int .i64 k6, .int .i64 k7, .int .i64 k8] (0, 0) _ H10.out.2 Try.underlying24 rfl infoFSz ?_)
    | (refine wpList_store_row rfl 24 _ _ rfl W.heap.size #[.bool k0, .int .i64 (20 + k1), .int .i64 (10 + k2), .int .i64 k3, .int .i64 k4, .int .i64 k5, .int .i64 k6, .int .i64 k7, .int .i64 k8] rfl rfl 24 _ H10.out.1.kb infoFSz rfl (by simp [Value.oneCell']) ?_))
  have T := H10.out.1.fin hg #[.bool k0, .int .i64 (20 + k1), .int .i64 (10 + k2), .int .i64 k3, .int .i64 k4, .int .i64 k5, .int .i64 k6, .int .i64 k7, .int .i64 k8]
  refine bodyPost_ret (v := .agg #[.bool k0, .int .i64 (20 + k1), .int .i64 (10 + k2), .int .i64 k3, .int .i64 k4, .int .i64 k5, .int .i64 k6, .int .i64 k7, .int .i64 k8]) ?_ rfl ?_
  · exact results_cell_row (t := 24) rfl _ _ (W.heap.size) _ (fr := (0, 0)) _ rfl T.1 Try.underlying24 rfl infoFSz
  · rw [EF.out]
    refine ⟨?_, T.2.1.mono (by omega), T.2.2⟩
    show Ending.returned _ = Ending.returned (fsV (fsA xs s))
    unfold fsA fsV
    rw [K0.out, K1.out, K2.out, K3.out, K4.out, K5.out, K6.out, K7.out, K8.out]
end Go.Proofs.Ythjakbpcpfmbjaa

namespace Go.Proofs.Ythjakbpcpfmbjaa
open Go
set_option linter.unusedVariables false

section
variable {P : Program} {ops : Array Oper} {Q : Exit → Act → World → Prop} {md : Region.Mode}

/-- Each operation waits for earlier ones alone. -/
def early (ops : Array Oper) : Bool := (List.range ops.size).all fun j => match ops[j]? with
  | some o => o.after.all fun e => decide (e.on < j)
  | none => true
theorem early_spec (h : early ops = true) {j : Nat} {o : Oper} (ho : ops[j]? = some o) : ∀ e ∈ o.after, e.on < j := by
  have hj : j < ops.size := (Array.getElem?_eq_some_iff.1 ho).1
  have := List.all_eq_true.1 h j (List.mem_range.2 hj)
  rw [ho] at this
  intro e he
  simpa using Array.all_eq_true_iff_forall_mem.1 this e he
theorem getD_in {l : Array Bool} {j : Nat} (h : j < l.size) (b c : Bool) : l.getD j b = l.getD j c := by simp [Array.getD, h]
/-- Nothing may come up: all have come up. -/
theorem all_of_ready {l : Array Bool} (he : early ops = true) (hs : l.size = ops.size) (hr : Region.ready md ops l = []) : ∀ j, j < ops.size → l.getD j false = true := by
  intro j
  induction j using Nat.strongRecOn with
  | ind j ih =>
    intro hj
    cases h : l.getD j false with
    | true => rfl
    | false =>
      exfalso
      have hm : j ∈ Region.ready md ops l := by
        refine mem_ready.2 ⟨by rw [getD_in (by omega) true false]; exact h, ops[j], Array.getElem?_eq_getElem hj, fun e hem _ => ?_⟩
        have hlt := early_spec he (Array.getElem?_eq_getElem hj) e hem
        exact ih e.on hlt (by omega)
      rw [hr] at hm
      cases hm
theorem count_set {l : Array Bool} {j : Nat} (hj : j < l.size) (h : l.getD j true = false) : (l.setIfInBounds j true).toList.count false + 1 = l.toList.count false := by
  have hx : l.toList[j]? = some false := by
    have h2 : l[j] = false := by simpa [Array.getD, hj] using h
    rw [Array.getElem?_toList, Array.getElem?_eq_getElem hj, h2]
  rw [Array.toList_setIfInBounds]
  generalize l.toList = L at hx
  clear h hj
  induction L generalizing j with
  | nil => simp at hx
  | cons b r ih =>
    cases j with
    | zero =>
      simp only [List.getElem?_cons_zero, Option.some.injEq] at hx
      subst hx
      simp
    | succ j =>
      rw [List.getElem?_cons_succ] at hx
      have := ih hx
      cases b <;> simp <;> omega
/-- A region that draws its order, by what holds amid it: each operation is carried out once, whatever has come up ahead of it. -/
theorem any_inv (Inv : (Nat → Bool) → Act → World → Prop) (he : early ops = true)
    (step : ∀ (f : Nat → Bool) (a : Act) (w : World) (j : Nat) (o : Oper), Inv f a w → ops[j]? = some o → f j = false → (∀ e ∈ o.after, Region.binds md e = true → f e.on = true) →
      ∀ K : Act → World → Prop, (∀ a' w', Inv (fun i => i == j || f i) a' w' → K a' w') → if Region.wanted o (yielded ops a.tmps) = true then Oper.wp P o a w K Q else K (a.put o.dst undef) w)
    (done : ∀ (f : Nat → Bool) (a : Act) (w : World), Inv f a w → (∀ j, j < ops.size → f j = true) → Q .normal a w) :
    ∀ (n : Nat) (l : Array Bool) (a : Act) (w : World), l.size = ops.size → l.toList.count false ≤ n → Inv (fun i => l.getD i false) a w → wpAny P md ops Q n l a w := by
  intro n
  induction n with
  | zero =>
    intro l a w hs hc hi
    have hr : Region.ready md ops l = [] := by
      cases h : Region.ready md ops l with
      | nil => rfl
      | cons j r =>
        exfalso
        have hj : j ∈ Region.ready md ops l := by rw [h]; exact List.mem_cons_self ..
        obtain ⟨h1, o, ho, _⟩ := mem_ready.1 hj
        have hjl : j < l.size := by rw [hs]; exact (Array.getElem?_eq_some_iff.1 ho).1
        have := count_set hjl h1
        omega
    exact ⟨hr, done _ a w hi (all_of_ready he hs hr)⟩
  | succ n ih =>
    intro l a w hs hc hi
    refine ⟨fun hr => done _ a w hi (all_of_ready he hs hr), fun j hj => ?_⟩
    obtain ⟨h1, o, ho, hall⟩ := mem_ready.1 hj
    have hjl : j < l.size := by rw [hs]; exact (Array.getElem?_eq_some_iff.1 ho).1
    refine wpOp_step ho (fun K hK => step _ a w j o hi ho (by show l.getD j false = false; rw [getD_in hjl false true]; exact h1) hall K (fun a' w' hi' => hK a' w' (ih _ a' w' (by simpa using hs) (by have := count_set hjl h1; omega) ?_)))
    have e : (fun i => (l.setIfInBounds j true).getD i false) = fun i => i == j || l.getD i false := by
      funext i
      by_cases hij : i = j
      · subst hij; simp [Array.getD, hjl]
      · have : (i == j) = false := by simpa using hij
        rw [this, Bool.false_or]
        by_cases hi2 : i < l.size
        · simp [Array.getD, hi2, Ne.symm hij]
        · simp [Array.getD, hi2]
    rw [e]
    exact hi'
theorem region_I {id : Nat} {a : Act} {w : World} (Inv : (Nat → Bool) → Act → World → Prop) (hm : P.follows .mixedOrders = true) (he : early ops = true)
    (step : ∀ (f : Nat → Bool) (a : Act) (w : World) (j : Nat) (o : Oper), Inv f a w → ops[j]? = some o → f j = false → (∀ e ∈ o.after, Region.binds .any e = true → f e.on = true) →
      ∀ K : Act → World → Prop, (∀ a' w', Inv (fun i => i == j || f i) a' w' → K a' w') → if Region.wanted o (yielded ops a.tmps) = true then Oper.wp P o a w K Q else K (a.put o.dst undef) w)
    (done : ∀ (f : Nat → Bool) (a : Act) (w : World), Inv f a w → (∀ j, j < ops.size → f j = true) → Q .normal a w)
    (h : Inv (fun _ => false) a w.drew) : (Code.region id ops true).wp P Q a w := by
  refine wp_region_any hm (any_inv Inv he step done _ _ _ _ (by simp) (by simp) ?_)
  have e : (fun i => (Array.replicate ops.size false).getD i false) = fun _ => false := by
    funext i
    simp only [Array.getD]
    split <;> simp
  rw [e]
  exact h
end
end Go.Proofs.Ythjakbpcpfmbjaa

namespace Go.Proofs.Ythjakbpcpfmbjaa
open Go.RowKit
set_option linter.unusedVariables false
set_option linter.unusedSimpArgs false

theorem results_rtF {P : Program} {fn : Func} {p q : Tmp} {ty : TypeId} (h : fn.results = #[.cell p ty, .tmp q]) (tmps : Array Value) (w : World) (g : Nat) (t : TypeId) (cs : Array Value) (fr : Nat × Nat) (d : TypeDesc) (u : Value)
    (hp : tmps.getD p undef = .pointer (some ⟨g, 0, none⟩)) (hq : tmps.getD q undef = u) (hg : w.heap[g]? = some (.cells cs t fr))
    (hu : P.underlying ty = some d) (hd : (match d with | .struct _ | .array _ _ => true | _ => false) = true) (hi : (P.info? ty).map (·.size) = some cs.size) :
    (results fn tmps).run P w = .ok (.tuple #[.agg cs, u]) w := by
  have hp' : tmps[p]?.getD undef = .pointer (some ⟨g, 0, none⟩) := by simpa using hp
  have hq' : tmps[q]?.getD undef = u := by simpa using hq
  simp [results, h, hp', hq', asAddr, run_loadVar_row w g t ty cs fr d hg hu hd hi]
theorem ownsBlkF {w w' : World} {base e s n : Nat} {v : Value} {xs : List Value} (ho : w.ownsRow base e s v n xs) (hne : ∀ k, k < w.heap.size → v.ownBlock = some k → w'.heap[k]? = w.heap[k]?) : w'.ownsRow base e s v n xs := by
  obtain ⟨hl, h2⟩ := ho
  refine ⟨hl, ?_⟩
  rcases h2 with h2 | ⟨g', cap, cur, rfl, hg, hh, r⟩
  · exact Or.inl h2
  · exact Or.inr ⟨g', cap, cur, rfl, hg, (hne g' (Array.getElem?_eq_some_iff.1 hh).1 rfl).trans hh, r⟩
theorem GOwns.blkF {T K : Nat} {w w' : World} {base b : Nat} {v : Value} {L : List (List Value)} (h : GOwns T K w base v L) (hg : w.grownBy w' (some b)) (hne : v.ownBlock ≠ some b) : GOwns T K w' base v L := by
  obtain ⟨zs, o, hz⟩ := h
  exact ⟨zs, ownsBlkF o (fun k hk ek => hg.block k hk (fun e2 => hne (by rw [ek]; exact e2))), hz⟩
theorem GOwns.ltF {T K : Nat} {w : World} {base : Nat} {v : Value} {L : List (List Value)} (h : GOwns T K w base v L) (k : Nat) (hk : v.ownBlock = some k) : base ≤ k ∧ k < w.heap.size := by
  obtain ⟨zs, o, _⟩ := h
  exact o.lt k hk
theorem GOwns.drawnF {T K : Nat} {w w' : World} {base g : Nat} {v : Value} {L : List (List Value)} (h : GOwns T K w base v L) (hg : w.grownBy w' (some g)) (hgl : g < base) : GOwns T K w' base v L :=
  h.blkF hg (fun e => by have := (h.ltF _ e).1; omega)
theorem al_oldF {w : World} {b : Nat} {o : Obj} (h : w.heap[b]? = some o) (o2 : Obj) : (w.alloc o2).heap[b]? = some o := (heap_alloc_old w o2 (Array.getElem?_eq_some_iff.1 h).1).trans h
theorem grown_farF {a b c : World} {r : Option Nat} {k : Nat} (h : a.grownBy b r) (g : b.grownBy c (some k)) (hk : a.heap.size ≤ k) : a.grownBy c r :=
  ⟨g.os.trans h.os, g.tape.trans h.tape, g.output.trans h.output, Nat.le_trans h.size g.size, fun i hi hr => (g.block i (Nat.lt_of_lt_of_le hi h.size) (fun e => by have := Option.some.inj e; omega)).trans (h.block i hi hr)⟩
theorem flatOps (L : List SFlowOp) : FlatK 4 (SFlowOp.L L) := fun x hx => by
  obtain ⟨o, _, rfl⟩ := List.mem_map.1 hx
  refine ⟨rfl, fun y hy => ?_⟩
  simp only [SFlowOp.c, List.mem_cons, List.not_mem_nil, or_false] at hy
  rcases hy with rfl | rfl | rfl | rfl <;> rfl
def tabF15 : Array Value := #[.int .i64 1, .int .i64 2, .int .i64 2, .int .i64 2, .int .i64 3, .int .i64 3, .int .i64 3, .int .i64 3, .int .i64 4, .int .i64 4, .int .i64 4, .int .i64 5, .int .i64 6, .int .i64 7, .int .i64 8]
theorem tabF15_at (k : Int) (h0 : 0 ≤ k) (h1 : k < 15) : tabF15[k.toNat]? = some (.int .i64 (k15f.getD k.toNat 0)) := by
  obtain rfl | rfl | rfl | rfl | rfl | rfl | rfl | rfl | rfl | rfl | rfl | rfl | rfl | rfl | rfl : k = 0 ∨ k = 1 ∨ k = 2 ∨ k = 3 ∨ k = 4 ∨ k = 5 ∨ k = 6 ∨ k = 7 ∨ k = 8 ∨ k = 9 ∨ k = 10 ∨ k = 11 ∨ k = 12 ∨ k = 13 ∨ k = 14 := by omega
  all_goals rfl
/-- Amid a round of the draw: the source, the list, the box with the operation. -/
structure RF (W1 W : World) (g : Nat) (c : Value) (xs : List Int) (st : St) (p : Int) (ov : Value) (R : List SFlowOp) (bx : Nat) (o : SFlowOp) : Prop where
  dz : Dz W g c xs st p
  so : GOwns 32 4 W W1.heap.size ov (SFlowOp.L R)
  nb : ov.ownBlock ≠ some bx
  bk : W.heap[bx]? = some (.cells #[.int .i64 o.f0, .int .i64 o.f1, .int .i64 o.f2, .bool o.f3] 32 (0, 0))
  gr : W1.grownBy W (some g)
  bb : W1.heap.size ≤ bx
section
variable {W1 W W' : World} {g : Nat} {c : Value} {xs : List Int} {st st' : St} {p p' : Int} {ov : Value} {R : List SFlowOp} {bx : Nat} {o : SFlowOp}
theorem RF.mono (h : RF W1 W g c xs st p ov R bx o) (hq : p ≤ p') : RF W1 W g c xs st p' ov R bx o := ⟨h.dz.mono hq, h.so, h.nb, h.bk, h.gr, h.bb⟩
theorem RF.alloc (h : RF W1 W g c xs st p ov R bx o) (ob : Obj) : RF W1 (W.alloc ob) g c xs st p ov R bx o :=
  ⟨h.dz.alloc _, h.so.below ((Below.refl _ _).alloc (Nat.le_refl _) _), h.nb, al_oldF h.bk ob, grown_trF h.gr (grown_allocF _ _ _), h.bb⟩
/-- A draw. -/
theorem RF.draw (h : RF W1 W g c xs st p ov R bx o) (hd : Dz W' g c xs st' p') (hg : W.grownBy W' (some g)) (hl : g < W1.heap.size) : RF W1 W' g c xs st' p' ov R bx o :=
  ⟨hd, h.so.drawnF hg hl, h.nb, blk_drawnT h.bk hg (by have := h.bb; omega), grown_trF h.gr hg, h.bb⟩
/-- A field of the box is written. -/
theorem RF.set (h : RF W1 W g c xs st p ov R bx o) (hl : g < W1.heap.size) (i : Nat) (x : Value) (o' : SFlowOp) (e : (#[.int .i64 o.f0, .int .i64 o.f1, .int .i64 o.f2, .bool o.f3] : Array Value).setIfInBounds i x = #[.int .i64 o'.f0, .int .i64 o'.f1, .int .i64 o'.f2, .bool o'.f3]) : RF W1 (W.setCell ⟨bx, i, none⟩ x) g c xs st p ov R bx o' := by
  have hb := h.bb
  have hg := grown_setCell W bx i x
  refine ⟨h.dz.grown hg (fun k hk => by have := Option.some.inj hk; omega), h.so.blkF hg h.nb, h.nb, ?_, grown_farF h.gr hg hb, hb⟩
  rw [← e]
  exact bk_set h.bk i x
theorem RF.y (h : RF W1 W g c xs st p ov R bx o) : W.cell? ⟨bx, 0, none⟩ = some (.int .i64 o.f0) ∧ W.cell? ⟨bx, 1, none⟩ = some (.int .i64 o.f1) ∧ W.cell? ⟨bx, 2, none⟩ = some (.int .i64 o.f2) ∧ W.cell? ⟨bx, 3, none⟩ = some (.bool o.f3) :=
  ⟨(bk_cell h.bk 0).trans rfl, (bk_cell h.bk 1).trans rfl, (bk_cell h.bk 2).trans rfl, (bk_cell h.bk 3).trans rfl⟩
theorem RF.free (h : RF W1 W g c xs st p ov R bx o) (i : Nat) : W.frozen? ⟨bx, i, none⟩ = false := bk_free h.bk i
/-- The operation is put onto the list. -/
theorem RF.push {W6 : World} {v6 : Value} {ob : Obj} (h : RF W1 W g c xs st p ov R bx o) (hl : g < W1.heap.size)
    (o6 : GOwns 32 4 W6 W1.heap.size v6 (SFlowOp.L R ++ [o.c])) (g6 : (W.alloc ob).grownBy W6 ov.ownBlock) :
    GOwns 32 4 W6 W1.heap.size v6 (SFlowOp.L (R ++ [o])) ∧ Dz W6 g c xs st p ∧ W1.grownBy W6 (some g) := by
  have hw : ∀ k, ov.ownBlock = some k → W1.heap.size ≤ k := fun k hk => (h.so.ltF k hk).1
  have b3 := grown_trF h.gr (grown_allocF W ob (some g))
  refine ⟨by rw [show SFlowOp.L (R ++ [o]) = SFlowOp.L R ++ [o.c] by simp]; exact o6, (h.dz.alloc _).grown g6 (fun k hk => by have := hw k hk; omega), ?_⟩
  cases hov : ov.ownBlock with
  | none => rw [hov] at g6; exact grown_trF b3 ⟨g6.os, g6.tape, g6.output, g6.size, fun i hi _ => g6.block i hi (by simp)⟩
  | some k => rw [hov] at g6; exact grown_farF b3 g6 (hw k hov)
end

/-- Amid the statement: what has come up holds what it should. -/
structure FJ (W0 : World) (g : Nat) (c : Value) (xs : List Int) (s : St) (p : Int) (oA : SFlowOp) (f : Nat → Bool) (w : World) (u8 u23 u24 u25 u26 u27 u28 u29 u30 u31 u32 u33 u34 : Value) : Prop where
  x0 : f 0 = true → f 3 = false → ∃ b : Nat, u23 = .slice (some ⟨b, 0, none⟩) 15 15 ∧ w.heap[b]? = some (.cells tabF15 3 (0, 0)) ∧ g < b
  x1 : f 1 = true → u24 = .pointer (some ⟨g, 0, none⟩)
  x2 : f 2 = true → u25 = .int .i64 (nextV xs 15 s)
  x3 : f 3 = true → f 4 = false → ∃ b : Nat, u26 = .pointer (some ⟨b, (nextV xs 15 s).toNat, none⟩) ∧ w.heap[b]? = some (.cells tabF15 3 (0, 0)) ∧ g < b
  x4 : f 4 = true → u27 = .int .i64 oA.f0
  x5 : f 5 = true → u28 = .pointer (some ⟨g, 0, none⟩)
  x6 : f 6 = true → u29 = .int .i64 oA.f1
  x7 : f 7 = true → u30 = .pointer (some ⟨g, 0, none⟩)
  x8 : f 8 = true → u31 = .int .i64 oA.f2
  x9 : f 9 = true → u32 = .pointer (some ⟨g, 0, none⟩)
  x10 : f 10 = true → u33 = .bool oA.f3
  x11 : f 11 = true → u34 = .agg #[.int .i64 oA.f0, .int .i64 oA.f1, .int .i64 oA.f2, .bool oA.f3]
  x12 : f 12 = true → ∃ b : Nat, u8 = .pointer (some ⟨b, 0, none⟩) ∧ g < b ∧ W0.heap.size ≤ b ∧ w.heap[b]? = some (.cells (if f 13 = true then #[.int .i64 oA.f0, .int .i64 oA.f1, .int .i64 oA.f2, .bool oA.f3] else #[.int .i64 0, .int .i64 0, .int .i64 0, .bool false]) 32 (0, 0))
  dz : Dz w g c xs (if f 10 = true then nextS xs 3 (nextS xs 60 (nextS xs 12 (nextS xs 15 s))) else if f 8 = true then nextS xs 60 (nextS xs 12 (nextS xs 15 s)) else if f 6 = true then nextS xs 12 (nextS xs 15 s) else if f 2 = true then nextS xs 15 s else s) (p + 3 * (((f 2).toNat + (f 6).toNat + (f 8).toNat + (f 10).toNat : Nat) : Int))
  gr : W0.grownBy w (some g)
  q6 : f 6 = true → f 2 = true
  q8 : f 8 = true → f 6 = true
  q10 : f 10 = true → f 8 = true
  late : f 13 = true → ∀ i, i < 13 → f i = true
theorem toNat_leF (b : Bool) : b.toNat ≤ 1 := by cases b <;> decide
theorem foA_eq (xs : List Int) (s : St) (a b d : Int) (e : Bool) (ea : a = k15f.getD (nextV xs 15 s).toNat 0) (eb : b = nextV xs 12 (nextS xs 15 s)) (ed : d = nextV xs 60 (nextS xs 12 (nextS xs 15 s))) (ee : e = (nextV xs 3 (nextS xs 60 (nextS xs 12 (nextS xs 15 s))) == 3 - 1)) : foA xs s = ⟨a, b, d, e⟩ := by
  unfold foA; rw [ea, eb, ed, ee]
theorem foB_if (xs : List Int) (o : SFlowOp) (s s1 : St) (k : Int) (ek : k = nextV xs 40 s) (e1 : s1 = nextS xs 40 s) :
    foB xs o s = if k = 0 then (⟨o.f0, o.f1, numV xs s1, o.f3⟩, numS xs s1) else if k = 1 then (⟨o.f0, numV xs s1, o.f2, o.f3⟩, numS xs s1) else if k = 2 then (⟨nextV xs 11 s1 - 1, o.f1, o.f2, o.f3⟩, nextS xs 11 s1) else (o, s1) := by
  unfold foB; rw [← ek, ← e1]

set_option maxRecDepth 20000 in
set_option maxHeartbeats 8000000 in
theorem drawFR (v : Value) (xs : List Int) (w : World) (hrow : Row w .u8 v xs) (hB : Bytes xs) (hl : xs.length ≤ 1048576) :
    Calls Try.prog 5 #[v] w fun e w' => ∃ r, e = .returned (.tuple #[fsV (dfF xs), r]) ∧ GOwns 32 4 w' w.heap.size r (SFlowOp.L (dfr xs)) ∧ Below w.heap.size w w' := by
  obtain ⟨wR, eR⟩ : ∃ u : World, u = w.alloc (.cells #[.bool false, .int .i64 0, .int .i64 0, .int .i64 0, .int .i64 0, .int .i64 0, .int .i64 0, .int .i64 0, .int .i64 0] 24) := ⟨_, rfl⟩
  have bR : Below w.heap.size w wR := by rw [eR]; exact (Below.refl _ _).alloc (Nat.le_refl _) _
  have rR := hrow.below bR
  have S0 := sourceC v xs wR rR hB hl
  have D0 := dz_new rR hB hl
  have kR : wR.heap[w.heap.size]? = some (.cells #[.bool false, .int .i64 0, .int .i64 0, .int .i64 0, .int .i64 0, .int .i64 0, .int .i64 0, .int .i64 0, .int .i64 0] 24 (0, 0)) := by rw [eR]; exact heap_alloc_new _ _
  have zR : wR.heap.size = w.heap.size + 1 := by rw [eR]; simp
  have H0 : Hid _ := And.intro S0 (And.intro D0 (And.intro bR kR))
  have ER : Hid _ := And.intro eR zR
  clear S0 D0 hrow hB hl bR kR rR eR zR
  go_enter Try.func5, Try.ntmps5
  go_wp2_with fail
  rw [← ER.out.1]
  go_at_call 11
  refine H0.out.1.mono ?_
  rintro e w1 ⟨rfl, hw1⟩
  have gR : wR.grownBy w1 none := by rw [hw1]; exact grown_allocF _ _ _
  have H1 : Hid _ := And.intro (show Dz w1 wR.heap.size v xs (stZ xs) 0 by rw [hw1]; exact H0.out.2.1) (And.intro (H0.out.2.2.1.grown gR H0.out.2.2.1.size (fun q hq => by cases hq)) (And.intro ((gR.block _ (by rw [ER.out.2]; omega) (by simp)).trans H0.out.2.2.2) (show wR.heap.size + 1 ≤ w1.heap.size by rw [hw1]; simp)))
  obtain ⟨g, eg⟩ : ∃ g, g = wR.heap.size := ⟨_, rfl⟩
  rw [← eg] at H1 ⊢
  have HG : Hid _ := And.intro (eg.trans ER.out.2) True.intro
  clear hw1 H0 gR eg ER
  go_wp2_with fail
  have C := drawSetup g v xs (stZ xs) 0 w1 H1.out.1 (by decide)
  obtain ⟨R, eR⟩ : ∃ R, R = fsD xs (stZ xs) := ⟨_, rfl⟩
  rw [← eR] at C
  obtain ⟨F, s2⟩ := R
  dsimp only at C
  unfold fsV at C
  have eF : F = dfF xs := by unfold dfF; rw [← eR]
  have es2 : s2 = (fsD xs (stZ xs)).2 := by rw [← eR]
  have EE : Hid _ := And.intro eF es2
  clear eR eF es2
  go_at_call 12
  refine C.mono ?_
  rintro e w2 ⟨rfl, d2, g2⟩
  have eF := EE.out.1
  have es2 := EE.out.2
  clear C EE
  have b2 : Below w.heap.size w w2 := H1.out.2.1.grown g2 H1.out.2.1.size (fun q hq => by have := Option.some.inj hq; have := HG.out.1; omega)
  have k2 : w2.heap[w.heap.size]? = some (.cells #[.bool false, .int .i64 0, .int .i64 0, .int .i64 0, .int .i64 0, .int .i64 0, .int .i64 0, .int .i64 0, .int .i64 0] 24 (0, 0)) := blk_drawnT H1.out.2.2.1 g2 (by have := HG.out.1; omega)
  have hg2 : g < w2.heap.size := d2.lt
  obtain ⟨b5, eb5⟩ : ∃ b, b = w2.heap.size := ⟨_, rfl⟩
  obtain ⟨W1, eW1⟩ : ∃ W, W = w2.alloc (.cells #[.bool F.sv, .int .i64 F.cw, .int .i64 F.sw, .int .i64 F.tw, .int .i64 F.ow, .int .i64 F.pc, .int .i64 F.ps, .int .i64 F.pt, .int .i64 F.po] 24) := ⟨_, rfl⟩
  have kF : W1.heap[b5]? = some (.cells #[.bool F.sv, .int .i64 F.cw, .int .i64 F.sw, .int .i64 F.tw, .int .i64 F.ow, .int .i64 F.pc, .int .i64 F.ps, .int .i64 F.pt, .int .i64 F.po] 24 (0, 0)) := by rw [eW1, eb5]; exact heap_alloc_new _ _
  have d3 : Dz W1 g v xs s2 39 := by rw [eW1]; exact (d2.mono (by decide)).alloc _
  have b3 : Below w.heap.size w W1 := by rw [eW1]; exact b2.alloc b2.size _
  have k3 : W1.heap[w.heap.size]? = some (.cells #[.bool false, .int .i64 0, .int .i64 0, .int .i64 0, .int .i64 0, .int .i64 0, .int .i64 0, .int .i64 0, .int .i64 0] 24 (0, 0)) := by rw [eW1]; exact al_oldF k2 _
  have hb5 : b5 < W1.heap.size := (Array.getElem?_eq_some_iff.1 kF).1
  have hg3 : g < b5 := by omega
  have H2 : Hid _ := And.intro d3 (And.intro b3 (And.intro k3 (And.intro kF (And.intro eF es2))))
  have EW : Hid _ := And.intro eW1 eb5
  clear d2 g2 H1 b2 k2 d3 b3 k3 kF eF es2 eW1 eb5 hg2
  go_upto_region 3 with fail
  rw [← EW.out.1, ← EW.out.2]
  have S3 : GOwns 32 4 (W1.alloc (.cells #[] 32)) W1.heap.size (.slice (some ⟨W1.heap.size, 0, none⟩) 0 0) (SFlowOp.L []) := GOwns.lit0 _ _ W1 W1.heap.size (Nat.le_refl _)
  have D3 := H2.out.1.alloc (.cells #[] 32)
  have G3 : W1.grownBy (W1.alloc (.cells #[] 32)) (some g) := grown_allocF _ _ _
  have H3 : Hid _ := And.intro S3 (And.intro D3 G3)
  clear S3 D3 G3 EW
  go_wp2_with fail
  go_at_call 14
  refine (sizeZ g v xs s2 _ 90 _ H3.out.2.1 (by decide) (by decide)).mono ?_
  rintro e w3 ⟨k, ek, rfl, k0, k1, hw3⟩
  subst w3
  have HK : Hid _ := And.intro ek True.intro
  clear ek
  go_wp2_with fail
  go_at_call 13
  refine (nextZ g v xs s2 _ (k + 1) _ H3.out.2.1 (by decide) (by omega) (by omega)).mono ?_
  rintro e w3 ⟨n, s0, en, es0, rfl, n0, n1, d4, g4⟩
  obtain ⟨m, rfl⟩ := Int.eq_ofNat_of_zero_le n0
  have ek := HK.out.1
  have es2 := H2.out.2.2.2.2.2
  have eN : dfN xs = m + 1 := by unfold dfN; rw [← ek, ← es2, ← en, Int.toNat_natCast]
  have eS : dfS xs = s0 := by unfold dfS; rw [← ek, ← es2, ← es0]
  have H4 : Hid _ := And.intro d4 (And.intro (H3.out.1.drawnF g4 (by omega)) (And.intro (grown_trF H3.out.2.2 g4) (And.intro eN eS)))
  have hm : m ≤ 90 := by omega
  obtain ⟨c0, ec0⟩ : ∃ c, c = W1.heap.size := ⟨_, rfl⟩
  clear d4 g4 H3 n0 n1 k0 k1 eN eS en es0 ek HK es2
  go_wp2_with fail
  go_loopg [6, 7, 8] (m + 1) (fun q ov iv bv wr => ∃ (i : Nat), i ≤ m + 1 ∧ q = m + 1 - i ∧ iv = .int .i64 ((m : Int) - i) ∧ GOwns 32 4 wr W1.heap.size ov (SFlowOp.L (fLp xs s0 i).1) ∧ Dz wr g v xs (fLp xs s0 i).2 (42 + 24 * i) ∧ W1.grownBy wr (some g))
  case atStart => exact ⟨0, by omega, by omega, by simp, H4.out.2.1, H4.out.1, H4.out.2.2.1⟩
  case round =>
    obtain ⟨i, hi, hq, rfl, hS, hd, hb⟩ := hrel
    obtain ⟨sA, es⟩ : ∃ s, s = (fLp xs s0 i).2 := ⟨_, rfl⟩
    rw [← es] at hd
    obtain ⟨ao, co, ev⟩ := hS.row.form
    rw [List.length_map, fLp_len] at ev
    subst ev
    have hsz : W1.heap.size ≤ wr.heap.size := hb.size
    have HR : Hid _ := And.intro hS (And.intro hd (And.intro hb (And.intro hq es)))
    clear hS hd hb hq es
    by_cases hlt : i ≤ m
    · have hge : (0 : Int) ≤ (m : Int) - i := by omega
      go_upto_region 7 with fail
      obtain ⟨oA, eoA⟩ : ∃ o, o = foA xs sA := ⟨_, rfl⟩
      have eo0 : k15f.getD (nextV xs 15 sA).toNat 0 = oA.f0 := by rw [eoA]; rfl
      have eo1 : nextV xs 12 (nextS xs 15 sA) = oA.f1 := by rw [eoA]; rfl
      have eo2 : nextV xs 60 (nextS xs 12 (nextS xs 15 sA)) = oA.f2 := by rw [eoA]; rfl
      have eo3 : (nextV xs 3 (nextS xs 60 (nextS xs 12 (nextS xs 15 sA))) == 3 - 1) = oA.f3 := by rw [eoA]; rfl
      have HKN : Hid _ := And.intro eo0 (And.intro eo1 (And.intro eo2 (And.intro eo3 eoA)))
      clear eo0 eo1 eo2 eo3 eoA
      refine region_I (fun f a wx => ∃ u8 u23 u24 u25 u26 u27 u28 u29 u30 u31 u32 u33 u34 : Value, a = { tmps := #[v, undef, .pointer (some ⟨w.heap.size, 0, none⟩), .slice none 0 0, .pointer (some ⟨g, 0, none⟩), .pointer (some ⟨b5, 0, none⟩), .slice ao i co, .int .i64 ((m : Int) - i), u8, v, .pointer (some ⟨g, 0, none⟩), .pointer (some ⟨g, 0, none⟩), .agg #[.bool F.sv, .int .i64 F.cw, .int .i64 F.sw, .int .i64 F.tw, .int .i64 F.ow, .int .i64 F.pc, .int .i64 F.ps, .int .i64 F.pt, .int .i64 F.po], .slice (some ⟨W1.heap.size, 0, none⟩) 0 0, .pointer (some ⟨g, 0, none⟩), .pointer (some ⟨g, 0, none⟩), .int .i64 k, .int .i64 (k + 1), .int .i64 (m : Int), .int .i64 ((m : Int) - i), .bool true, u21, u22, u23, u24, u25, u26, u27, u28, u29, u30, u31, u32, u33, u34, u35, u36, u37, u38, u39, u40, u41, u42, u43, u44, u45, u46, u47, u48, u49, u50, u51, u52, u53, u54, u55, u56, undef, undef], defers := [] } ∧ FJ wr g v xs sA (42 + 24 * i) oA f wx u8 u23 u24 u25 u26 u27 u28 u29 u30 u31 u32 u33 u34) (by kernel_rfl) (by kernel_rfl) ?step ?done ?start
      case start =>
        exact ⟨_, _, _, _, _, _, _, _, _, _, _, _, _, rfl, ⟨fun h => by simp at h, fun h => by simp at h, fun h => by simp at h, fun h => by simp at h, fun h => by simp at h, fun h => by simp at h, fun h => by simp at h, fun h => by simp at h, fun h => by simp at h, fun h => by simp at h, fun h => by simp at h, fun h => by simp at h, fun h => by simp at h, by simpa using (show Dz wr.drew g v xs sA (42 + 24 * i) from HR.out.2.1.grown (r := none) ⟨rfl, rfl, rfl, Nat.le_refl _, fun _ _ _ => rfl⟩ (fun k hk => by cases hk)), ⟨rfl, rfl, rfl, Nat.le_refl _, fun _ _ _ => rfl⟩, fun h => by simp at h, fun h => by simp at h, fun h => by simp at h, fun h => by simp at h⟩⟩
      case step =>
        intro f a wx j op hInv hoj hfj hall K hK
        obtain ⟨u8, u23, u24, u25, u26, u27, u28, u29, u30, u31, u32, u33, u34, rfl, hI⟩ := hInv
        have hgl : g < wx.heap.size := hI.dz.lt
        have hj : j < 14 := (Array.getElem?_eq_some_iff.1 hoj).1
        have hp2 := toNat_leF (f 2)
        have hp6 := toNat_leF (f 6)
        have hp8 := toNat_leF (f 8)
        have hp10 := toNat_leF (f 10)
        have h15 := nextV_bd xs 15 sA (by decide)
        obtain rfl | rfl | rfl | rfl | rfl | rfl | rfl | rfl | rfl | rfl | rfl | rfl | rfl | rfl : j = 0 ∨ j = 1 ∨ j = 2 ∨ j = 3 ∨ j = 4 ∨ j = 5 ∨ j = 6 ∨ j = 7 ∨ j = 8 ∨ j = 9 ∨ j = 10 ∨ j = 11 ∨ j = 12 ∨ j = 13 := by omega
        · obtain rfl := Option.some.inj hoj
          have h13 : f 13 = false := by
            cases h : f 13 with
            | false => rfl
            | true => exact absurd (hI.late h 0 (by omega)) (by rw [hfj]; simp)
          have HI2 : Hid _ := And.intro hI True.intro
          clear hI
          go_simp
          refine hK _ _ ?_
          refine ⟨_, _, _, _, _, _, _, _, _, _, _, _, _, rfl, ?_⟩
          have hI := HI2.out.1
          exact ⟨fun _ => fun _ => ⟨_, rfl, heap_alloc_new wx _, by omega⟩, fun h => hI.x1 (by simpa using h), fun h => hI.x2 (by simpa using h), fun h h3 => by obtain ⟨b, e, hb, hn⟩ := hI.x3 (by simpa using h) (by simpa using h3); exact ⟨b, e, al_oldF hb _, hn⟩, fun h => hI.x4 (by simpa using h), fun h => hI.x5 (by simpa using h), fun h => hI.x6 (by simpa using h), fun h => hI.x7 (by simpa using h), fun h => hI.x8 (by simpa using h), fun h => hI.x9 (by simpa using h), fun h => hI.x10 (by simpa using h), fun h => hI.x11 (by simpa using h), fun h => by obtain ⟨b, e, hn, hz, hb⟩ := hI.x12 (by simpa using h); exact ⟨b, e, hn, hz, by simpa using (al_oldF hb _)⟩, by simpa using hI.dz.alloc _, grown_trF hI.gr (grown_allocF wx _ _), fun h => by have := hI.q6 (by simpa using h); simp [this], fun h => by have := hI.q8 (by simpa using h); simp [this], fun h => by have := hI.q10 (by simpa using h); simp [this], fun h i hi => by have := hI.late (by simpa using h) i hi; simp [this]⟩
        · obtain rfl := Option.some.inj hoj
          have h13 : f 13 = false := by
            cases h : f 13 with
            | false => rfl
            | true => exact absurd (hI.late h 1 (by omega)) (by rw [hfj]; simp)
          have HI2 : Hid _ := And.intro hI True.intro
          clear hI
          go_simp
          refine hK _ _ ?_
          refine ⟨_, _, _, _, _, _, _, _, _, _, _, _, _, rfl, ?_⟩
          have hI := HI2.out.1
          exact ⟨fun h h3 => by obtain ⟨b, e, hb, hn⟩ := hI.x0 (by simpa using h) (by simpa using h3); exact ⟨b, e, hb, hn⟩, fun _ => rfl, fun h => hI.x2 (by simpa using h), fun h h3 => by obtain ⟨b, e, hb, hn⟩ := hI.x3 (by simpa using h) (by simpa using h3); exact ⟨b, e, hb, hn⟩, fun h => hI.x4 (by simpa using h), fun h => hI.x5 (by simpa using h), fun h => hI.x6 (by simpa using h), fun h => hI.x7 (by simpa using h), fun h => hI.x8 (by simpa using h), fun h => hI.x9 (by simpa using h), fun h => hI.x10 (by simpa using h), fun h => hI.x11 (by simpa using h), fun h => by obtain ⟨b, e, hn, hz, hb⟩ := hI.x12 (by simpa using h); exact ⟨b, e, hn, hz, by simpa using (hb)⟩, by simpa using hI.dz, hI.gr, fun h => by have := hI.q6 (by simpa using h); simp [this], fun h => by have := hI.q8 (by simpa using h); simp [this], fun h => by have := hI.q10 (by simpa using h); simp [this], fun h i hi => by have := hI.late (by simpa using h) i hi; simp [this]⟩
        · obtain rfl := Option.some.inj hoj
          have h1_ := hall ⟨1, .data⟩ (by simp) rfl
          have h13 : f 13 = false := by
            cases h : f 13 with
            | false => rfl
            | true => exact absurd (hI.late h 2 (by omega)) (by rw [hfj]; simp)
          obtain rfl := hI.x1 h1_
          have n6 : f 6 = false := by
            cases h : f 6 with
            | false => rfl
            | true => exact absurd (hI.q6 h) (by rw [hfj]; simp)
          have n8 : f 8 = false := by
            cases h : f 8 with
            | false => rfl
            | true => exact absurd (hI.q8 h) (by rw [n6]; simp)
          have n10 : f 10 = false := by
            cases h : f 10 with
            | false => rfl
            | true => exact absurd (hI.q10 h) (by rw [n8]; simp)
          have d0 : Dz wx g v xs (sA) (42 + 24 * i + 0) := by have := hI.dz; simp only [hfj, n6, n8, n10] at this; exact (show Dz wx g v xs (sA) _ by simpa using this).mono (by simp; try omega)
          have HC := nextZ g v xs _ _ 15 wx d0 (by omega) (by decide) (by decide)
          have HI2 : Hid _ := And.intro hI True.intro
          clear hI d0
          go_simp
          go_at_call 13
          refine HC.mono ?_
          rintro e w7 ⟨n, s2, en, rfl, rfl, a0, a1, d7, g7⟩
          subst en
          refine hK _ _ ?_
          refine ⟨_, _, _, _, _, _, _, _, _, _, _, _, _, rfl, ?_⟩
          have hI := HI2.out.1
          exact ⟨fun h h3 => by obtain ⟨b, e, hb, hn⟩ := hI.x0 (by simpa using h) (by simpa using h3); exact ⟨b, e, blk_drawnT hb g7 (by omega), hn⟩, fun h => hI.x1 (by simpa using h), fun _ => rfl, fun h h3 => by obtain ⟨b, e, hb, hn⟩ := hI.x3 (by simpa using h) (by simpa using h3); exact ⟨b, e, blk_drawnT hb g7 (by omega), hn⟩, fun h => hI.x4 (by simpa using h), fun h => hI.x5 (by simpa using h), fun h => hI.x6 (by simpa using h), fun h => hI.x7 (by simpa using h), fun h => hI.x8 (by simpa using h), fun h => hI.x9 (by simpa using h), fun h => hI.x10 (by simpa using h), fun h => hI.x11 (by simpa using h), fun h => by obtain ⟨b, e, hn, hz, hb⟩ := hI.x12 (by simpa using h); exact ⟨b, e, hn, hz, by simpa using (blk_drawnT hb g7 (by omega))⟩, by simpa [hfj, n6, n8, n10] using d7.mono (by omega), grown_trF hI.gr g7, fun _ => by simp, fun h => by have := hI.q8 (by simpa using h); simp [this], fun h => by have := hI.q10 (by simpa using h); simp [this], fun h i hi => by have := hI.late (by simpa using h) i hi; simp [this]⟩
        · obtain rfl := Option.some.inj hoj
          have h0_ := hall ⟨0, .data⟩ (by simp) rfl
          have h2_ := hall ⟨2, .data⟩ (by simp) rfl
          have h13 : f 13 = false := by
            cases h : f 13 with
            | false => rfl
            | true => exact absurd (hI.late h 3 (by omega)) (by rw [hfj]; simp)
          obtain ⟨b0, rfl, t0, n0⟩ := hI.x0 h0_ hfj
          obtain rfl := hI.x2 h2_
          have HI2 : Hid _ := And.intro hI True.intro
          clear hI
          go_simp
          refine hK _ _ ?_
          refine ⟨_, _, _, _, _, _, _, _, _, _, _, _, _, rfl, ?_⟩
          have hI := HI2.out.1
          exact ⟨fun h h3 => by simp at h3, fun h => hI.x1 (by simpa using h), fun h => hI.x2 (by simpa using h), fun _ => fun _ => ⟨b0, rfl, t0, n0⟩, fun h => hI.x4 (by simpa using h), fun h => hI.x5 (by simpa using h), fun h => hI.x6 (by simpa using h), fun h => hI.x7 (by simpa using h), fun h => hI.x8 (by simpa using h), fun h => hI.x9 (by simpa using h), fun h => hI.x10 (by simpa using h), fun h => hI.x11 (by simpa using h), fun h => by obtain ⟨b, e, hn, hz, hb⟩ := hI.x12 (by simpa using h); exact ⟨b, e, hn, hz, by simpa using (hb)⟩, by simpa using hI.dz, hI.gr, fun h => by have := hI.q6 (by simpa using h); simp [this], fun h => by have := hI.q8 (by simpa using h); simp [this], fun h => by have := hI.q10 (by simpa using h); simp [this], fun h i hi => by have := hI.late (by simpa using h) i hi; simp [this]⟩
        · obtain rfl := Option.some.inj hoj
          have h3_ := hall ⟨3, .data⟩ (by simp) rfl
          have h13 : f 13 = false := by
            cases h : f 13 with
            | false => rfl
            | true => exact absurd (hI.late h 4 (by omega)) (by rw [hfj]; simp)
          obtain ⟨b3, rfl, t3, n3⟩ := hI.x3 h3_ hfj
          have c3 : wx.cell? ⟨b3, (nextV xs 15 sA).toNat, none⟩ = some (.int .i64 oA.f0) := by rw [← HKN.out.1]; exact (bk_cell t3 _).trans (tabF15_at _ h15.1 h15.2)
          have HI2 : Hid _ := And.intro hI True.intro
          clear hI
          go_simp
          refine hK _ _ ?_
          refine ⟨_, _, _, _, _, _, _, _, _, _, _, _, _, rfl, ?_⟩
          have hI := HI2.out.1
          exact ⟨fun h h3 => by obtain ⟨b, e, hb, hn⟩ := hI.x0 (by simpa using h) (by simpa using h3); exact ⟨b, e, hb, hn⟩, fun h => hI.x1 (by simpa using h), fun h => hI.x2 (by simpa using h), fun h h3 => by simp at h3, fun _ => rfl, fun h => hI.x5 (by simpa using h), fun h => hI.x6 (by simpa using h), fun h => hI.x7 (by simpa using h), fun h => hI.x8 (by simpa using h), fun h => hI.x9 (by simpa using h), fun h => hI.x10 (by simpa using h), fun h => hI.x11 (by simpa using h), fun h => by obtain ⟨b, e, hn, hz, hb⟩ := hI.x12 (by simpa using h); exact ⟨b, e, hn, hz, by simpa using (hb)⟩, by simpa using hI.dz, hI.gr, fun h => by have := hI.q6 (by simpa using h); simp [this], fun h => by have := hI.q8 (by simpa using h); simp [this], fun h => by have := hI.q10 (by simpa using h); simp [this], fun h i hi => by have := hI.late (by simpa using h) i hi; simp [this]⟩
        · obtain rfl := Option.some.inj hoj
          have h13 : f 13 = false := by
            cases h : f 13 with
            | false => rfl
            | true => exact absurd (hI.late h 5 (by omega)) (by rw [hfj]; simp)
          have HI2 : Hid _ := And.intro hI True.intro
          clear hI
          go_simp
          refine hK _ _ ?_
          refine ⟨_, _, _, _, _, _, _, _, _, _, _, _, _, rfl, ?_⟩
          have hI := HI2.out.1
          exact ⟨fun h h3 => by obtain ⟨b, e, hb, hn⟩ := hI.x0 (by simpa using h) (by simpa using h3); exact ⟨b, e, hb, hn⟩, fun h => hI.x1 (by simpa using h), fun h => hI.x2 (by simpa using h), fun h h3 => by obtain ⟨b, e, hb, hn⟩ := hI.x3 (by simpa using h) (by simpa using h3); exact ⟨b, e, hb, hn⟩, fun h => hI.x4 (by simpa using h), fun _ => rfl, fun h => hI.x6 (by simpa using h), fun h => hI.x7 (by simpa using h), fun h => hI.x8 (by simpa using h), fun h => hI.x9 (by simpa using h), fun h => hI.x10 (by simpa using h), fun h => hI.x11 (by simpa using h), fun h => by obtain ⟨b, e, hn, hz, hb⟩ := hI.x12 (by simpa using h); exact ⟨b, e, hn, hz, by simpa using (hb)⟩, by simpa using hI.dz, hI.gr, fun h => by have := hI.q6 (by simpa using h); simp [this], fun h => by have := hI.q8 (by simpa using h); simp [this], fun h => by have := hI.q10 (by simpa using h); simp [this], fun h i hi => by have := hI.late (by simpa using h) i hi; simp [this]⟩
        · obtain rfl := Option.some.inj hoj
          have h5_ := hall ⟨5, .data⟩ (by simp) rfl
          have h2_ := hall ⟨2, .chain⟩ (by simp) rfl
          have h13 : f 13 = false := by
            cases h : f 13 with
            | false => rfl
            | true => exact absurd (hI.late h 6 (by omega)) (by rw [hfj]; simp)
          obtain rfl := hI.x5 h5_
          have n8 : f 8 = false := by
            cases h : f 8 with
            | false => rfl
            | true => exact absurd (hI.q8 h) (by rw [hfj]; simp)
          have n10 : f 10 = false := by
            cases h : f 10 with
            | false => rfl
            | true => exact absurd (hI.q10 h) (by rw [n8]; simp)
          have d0 : Dz wx g v xs (nextS xs 15 sA) (42 + 24 * i + 3) := by have := hI.dz; simp only [hfj, n8, n10, h2_] at this; exact (show Dz wx g v xs (nextS xs 15 sA) _ by simpa using this).mono (by simp; try omega)
          have HC := nextZ g v xs _ _ 12 wx d0 (by omega) (by decide) (by decide)
          have HI2 : Hid _ := And.intro hI True.intro
          clear hI d0
          go_simp
          go_at_call 13
          refine HC.mono ?_
          rintro e w7 ⟨n, s2, en, rfl, rfl, a0, a1, d7, g7⟩
          obtain rfl : n = oA.f1 := en.trans HKN.out.2.1
          refine hK _ _ ?_
          refine ⟨_, _, _, _, _, _, _, _, _, _, _, _, _, rfl, ?_⟩
          have hI := HI2.out.1
          exact ⟨fun h h3 => by obtain ⟨b, e, hb, hn⟩ := hI.x0 (by simpa using h) (by simpa using h3); exact ⟨b, e, blk_drawnT hb g7 (by omega), hn⟩, fun h => hI.x1 (by simpa using h), fun h => hI.x2 (by simpa using h), fun h h3 => by obtain ⟨b, e, hb, hn⟩ := hI.x3 (by simpa using h) (by simpa using h3); exact ⟨b, e, blk_drawnT hb g7 (by omega), hn⟩, fun h => hI.x4 (by simpa using h), fun h => hI.x5 (by simpa using h), fun _ => rfl, fun h => hI.x7 (by simpa using h), fun h => hI.x8 (by simpa using h), fun h => hI.x9 (by simpa using h), fun h => hI.x10 (by simpa using h), fun h => hI.x11 (by simpa using h), fun h => by obtain ⟨b, e, hn, hz, hb⟩ := hI.x12 (by simpa using h); exact ⟨b, e, hn, hz, by simpa using (blk_drawnT hb g7 (by omega))⟩, by simpa [hfj, n8, n10, h2_] using d7.mono (by omega), grown_trF hI.gr g7, fun _ => by simp [h2_], fun _ => by simp, fun h => by have := hI.q10 (by simpa using h); simp [this], fun h i hi => by have := hI.late (by simpa using h) i hi; simp [this]⟩
        · obtain rfl := Option.some.inj hoj
          have h13 : f 13 = false := by
            cases h : f 13 with
            | false => rfl
            | true => exact absurd (hI.late h 7 (by omega)) (by rw [hfj]; simp)
          have HI2 : Hid _ := And.intro hI True.intro
          clear hI
          go_simp
          refine hK _ _ ?_
          refine ⟨_, _, _, _, _, _, _, _, _, _, _, _, _, rfl, ?_⟩
          have hI := HI2.out.1
          exact ⟨fun h h3 => by obtain ⟨b, e, hb, hn⟩ := hI.x0 (by simpa using h) (by simpa using h3); exact ⟨b, e, hb, hn⟩, fun h => hI.x1 (by simpa using h), fun h => hI.x2 (by simpa using h), fun h h3 => by obtain ⟨b, e, hb, hn⟩ := hI.x3 (by simpa using h) (by simpa using h3); exact ⟨b, e, hb, hn⟩, fun h => hI.x4 (by simpa using h), fun h => hI.x5 (by simpa using h), fun h => hI.x6 (by simpa using h), fun _ => rfl, fun h => hI.x8 (by simpa using h), fun h => hI.x9 (by simpa using h), fun h => hI.x10 (by simpa using h), fun h => hI.x11 (by simpa using h), fun h => by obtain ⟨b, e, hn, hz, hb⟩ := hI.x12 (by simpa using h); exact ⟨b, e, hn, hz, by simpa using (hb)⟩, by simpa using hI.dz, hI.gr, fun h => by have := hI.q6 (by simpa using h); simp [this], fun h => by have := hI.q8 (by simpa using h); simp [this], fun h => by have := hI.q10 (by simpa using h); simp [this], fun h i hi => by have := hI.late (by simpa using h) i hi; simp [this]⟩
        · obtain rfl := Option.some.inj hoj
          have h7_ := hall ⟨7, .data⟩ (by simp) rfl
          have h6_ := hall ⟨6, .chain⟩ (by simp) rfl
          have h13 : f 13 = false := by
            cases h : f 13 with
            | false => rfl
            | true => exact absurd (hI.late h 8 (by omega)) (by rw [hfj]; simp)
          obtain rfl := hI.x7 h7_
          have n10 : f 10 = false := by
            cases h : f 10 with
            | false => rfl
            | true => exact absurd (hI.q10 h) (by rw [hfj]; simp)
          have h2_ := hI.q6 h6_
          have d0 : Dz wx g v xs (nextS xs 12 (nextS xs 15 sA)) (42 + 24 * i + 6) := by have := hI.dz; simp only [hfj, n10, h2_, h6_] at this; exact (show Dz wx g v xs (nextS xs 12 (nextS xs 15 sA)) _ by simpa using this).mono (by simp; try omega)
          have HC := nextZ g v xs _ _ 60 wx d0 (by omega) (by decide) (by decide)
          have HI2 : Hid _ := And.intro hI True.intro
          clear hI d0
          go_simp
          go_at_call 13
          refine HC.mono ?_
          rintro e w7 ⟨n, s2, en, rfl, rfl, a0, a1, d7, g7⟩
          obtain rfl : n = oA.f2 := en.trans HKN.out.2.2.1
          refine hK _ _ ?_
          refine ⟨_, _, _, _, _, _, _, _, _, _, _, _, _, rfl, ?_⟩
          have hI := HI2.out.1
          exact ⟨fun h h3 => by obtain ⟨b, e, hb, hn⟩ := hI.x0 (by simpa using h) (by simpa using h3); exact ⟨b, e, blk_drawnT hb g7 (by omega), hn⟩, fun h => hI.x1 (by simpa using h), fun h => hI.x2 (by simpa using h), fun h h3 => by obtain ⟨b, e, hb, hn⟩ := hI.x3 (by simpa using h) (by simpa using h3); exact ⟨b, e, blk_drawnT hb g7 (by omega), hn⟩, fun h => hI.x4 (by simpa using h), fun h => hI.x5 (by simpa using h), fun h => hI.x6 (by simpa using h), fun h => hI.x7 (by simpa using h), fun _ => rfl, fun h => hI.x9 (by simpa using h), fun h => hI.x10 (by simpa using h), fun h => hI.x11 (by simpa using h), fun h => by obtain ⟨b, e, hn, hz, hb⟩ := hI.x12 (by simpa using h); exact ⟨b, e, hn, hz, by simpa using (blk_drawnT hb g7 (by omega))⟩, by simpa [hfj, n10, h2_, h6_] using d7.mono (by omega), grown_trF hI.gr g7, fun h => by have := hI.q6 (by simpa using h); simp [this], fun _ => by simp [h6_], fun _ => by simp, fun h i hi => by have := hI.late (by simpa using h) i hi; simp [this]⟩
        · obtain rfl := Option.some.inj hoj
          have h13 : f 13 = false := by
            cases h : f 13 with
            | false => rfl
            | true => exact absurd (hI.late h 9 (by omega)) (by rw [hfj]; simp)
          have HI2 : Hid _ := And.intro hI True.intro
          clear hI
          go_simp
          refine hK _ _ ?_
          refine ⟨_, _, _, _, _, _, _, _, _, _, _, _, _, rfl, ?_⟩
          have hI := HI2.out.1
          exact ⟨fun h h3 => by obtain ⟨b, e, hb, hn⟩ := hI.x0 (by simpa using h) (by simpa using h3); exact ⟨b, e, hb, hn⟩, fun h => hI.x1 (by simpa using h), fun h => hI.x2 (by simpa using h), fun h h3 => by obtain ⟨b, e, hb, hn⟩ := hI.x3 (by simpa using h) (by simpa using h3); exact ⟨b, e, hb, hn⟩, fun h => hI.x4 (by simpa using h), fun h => hI.x5 (by simpa using h), fun h => hI.x6 (by simpa using h), fun h => hI.x7 (by simpa using h), fun h => hI.x8 (by simpa using h), fun _ => rfl, fun h => hI.x10 (by simpa using h), fun h => hI.x11 (by simpa using h), fun h => by obtain ⟨b, e, hn, hz, hb⟩ := hI.x12 (by simpa using h); exact ⟨b, e, hn, hz, by simpa using (hb)⟩, by simpa using hI.dz, hI.gr, fun h => by have := hI.q6 (by simpa using h); simp [this], fun h => by have := hI.q8 (by simpa using h); simp [this], fun h => by have := hI.q10 (by simpa using h); simp [this], fun h i hi => by have := hI.late (by simpa using h) i hi; simp [this]⟩
        · obtain rfl := Option.some.inj hoj
          have h9_ := hall ⟨9, .data⟩ (by simp) rfl
          have h8_ := hall ⟨8, .chain⟩ (by simp) rfl
          have h13 : f 13 = false := by
            cases h : f 13 with
            | false => rfl
            | true => exact absurd (hI.late h 10 (by omega)) (by rw [hfj]; simp)
          obtain rfl := hI.x9 h9_
          have h6_ := hI.q8 h8_
          have h2_ := hI.q6 h6_
          have d0 : Dz wx g v xs (nextS xs 60 (nextS xs 12 (nextS xs 15 sA))) (42 + 24 * i + 9) := by have := hI.dz; simp only [hfj, h2_, h6_, h8_] at this; exact (show Dz wx g v xs (nextS xs 60 (nextS xs 12 (nextS xs 15 sA))) _ by simpa using this).mono (by simp; try omega)
          have HC := chanceZ g v xs _ _ 3 wx d0 (by omega) (by decide) (by decide)
          have HI2 : Hid _ := And.intro hI True.intro
          clear hI d0
          go_simp
          go_at_call 15
          refine HC.mono ?_
          rintro e w7 ⟨n, s2, en, rfl, rfl, d7, g7⟩
          obtain rfl : n = oA.f3 := en.trans HKN.out.2.2.2.1
          refine hK _ _ ?_
          refine ⟨_, _, _, _, _, _, _, _, _, _, _, _, _, rfl, ?_⟩
          have hI := HI2.out.1
          exact ⟨fun h h3 => by obtain ⟨b, e, hb, hn⟩ := hI.x0 (by simpa using h) (by simpa using h3); exact ⟨b, e, blk_drawnT hb g7 (by omega), hn⟩, fun h => hI.x1 (by simpa using h), fun h => hI.x2 (by simpa using h), fun h h3 => by obtain ⟨b, e, hb, hn⟩ := hI.x3 (by simpa using h) (by simpa using h3); exact ⟨b, e, blk_drawnT hb g7 (by omega), hn⟩, fun h => hI.x4 (by simpa using h), fun h => hI.x5 (by simpa using h), fun h => hI.x6 (by simpa using h), fun h => hI.x7 (by simpa using h), fun h => hI.x8 (by simpa using h), fun h => hI.x9 (by simpa using h), fun _ => rfl, fun h => hI.x11 (by simpa using h), fun h => by obtain ⟨b, e, hn, hz, hb⟩ := hI.x12 (by simpa using h); exact ⟨b, e, hn, hz, by simpa using (blk_drawnT hb g7 (by omega))⟩, by simpa [hfj, h2_, h6_, h8_] using d7.mono (by omega), grown_trF hI.gr g7, fun h => by have := hI.q6 (by simpa using h); simp [this], fun h => by have := hI.q8 (by simpa using h); simp [this], fun _ => by simp [h8_], fun h i hi => by have := hI.late (by simpa using h) i hi; simp [this]⟩
        · obtain rfl := Option.some.inj hoj
          have h4_ := hall ⟨4, .data⟩ (by simp) rfl
          have h6_ := hall ⟨6, .data⟩ (by simp) rfl
          have h8_ := hall ⟨8, .data⟩ (by simp) rfl
          have h10_ := hall ⟨10, .data⟩ (by simp) rfl
          have h13 : f 13 = false := by
            cases h : f 13 with
            | false => rfl
            | true => exact absurd (hI.late h 11 (by omega)) (by rw [hfj]; simp)
          obtain rfl := hI.x4 h4_
          obtain rfl := hI.x6 h6_
          obtain rfl := hI.x8 h8_
          obtain rfl := hI.x10 h10_
          have HI2 : Hid _ := And.intro hI True.intro
          clear hI
          go_simp
          refine hK _ _ ?_
          refine ⟨_, _, _, _, _, _, _, _, _, _, _, _, _, rfl, ?_⟩
          have hI := HI2.out.1
          exact ⟨fun h h3 => by obtain ⟨b, e, hb, hn⟩ := hI.x0 (by simpa using h) (by simpa using h3); exact ⟨b, e, hb, hn⟩, fun h => hI.x1 (by simpa using h), fun h => hI.x2 (by simpa using h), fun h h3 => by obtain ⟨b, e, hb, hn⟩ := hI.x3 (by simpa using h) (by simpa using h3); exact ⟨b, e, hb, hn⟩, fun h => hI.x4 (by simpa using h), fun h => hI.x5 (by simpa using h), fun h => hI.x6 (by simpa using h), fun h => hI.x7 (by simpa using h), fun h => hI.x8 (by simpa using h), fun h => hI.x9 (by simpa using h), fun h => hI.x10 (by simpa using h), fun _ => rfl, fun h => by obtain ⟨b, e, hn, hz, hb⟩ := hI.x12 (by simpa using h); exact ⟨b, e, hn, hz, by simpa using (hb)⟩, by simpa using hI.dz, hI.gr, fun h => by have := hI.q6 (by simpa using h); simp [this], fun h => by have := hI.q8 (by simpa using h); simp [this], fun h => by have := hI.q10 (by simpa using h); simp [this], fun h i hi => by have := hI.late (by simpa using h) i hi; simp [this]⟩
        · obtain rfl := Option.some.inj hoj
          have h13 : f 13 = false := by
            cases h : f 13 with
            | false => rfl
            | true => exact absurd (hI.late h 12 (by omega)) (by rw [hfj]; simp)
          have HI2 : Hid _ := And.intro hI True.intro
          clear hI
          go_simp
          refine hK _ _ ?_
          refine ⟨_, _, _, _, _, _, _, _, _, _, _, _, _, rfl, ?_⟩
          have hI := HI2.out.1
          exact ⟨fun h h3 => by obtain ⟨b, e, hb, hn⟩ := hI.x0 (by simpa using h) (by simpa using h3); exact ⟨b, e, al_oldF hb _, hn⟩, fun h => hI.x1 (by simpa using h), fun h => hI.x2 (by simpa using h), fun h h3 => by obtain ⟨b, e, hb, hn⟩ := hI.x3 (by simpa using h) (by simpa using h3); exact ⟨b, e, al_oldF hb _, hn⟩, fun h => hI.x4 (by simpa using h), fun h => hI.x5 (by simpa using h), fun h => hI.x6 (by simpa using h), fun h => hI.x7 (by simpa using h), fun h => hI.x8 (by simpa using h), fun h => hI.x9 (by simpa using h), fun h => hI.x10 (by simpa using h), fun h => hI.x11 (by simpa using h), fun _ => ⟨_, rfl, by omega, hI.gr.size, by simp only [show ((13 : Nat) == 12 || f 13) = false by rw [h13]; rfl]; exact heap_alloc_new wx _⟩, by simpa using hI.dz.alloc _, grown_trF hI.gr (grown_allocF wx _ _), fun h => by have := hI.q6 (by simpa using h); simp [this], fun h => by have := hI.q8 (by simpa using h); simp [this], fun h => by have := hI.q10 (by simpa using h); simp [this], fun h i hi => by have := hI.late (by simpa using h) i hi; simp [this]⟩
        · obtain rfl := Option.some.inj hoj
          have h12_ := hall ⟨12, .data⟩ (by simp) rfl
          have h11_ := hall ⟨11, .data⟩ (by simp) rfl
          obtain ⟨b9, rfl, n9, z9, t9⟩ := hI.x12 h12_
          obtain rfl := hI.x11 h11_
          rw [hfj] at t9
          simp only [Bool.false_eq_true, if_false] at t9
          have fz0 := bk_free t9 0
          have fz1 := bk_free t9 1
          have fz2 := bk_free t9 2
          have fz3 := bk_free t9 3
          have cz0 := bk_cell t9 0
          have cz1 := bk_cell t9 1
          have cz2 := bk_cell t9 2
          have cz3 := bk_cell t9 3
          have HI2 : Hid _ := And.intro hI True.intro
          clear hI
          go_simp
          refine hK _ _ ?_
          refine ⟨_, _, _, _, _, _, _, _, _, _, _, _, _, rfl, ?_⟩
          have hI := HI2.out.1
          have hAll : ∀ i, i < 13 → f i = true := by
            intro i hi
            obtain rfl | rfl | rfl | rfl | rfl | rfl | rfl | rfl | rfl | rfl | rfl | rfl | rfl : i = 0 ∨ i = 1 ∨ i = 2 ∨ i = 3 ∨ i = 4 ∨ i = 5 ∨ i = 6 ∨ i = 7 ∨ i = 8 ∨ i = 9 ∨ i = 10 ∨ i = 11 ∨ i = 12 := by omega
            all_goals exact hall ⟨_, .phase⟩ (by simp) rfl
          have g1 := grown_setCell wx b9 0 (.int .i64 oA.f0)
          have g2 := grown_trans g1 (grown_setCell _ b9 1 (.int .i64 oA.f1))
          have g3 := grown_trans g2 (grown_setCell _ b9 2 (.int .i64 oA.f2))
          have g4 := grown_trans g3 (grown_setCell _ b9 3 (.bool oA.f3))
          have t10 := bk_set (bk_set (bk_set (bk_set t9 0 (.int .i64 oA.f0)) 1 (.int .i64 oA.f1)) 2 (.int .i64 oA.f2)) 3 (.bool oA.f3)
          exact ⟨fun h h3 => by simp [hAll 3 (by omega)] at h3, fun h => hI.x1 (by simpa using h), fun h => hI.x2 (by simpa using h), fun h h3 => by simp [hAll 4 (by omega)] at h3, fun h => hI.x4 (by simpa using h), fun h => hI.x5 (by simpa using h), fun h => hI.x6 (by simpa using h), fun h => hI.x7 (by simpa using h), fun h => hI.x8 (by simpa using h), fun h => hI.x9 (by simpa using h), fun h => hI.x10 (by simpa using h), fun h => hI.x11 (by simpa using h), fun _ => ⟨b9, rfl, n9, z9, by simpa using t10⟩, by simpa using hI.dz.grown g4 (fun k hk => by have := Option.some.inj hk; omega), grown_farF hI.gr g4 z9, fun h => by have := hI.q6 (by simpa using h); simp [this], fun h => by have := hI.q8 (by simpa using h); simp [this], fun h => by have := hI.q10 (by simpa using h); simp [this], fun _ i hi => by have := hAll i hi; simp [this]⟩
      case done =>
        intro f a wx hInv hall
        obtain ⟨u8, u23, u24, u25, u26, u27, u28, u29, u30, u31, u32, u33, u34, rfl, hI⟩ := hInv
        have H5g := hI.gr
        obtain ⟨b9, rfl, n9, z9, t9⟩ := hI.x12 (hall 12 (by decide))
        have t9' : wx.heap[b9]? = some (.cells #[.int .i64 oA.f0, .int .i64 oA.f1, .int .i64 oA.f2, .bool oA.f3] 32 (0, 0)) := by rw [hall 13 (by decide)] at t9; simpa using t9
        obtain ⟨sB, esB⟩ : ∃ s, s = foS xs sA := ⟨_, rfl⟩
        have d9 : Dz wx g v xs sB (42 + 24 * i + 12) := by
          have := hI.dz
          rw [hall 10 (by decide), hall 8 (by decide), hall 6 (by decide), hall 2 (by decide)] at this
          rw [esB]
          unfold foS
          exact (show Dz wx g v xs (nextS xs 3 (nextS xs 60 (nextS xs 12 (nextS xs 15 sA)))) _ by simpa using this).mono (by simp <;> omega)
        have R9 : RF W1 wx g v xs sB (42 + 24 * i + 12) (.slice ao i co) (fLp xs s0 i).1 b9 oA :=
          ⟨d9, HR.out.1.drawnF H5g (by omega), fun e => by have := (HR.out.1.ltF _ e).2; omega, t9', grown_trF HR.out.2.2.1 H5g, by omega⟩
        have H9 : Hid _ := And.intro R9 (And.intro HKN.out.2.2.2.2 esB)
        clear d9 R9 esB t9 t9' hI hall H5g HKN
        dsimp only
        go_wp2_with fail
        go_at_call 13
        refine (nextZ g v xs sB _ 40 _ H9.out.1.dz (by omega) (by decide) (by decide)).mono ?_
        rintro e w6 ⟨k40, s6, ek6, es6, rfl, k40a, k40b, d6, g6⟩
        have H6 : Hid _ := And.intro (H9.out.1.draw d6 g6 (by omega)) (foB_if xs oA sB s6 k40 ek6 es6)
        clear d6 g6 ek6 es6
        go_upto_block 2 with fail
        go_cut [] from 37 to 56 (fun wx => RF W1 wx g v xs (foB xs oA sB).2 (42 + 24 * i + 24) (.slice ao i co) (fLp xs s0 i).1 b9 (foB xs oA sB).1)
        case first =>
          by_cases e0 : k40 = 0
          · subst e0
            have HP := H6.out.2
            rw [if_pos rfl] at HP
            have HQ : Hid _ := And.intro HP True.intro
            clear HP
            go_wp2_with fail
            go_at_call 16
            refine (numberZ g v xs s6 _ _ H6.out.1.dz (by omega)).mono ?_
            rintro e w7 ⟨x, s7, ex, es7, rfl, d7, g7⟩
            have R7 := H6.out.1.draw d7 g7 (by omega)
            obtain ⟨y0, y1, y2, y3⟩ := R7.y
            have fr := R7.free 2
            have R8 := R7.set (by omega) 2 (.int .i64 x) ⟨oA.f0, oA.f1, x, oA.f3⟩ rfl
            have H8 : Hid _ := And.intro R8 (And.intro ex es7)
            clear R7 R8 d7 g7 ex es7
            go_wp2_with fail
            go_meet
            rw [HQ.out.1, ← H8.out.2.1, ← H8.out.2.2]
            exact H8.out.1.mono (by omega)
          by_cases e1 : k40 = 1
          · subst e1
            have HP := H6.out.2
            rw [if_neg (by decide), if_pos rfl] at HP
            have HQ : Hid _ := And.intro HP True.intro
            clear HP e0
            go_wp2_with fail
            go_at_call 16
            refine (numberZ g v xs s6 _ _ H6.out.1.dz (by omega)).mono ?_
            rintro e w7 ⟨x, s7, ex, es7, rfl, d7, g7⟩
            have R7 := H6.out.1.draw d7 g7 (by omega)
            obtain ⟨y0, y1, y2, y3⟩ := R7.y
            have fr := R7.free 1
            have R8 := R7.set (by omega) 1 (.int .i64 x) ⟨oA.f0, x, oA.f2, oA.f3⟩ rfl
            have H8 : Hid _ := And.intro R8 (And.intro ex es7)
            clear R7 R8 d7 g7 ex es7
            go_wp2_with fail
            go_meet
            rw [HQ.out.1, ← H8.out.2.1, ← H8.out.2.2]
            exact H8.out.1.mono (by omega)
          by_cases e2 : k40 = 2
          · subst e2
            have HP := H6.out.2
            rw [if_neg (by decide), if_neg (by decide), if_pos rfl] at HP
            have HQ : Hid _ := And.intro HP True.intro
            clear HP e0 e1
            go_wp2_with fail
            go_at_call 13
            refine (nextZ g v xs s6 _ 11 _ H6.out.1.dz (by omega) (by decide) (by decide)).mono ?_
            rintro e w7 ⟨x, s7, ex, es7, rfl, x0, x1, d7, g7⟩
            have R7 := H6.out.1.draw d7 g7 (by omega)
            obtain ⟨y0, y1, y2, y3⟩ := R7.y
            have fr := R7.free 0
            have R8 := R7.set (by omega) 0 (.int .i64 (x - 1)) ⟨x - 1, oA.f1, oA.f2, oA.f3⟩ rfl
            have H8 : Hid _ := And.intro R8 (And.intro ex es7)
            clear R7 R8 d7 g7 ex es7
            go_wp2_with fail
            go_meet
            rw [HQ.out.1, ← H8.out.2.1, ← H8.out.2.2]
            exact H8.out.1.mono (by omega)
          · have HP := H6.out.2
            rw [if_neg e0, if_neg e1, if_neg e2] at HP
            have HQ : Hid _ := And.intro HP True.intro
            have q0 : (k40 == 0) = false := by simpa using e0
            have q1 : (k40 == 1) = false := by simpa using e1
            have q2 : (k40 == 2) = false := by simpa using e2
            clear HP
            go_wp2_with fail
            go_meet
            rw [HQ.out.1]
            exact H6.out.1.mono (by omega)
        case rest =>
        have RC := hcut
        obtain ⟨rC, eC⟩ : ∃ r, r = foB xs oA sB := ⟨_, rfl⟩
        rw [← eC] at RC
        obtain ⟨oC, sC⟩ := rC
        dsimp only at RC
        obtain ⟨y0, y1, y2, y3⟩ := RC.y
        have hszc : W1.heap.size ≤ wc.heap.size := RC.gr.size
        have HC : Hid _ := And.intro RC eC
        clear RC eC H6 hcut
        go_wp2_with (at_builtin; refine wpList_append_flat rfl (.tmp 53) (.tmp 55) 25 32 Try.underlying25 _ 4 32 infoFlowOp rfl (by decide) (by decide) rfl W1.heap.size (.slice ao i co) (SFlowOp.L (fLp xs s0 i).1) (flatOps _) rfl (HC.out.1.so.below ((Below.refl _ _).alloc (Nat.le_refl _) _)) _ [[.int .i64 oC.f0, .int .i64 oC.f1, .int .i64 oC.f2, .bool oC.f3]] (flatOps [oC]) rfl (lit_flat _ [.int .i64 oC.f0, .int .i64 oC.f1, .int .i64 oC.f2, .bool oC.f3] _) (by rw [List.length_map, fLp_len]; simp; omega) (by simp; omega) ?_; intro v6 w6 o6 g6; have H6 : Hid _ := And.intro o6 g6; clear o6 g6)
        go_roundg (m + 1 - (i + 1))
        case measure => (have := HR.out.2.2.2.1; omega)
        case rel =>
          have e1 : fLp xs s0 (i + 1) = ((fLp xs s0 i).1 ++ [oC], sC) := by
            rw [fLp_succ, ← HR.out.2.2.2.2]
            have e : foD xs sA = (oC, sC) := by
              unfold foD
              rw [← H9.out.2.1, ← H9.out.2.2]
              exact HC.out.2.symm
            rw [e]
          obtain ⟨P1, P2, P3⟩ := HC.out.1.push (by omega) H6.out.1 H6.out.2
          exact ⟨i + 1, by omega, rfl, by congr 1; omega, by rw [e1]; exact P1, by rw [e1]; exact P2.mono (by omega), P3⟩
    · obtain rfl : i = m + 1 := by omega
      have hge : ¬ (0 : Int) ≤ (m : Int) - ((m + 1 : Nat) : Int) := by omega
      have kF5 := blk_drawnT H2.out.2.2.2.1 HR.out.2.2.1 (by omega)
      have kR5 := blk_drawnT H2.out.2.2.1 HR.out.2.2.1 (by have := HG.out.1; omega)
      have Q5 : Hid _ := And.intro kF5 kR5
      clear kF5 kR5
      go_wp2_with (first
        | (refine wpList_load_row rfl 24 _ rfl b5 rfl 24 #[.bool F.sv, .int .i64 F.cw, .int .i64 F.sw, .int .i64 F.tw, .int .i64 F.ow, .int .i64 F.pc, .int .i64 F.ps, .int .i64 F.pt, .int .i64 F.po] (0, 0) _ Q5.out.1 Try.underlying24 rfl infoFSz ?_)
        | (refine wpList_store_row rfl 24 _ _ rfl w.heap.size #[.bool F.sv, .int .i64 F.cw, .int .i64 F.sw, .int .i64 F.tw, .int .i64 F.ow, .int .i64 F.pc, .int .i64 F.ps, .int .i64 F.pt, .int .i64 F.po] rfl rfl 24 _ Q5.out.2 infoFSz rfl (by simp [Value.oneCell']) ?_))
      refine bodyPost_ret (v := .tuple #[.agg #[.bool F.sv, .int .i64 F.cw, .int .i64 F.sw, .int .i64 F.tw, .int .i64 F.ow, .int .i64 F.pc, .int .i64 F.ps, .int .i64 F.pt, .int .i64 F.po], .slice ao (m + 1) co]) ?_ rfl ?_
      · exact results_rtF (t := 24) rfl _ _ w.heap.size _ (fr := (0, 0)) _ _ rfl rfl (setRow_heap wr w.heap.size _ #[.bool F.sv, .int .i64 F.cw, .int .i64 F.sw, .int .i64 F.tw, .int .i64 F.ow, .int .i64 F.pc, .int .i64 F.ps, .int .i64 F.pt, .int .i64 F.po] _ _ Q5.out.2) Try.underlying24 rfl infoFSz
      · have gq : wr.grownBy (wr.setRow w.heap.size #[.bool F.sv, .int .i64 F.cw, .int .i64 F.sw, .int .i64 F.tw, .int .i64 F.ow, .int .i64 F.pc, .int .i64 F.ps, .int .i64 F.pt, .int .i64 F.po]) (some w.heap.size) := ⟨rfl, rfl, rfl, by simp [World.setRow], fun k hk hn => setRow_other wr w.heap.size k _ (fun e => hn (by rw [e]))⟩
        have gw := H2.out.2.1.grown HR.out.2.2.1 H2.out.2.1.size (fun q hq => by have := Option.some.inj hq; have := HG.out.1; omega)
        have e : dfr xs = (fLp xs s0 (m + 1)).1 := by unfold dfr; rw [H4.out.2.2.2.1, H4.out.2.2.2.2]
        refine ⟨_, by rw [← H2.out.2.2.2.2.1]; rfl, ?_, gw.grown gq gw.size (fun q hq => by have := Option.some.inj hq; omega)⟩
        rw [e]
        exact (HR.out.1.drawnF gq (by have := HG.out.1; omega)).mono (by have := H2.out.2.1.size; omega)
end Go.Proofs.Ythjakbpcpfmbjaa
