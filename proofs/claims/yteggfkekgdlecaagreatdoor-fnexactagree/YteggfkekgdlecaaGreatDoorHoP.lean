import Derived.Test.YteggfkekgdlecaaGreatDoorHelP
import Derived.Test.YteggfkekgdlecaaGreatDoorVersS
import Derived.Test.YteggfkekgdlecaaGreatDoorPokS
import Derived.Test.YteggfkekgdlecaaGreatDoorStrNe
import Derived.BigQuiet
import Derived.Deep.LoopGhost
namespace Go.Proofs.YteggfkekgdlecaaGreatDoor
open Go.RowKit
set_option linter.unusedVariables false

/-- One of the names: its length, and that it does not stand among those ahead. -/
def nm1 (L : List ByteArray) (i : Nat) : Prop := (1 ≤ (L.getD i ByteArray.empty).size ∧ (L.getD i ByteArray.empty).size ≤ 16) ∧ ∀ k, k < i → (L.getD k ByteArray.empty).data ≠ (L.getD i ByteArray.empty).data
def nmOK (L : List ByteArray) (most : Nat) : Prop := (1 ≤ L.length ∧ L.length ≤ most) ∧ ∀ i, i < L.length → nm1 L i
instance (L : List ByteArray) (i : Nat) : Decidable (nm1 L i) := by unfold nm1; infer_instance
instance (L : List ByteArray) (most : Nat) : Decidable (nmOK L most) := by unfold nmOK; infer_instance
/-- One of the versions likewise. -/
def vs1 (V : List Int) (i : Nat) : Prop := (1 ≤ V.getD i 0 ∧ V.getD i 0 ≤ 4294967295) ∧ ∀ k, k < i → V.getD k 0 ≠ V.getD i 0
def vsOK (V : List Int) : Prop := (1 ≤ V.length ∧ V.length ≤ 8) ∧ ∀ i, i < V.length → vs1 V i
instance (V : List Int) (i : Nat) : Decidable (vs1 V i) := by unfold vs1; infer_instance
instance (V : List Int) : Decidable (vsOK V) := by unfold vsOK; infer_instance
/-- A valid hello. -/
def heS (h : HE) : Prop := (1 ≤ h.vr ∧ h.vr ≤ 4294967295) ∧ h.vers.length = 0 ∧ nmOK h.nms 1 ∧ pok h.par true = true
def heC (h : HE) : Prop := h.vr = 0 ∧ vsOK h.vers ∧ nmOK h.nms 4 ∧ pok h.par false = true
def heOK (h : HE) : Prop := h.rnd.length = 16 ∧ ((h.kd = 2 ∧ heS h) ∨ (h.kd = 1 ∧ heC h))
instance (h : HE) : Decidable (heS h) := by unfold heS; infer_instance
instance (h : HE) : Decidable (heC h) := by unfold heC; infer_instance
instance (h : HE) : Decidable (heOK h) := by unfold heOK; infer_instance
theorem beq_txt (x y : ByteArray) : (x == y) = (x.data == y.data) := rfl
theorem beq_no {x y : ByteArray} (h : x.data ≠ y.data) : (x == y) = false := by rw [beq_txt]; exact beq_eq_false_iff_ne.2 h
theorem beq_yes {x y : ByteArray} (h : x.data = y.data) : (x == y) = true := by rw [beq_txt, h]; exact beq_self_eq_true _
theorem tl_no {x y : ByteArray} (h : x.data ≠ y.data) : (x.toList == y.toList) = false := by
  rw [toList_data, toList_data]
  exact beq_eq_false_iff_ne.2 (fun e => h (Array.toList_inj.1 e))
theorem tl_yes {x y : ByteArray} (h : x.data = y.data) : (x.toList == y.toList) = true := by
  rw [toList_data, toList_data, h]; exact beq_self_eq_true _
set_option maxRecDepth 20000 in
set_option maxHeartbeats 2000000 in
/-- The model's l12NamesOK. -/
theorem nmS (v : Value) (L : List ByteArray) (most : Nat) (w : World) (hr : TRow w v L) (hl : L.length ≤ 9223372036854775807) (hm : most ≤ 4) :
    Calls Tryz.prog 43 #[v, .int .i64 (most : Int)] w fun e w' => e = .returned (.bool (decide (nmOK L most))) ∧ Below w.heap.size w w' := by
  obtain ⟨ao, ca, rfl, hca⟩ := hr.cells
  obtain ⟨R, eR⟩ : ∃ R, R = decide (nmOK L most) := ⟨_, rfl⟩
  rw [← eR]
  obtain ⟨n, en⟩ : ∃ n, n = L.length := ⟨_, rfl⟩
  rw [← en] at hl hca ⊢
  have H0 : Hid _ := And.intro eR (And.intro en hca)
  clear hca hr
  by_cases c1 : ¬ (1 ≤ n ∧ n ≤ most)
  · have hR : R = false := by rw [eR]; exact decide_eq_false (fun q => c1 (by rw [en]; exact q.1))
    subst hR
    clear eR en H0
    by_cases c0 : n < 1
    · go_enter Tryz.func43, Tryz.ntmps43
      go_wp2
      go_ret
      exact ⟨rfl, Below.refl _ _⟩
    · have c2 : (most : Int) < (n : Int) := by omega
      go_enter Tryz.func43, Tryz.ntmps43
      go_wp2
      go_ret
      exact ⟨rfl, Below.refl _ _⟩
  obtain ⟨c2, c3⟩ := Decidable.not_not.1 c1
  have HC : Hid _ := And.intro c2 c3
  have c4 : ¬ (most : Int) < (n : Int) := by omega
  clear eR en c3 c1
  go_enter Tryz.func43, Tryz.ntmps43
  go_wp2
  go_loopg [5] n (fun q i wr => ∃ k : Nat, k ≤ n ∧ q = n - k ∧ i = .int .i64 (k : Int) ∧ (∃ z, wr = w.drewN z) ∧ ∀ j, j < k → nm1 L j)
  case atStart => exact ⟨0, Nat.zero_le _, rfl, rfl, ⟨0, rfl⟩, fun j h => by omega⟩
  case round =>
    obtain ⟨k, hk, rfl, rfl, ⟨z, rfl⟩, hno⟩ := hrel
    have HN : Hid _ := And.intro hno True.intro
    clear hno
    by_cases hlt : k < n
    · obtain ⟨b, off, rfl, hbl, c1⟩ := H0.out.2.2 k hlt
      obtain ⟨x, ex⟩ : ∃ x, x = L.getD k ByteArray.empty := ⟨_, rfl⟩
      rw [← ex] at c1
      have EX : Hid _ := And.intro ex True.intro
      clear ex
      have c5 : (w.drewN z).cell? ⟨b, off + k, none⟩ = some (.string x) := c1
      by_cases s1 : x.size < 1
      · have hR : R = false := by
          rw [H0.out.1]
          refine decide_eq_false (fun q => ?_)
          have h := (q.2 k (by rw [← H0.out.2.1]; exact hlt)).1.1
          rw [← EX.out.1] at h
          omega
        subst hR
        have s1' : ((x.size : Nat) : Int) < 1 := by omega
        go_wp2
        go_ret
        exact ⟨rfl, below_drewN (Below.refl _ _) _⟩
      by_cases s2 : 16 < x.size
      · have hR : R = false := by
          rw [H0.out.1]
          refine decide_eq_false (fun q => ?_)
          have h := (q.2 k (by rw [← H0.out.2.1]; exact hlt)).1.2
          rw [← EX.out.1] at h
          omega
        subst hR
        have s1' : ¬ ((x.size : Nat) : Int) < 1 := by omega
        have s2' : (16 : Int) < ((x.size : Nat) : Int) := by omega
        go_wp2
        go_ret
        exact ⟨rfl, below_drewN (Below.refl _ _) _⟩
      have s1' : ¬ ((x.size : Nat) : Int) < 1 := by omega
      have s2' : ¬ (16 : Int) < ((x.size : Nat) : Int) := by omega
      go_wp2
      go_loopg [6] k (fun q i wr => ∃ t : Nat, t ≤ k ∧ q = k - t ∧ i = .int .i64 (t : Int) ∧ (∃ z, wr = w.drewN z) ∧ ∀ j, j < t → (L.getD j ByteArray.empty).data ≠ x.data)
      case atStart => exact ⟨0, Nat.zero_le _, rfl, rfl, ⟨_, rfl⟩, fun j h => by omega⟩
      case round =>
        obtain ⟨t, ht, rfl, rfl, ⟨z2, rfl⟩, hne⟩ := hrel
        have HE' : Hid _ := And.intro hne True.intro
        clear hne
        have c6 : (w.drewN z2).cell? ⟨b, off + k, none⟩ = some (.string x) := c1
        by_cases hlt2 : t < k
        · obtain ⟨b2, off2, eb2, hbl2, c2'⟩ := H0.out.2.2 t (by omega)
          cases eb2
          obtain ⟨y, ey⟩ : ∃ y, y = L.getD t ByteArray.empty := ⟨_, rfl⟩
          rw [← ey] at c2'
          have EY : Hid _ := And.intro ey True.intro
          clear ey
          have c7 : (w.drewN z2).cell? ⟨b, off + t, none⟩ = some (.string y) := c2'
          by_cases hxy : y.data = x.data
          · have ht2 : (y == x) = true := beq_yes hxy
            have ht3 : (y.toList == x.toList) = true := tl_yes hxy
            have hR : R = false := by
              rw [H0.out.1]
              refine decide_eq_false (fun q => ?_)
              have h := (q.2 k (by rw [← H0.out.2.1]; exact hlt)).2 t hlt2
              rw [← EX.out.1, ← EY.out.1] at h
              exact h hxy
            subst hR
            clear hxy
            go_wp2
            go_quiet (fail)
            go_wp2
            go_ret
            exact ⟨rfl, below_drewN (below_drewN (Below.refl _ _) _) _⟩
          · have ht2 : (y == x) = false := beq_no hxy
            have ht3 : (y.toList == x.toList) = false := tl_no hxy
            have HXY : Hid _ := And.intro hxy True.intro
            clear hxy
            go_wp2
            go_quiet (fail)
            go_wp2
            go_roundg (k - (t + 1))
            case measure => omega
            case rel =>
              refine ⟨t + 1, by omega, rfl, by go_num, ⟨_, rfl⟩, fun j hj => ?_⟩
              by_cases hjt : j < t
              · exact HE'.out.1 j hjt
              · obtain rfl : j = t := by omega
                rw [← EY.out.1]
                exact HXY.out.1
        · go_wp2
          go_roundg (n - (k + 1))
          case measure => omega
          case rel =>
            refine ⟨k + 1, by omega, rfl, by go_num, ⟨_, rfl⟩, fun j hj => ?_⟩
            by_cases hjt : j < k
            · exact HN.out.1 j hjt
            · obtain rfl : j = k := by omega
              exact ⟨by rw [← EX.out.1]; omega, fun j' hj' => by rw [← EX.out.1]; exact HE'.out.1 j' (by omega)⟩
    · have hR : R = true := by
        rw [H0.out.1]
        exact decide_eq_true ⟨by rw [← H0.out.2.1]; exact HC.out, fun i hi => HN.out.1 i (by rw [← H0.out.2.1] at hi; omega)⟩
      subst hR
      go_wp2
      go_ret
      exact ⟨rfl, below_drewN (Below.refl _ _) _⟩
end Go.Proofs.YteggfkekgdlecaaGreatDoor
