import Derived.Test.YtcljchbceeiheaaDoorHelP
import Derived.Test.YtcljchbceeiheaaDoorVersS
import Derived.Test.YtcljchbceeiheaaDoorPokS
import Derived.Test.YtcljchbceeiheaaDoorStrNe
import Derived.BigQuiet
import Derived.Deep.LoopGhost
import Derived.Test.YtcljchbceeiheaaDoorEqInts
import Derived.Test.YtcljchbceeiheaaDoorToInts
import Derived.Maps.OwnSet
import Derived.Test.YtcljchbceeiheaaDoorHjC
import Derived.Deep.CutRange
import Derived.Test.YtcljchbceeiheaaDoorILong
import Derived.StringKeys
import Derived.Test.YtcljchbceeiheaaDoorHjE
import Derived.Test.YtcljchbceeiheaaDoorHjA
import Derived.Test.YtcljchbceeiheaaDoorDigits
import Derived.Test.YtcljchbceeiheaaDoorAppRow
import Derived.Lib.ConvBytes
import Derived.Deep.RegionLaw
import Derived.Lib.MinMax
namespace Go.Proofs.YtcljchbceeiheaaDoor
open Go.RowKit
set_option linter.unusedVariables false

/-- One of the names: its length, and that it does not stand among those ahead. -/
def nm1 (L : List ByteArray) (i : Nat) : Prop := (1 ≤ (L.getD i ByteArray.empty).size ∧ (L.getD i ByteArray.empty).size ≤ 16) ∧ ∀ k, k < i → (L.getD k ByteArray.empty).data ≠ (L.getD i ByteArray.empty).data
def nmOK (L : List ByteArray) (most : Nat) : Prop := (1 ≤ L.length ∧ L.length ≤ most) ∧ ∀ i, i < L.length → nm1 L i
instance (L : List ByteArray) (i : Nat) : Decidable (nm1 L i) := by unfold nm1; infer_instance
instance (L : List ByteArray) (most : Nat) : Decidable (nmOK L most) := by unfold nmOK; infer_instance
/-- One of the versions likewise. -/
def vs1 (V : List Int) (i : Nat) : Prop := (1 ≤ V.getD i 0 ∧ V.getD i 0 ≤ 4294967295) ∧ ∀ k, k < i → V.getD k 0 ≠ V.getD i 0
def vsOK (V : List Int) : Prop := (1 ≤ V.length ∧ V.length ≤ 8) ∧ ∀ i, i < V.length → vs1 V i
instance (V : List Int) (i : Nat) : Decidable (vs1 V i) := by unfold vs1; infer_instance
instance (V : List Int) : Decidable (vsOK V) := by unfold vsOK; infer_instance
/-- A valid hello. -/
def heS (h : HE) : Prop := (1 ≤ h.vr ∧ h.vr ≤ 4294967295) ∧ h.vers.length = 0 ∧ nmOK h.nms 1 ∧ pok h.par true = true
def heC (h : HE) : Prop := h.vr = 0 ∧ vsOK h.vers ∧ nmOK h.nms 4 ∧ pok h.par false = true
def heOK (h : HE) : Prop := h.rnd.length = 16 ∧ ((h.kd = 2 ∧ heS h) ∨ (h.kd = 1 ∧ heC h))
instance (h : HE) : Decidable (heS h) := by unfold heS; infer_instance
instance (h : HE) : Decidable (heC h) := by unfold heC; infer_instance
instance (h : HE) : Decidable (heOK h) := by unfold heOK; infer_instance
theorem beq_txt (x y : ByteArray) : (x == y) = (x.data == y.data) := rfl
theorem beq_no {x y : ByteArray} (h : x.data ≠ y.data) : (x == y) = false := by rw [beq_txt]; exact beq_eq_false_iff_ne.2 h
theorem beq_yes {x y : ByteArray} (h : x.data = y.data) : (x == y) = true := by rw [beq_txt, h]; exact beq_self_eq_true _
theorem tl_no {x y : ByteArray} (h : x.data ≠ y.data) : (x.toList == y.toList) = false := by
  rw [toList_data, toList_data]
  exact beq_eq_false_iff_ne.2 (fun e => h (Array.toList_inj.1 e))
theorem tl_yes {x y : ByteArray} (h : x.data = y.data) : (x.toList == y.toList) = true := by
  rw [toList_data, toList_data, h]; exact beq_self_eq_true _
set_option maxRecDepth 20000 in
set_option maxHeartbeats 2000000 in
/-- The model's l12NamesOK. -/
theorem nmS (v : Value) (L : List ByteArray) (most : Nat) (w : World) (hr : TRow w v L) (hl : L.length ≤ 9223372036854775807) (hm : most ≤ 4) :
    Calls Tryd.prog 39 #[v, .int .i64 (most : Int)] w fun e w' => e = .returned (.bool (decide (nmOK L most))) ∧ Below w.heap.size w w' := by
  obtain ⟨ao, ca, rfl, hca⟩ := hr.cells
  obtain ⟨R, eR⟩ : ∃ R, R = decide (nmOK L most) := ⟨_, rfl⟩
  rw [← eR]
  obtain ⟨n, en⟩ : ∃ n, n = L.length := ⟨_, rfl⟩
  rw [← en] at hl hca ⊢
  have H0 : Hid _ := And.intro eR (And.intro en hca)
  clear hca hr
  by_cases c1 : ¬ (1 ≤ n ∧ n ≤ most)
  · have hR : R = false := by rw [eR]; exact decide_eq_false (fun q => c1 (by rw [en]; exact q.1))
    subst hR
    clear eR en H0
    by_cases c0 : n < 1
    · go_enter Tryd.func39, Tryd.ntmps39
      go_wp2
      go_ret
      exact ⟨rfl, Below.refl _ _⟩
    · have c2 : (most : Int) < (n : Int) := by omega
      go_enter Tryd.func39, Tryd.ntmps39
      go_wp2
      go_ret
      exact ⟨rfl, Below.refl _ _⟩
  obtain ⟨c2, c3⟩ := Decidable.not_not.1 c1
  have HC : Hid _ := And.intro c2 c3
  have c4 : ¬ (most : Int) < (n : Int) := by omega
  clear eR en c3 c1
  go_enter Tryd.func39, Tryd.ntmps39
  go_wp2
  go_loopg [5] n (fun q i wr => ∃ k : Nat, k ≤ n ∧ q = n - k ∧ i = .int .i64 (k : Int) ∧ (∃ z, wr = w.drewN z) ∧ ∀ j, j < k → nm1 L j)
  case atStart => exact ⟨0, Nat.zero_le _, rfl, rfl, ⟨0, rfl⟩, fun j h => by omega⟩
  case round =>
    obtain ⟨k, hk, rfl, rfl, ⟨z, rfl⟩, hno⟩ := hrel
    have HN : Hid _ := And.intro hno True.intro
    clear hno
    by_cases hlt : k < n
    · obtain ⟨b, off, rfl, hbl, c1⟩ := H0.out.2.2 k hlt
      obtain ⟨x, ex⟩ : ∃ x, x = L.getD k ByteArray.empty := ⟨_, rfl⟩
      rw [← ex] at c1
      have EX : Hid _ := And.intro ex True.intro
      clear ex
      have c5 : (w.drewN z).cell? ⟨b, off + k, none⟩ = some (.string x) := c1
      by_cases s1 : x.size < 1
      · have hR : R = false := by
          rw [H0.out.1]
          refine decide_eq_false (fun q => ?_)
          have h := (q.2 k (by rw [← H0.out.2.1]; exact hlt)).1.1
          rw [← EX.out.1] at h
          omega
        subst hR
        have s1' : ((x.size : Nat) : Int) < 1 := by omega
        go_wp2
        go_ret
        exact ⟨rfl, below_drewN (Below.refl _ _) _⟩
      by_cases s2 : 16 < x.size
      · have hR : R = false := by
          rw [H0.out.1]
          refine decide_eq_false (fun q => ?_)
          have h := (q.2 k (by rw [← H0.out.2.1]; exact hlt)).1.2
          rw [← EX.out.1] at h
          omega
        subst hR
        have s1' : ¬ ((x.size : Nat) : Int) < 1 := by omega
        have s2' : (16 : Int) < ((x.size : Nat) : Int) := by omega
        go_wp2
        go_ret
        exact ⟨rfl, below_drewN (Below.refl _ _) _⟩
      have s1' : ¬ ((x.size : Nat) : Int) < 1 := by omega
      have s2' : ¬ (16 : Int) < ((x.size : Nat) : Int) := by omega
      go_wp2
      go_loopg [6] k (fun q i wr => ∃ t : Nat, t ≤ k ∧ q = k - t ∧ i = .int .i64 (t : Int) ∧ (∃ z, wr = w.drewN z) ∧ ∀ j, j < t → (L.getD j ByteArray.empty).data ≠ x.data)
      case atStart => exact ⟨0, Nat.zero_le _, rfl, rfl, ⟨_, rfl⟩, fun j h => by omega⟩
      case round =>
        obtain ⟨t, ht, rfl, rfl, ⟨z2, rfl⟩, hne⟩ := hrel
        have HE' : Hid _ := And.intro hne True.intro
        clear hne
        have c6 : (w.drewN z2).cell? ⟨b, off + k, none⟩ = some (.string x) := c1
        by_cases hlt2 : t < k
        · obtain ⟨b2, off2, eb2, hbl2, c2'⟩ := H0.out.2.2 t (by omega)
          cases eb2
          obtain ⟨y, ey⟩ : ∃ y, y = L.getD t ByteArray.empty := ⟨_, rfl⟩
          rw [← ey] at c2'
          have EY : Hid _ := And.intro ey True.intro
          clear ey
          have c7 : (w.drewN z2).cell? ⟨b, off + t, none⟩ = some (.string y) := c2'
          by_cases hxy : y.data = x.data
          · have ht2 : (y == x) = true := beq_yes hxy
            have ht3 : (y.toList == x.toList) = true := tl_yes hxy
            have hR : R = false := by
              rw [H0.out.1]
              refine decide_eq_false (fun q => ?_)
              have h := (q.2 k (by rw [← H0.out.2.1]; exact hlt)).2 t hlt2
              rw [← EX.out.1, ← EY.out.1] at h
              exact h hxy
            subst hR
            clear hxy
            go_wp2
            go_quiet (fail)
            go_wp2
            go_ret
            exact ⟨rfl, below_drewN (below_drewN (Below.refl _ _) _) _⟩
          · have ht2 : (y == x) = false := beq_no hxy
            have ht3 : (y.toList == x.toList) = false := tl_no hxy
            have HXY : Hid _ := And.intro hxy True.intro
            clear hxy
            go_wp2
            go_quiet (fail)
            go_wp2
            go_roundg (k - (t + 1))
            case measure => omega
            case rel =>
              refine ⟨t + 1, by omega, rfl, by go_num, ⟨_, rfl⟩, fun j hj => ?_⟩
              by_cases hjt : j < t
              · exact HE'.out.1 j hjt
              · obtain rfl : j = t := by omega
                rw [← EY.out.1]
                exact HXY.out.1
        · go_wp2
          go_roundg (n - (k + 1))
          case measure => omega
          case rel =>
            refine ⟨k + 1, by omega, rfl, by go_num, ⟨_, rfl⟩, fun j hj => ?_⟩
            by_cases hjt : j < k
            · exact HN.out.1 j hjt
            · obtain rfl : j = k := by omega
              exact ⟨by rw [← EX.out.1]; omega, fun j' hj' => by rw [← EX.out.1]; exact HE'.out.1 j' (by omega)⟩
    · have hR : R = true := by
        rw [H0.out.1]
        exact decide_eq_true ⟨by rw [← H0.out.2.1]; exact HC.out, fun i hi => HN.out.1 i (by rw [← H0.out.2.1] at hi; omega)⟩
      subst hR
      go_wp2
      go_ret
      exact ⟨rfl, below_drewN (Below.refl _ _) _⟩
end Go.Proofs.YtcljchbceeiheaaDoor

namespace Go.Proofs.YtcljchbceeiheaaDoor
open Go.RowKit Go.Maps
set_option linter.unusedVariables false

/-- The first of xs that stands in ys; 0 if there is none. -/
def chF (xs ys : List Int) : Int := (xs.find? (fun x => ys.contains x)).getD 0
/-- What ChooseVersion answers. -/
def chV (xs ys : List Int) : Int := if 4096 < xs.length ∨ 4096 < ys.length then 0 else chF xs ys
theorem find_at {p : Int → Bool} : ∀ (xs : List Int) (k : Nat), k < xs.length → (∀ j, j < k → p (xs.getD j 0) = false) → p (xs.getD k 0) = true → xs.find? p = some (xs.getD k 0)
  | [], k, h, _, _ => by simp at h
  | x :: xs, 0, h, _, h2 => by simp at h2; simp [h2]
  | x :: xs, k + 1, h, h1, h2 => by
    have h0 := h1 0 (by omega)
    simp at h0
    rw [List.find?_cons_of_neg (by simp [h0])]
    have := find_at xs k (by simpa using h) (fun j hj => by have := h1 (j + 1) (by omega); simpa using this) (by simpa using h2)
    simpa using this
theorem find_no {p : Int → Bool} (xs : List Int) (h : ∀ j, j < xs.length → p (xs.getD j 0) = false) : xs.find? p = none := by
  rw [List.find?_eq_none]
  intro x hx
  obtain ⟨i, hi, rfl⟩ := List.getElem_of_mem hx
  have := h i hi
  simp [List.getD, hi] at this
  simp [this]
theorem contains_no (ys : List Int) (x : Int) (h : ∀ j, j < ys.length → x ≠ ys.getD j 0) : ys.contains x = false := by
  rw [Bool.eq_false_iff]
  intro hc
  rw [List.contains_iff_mem] at hc
  obtain ⟨i, hi, e⟩ := List.getElem_of_mem hc
  apply h i hi
  simp [List.getD, hi, e]
theorem contains_yes (ys : List Int) (j : Nat) (h : j < ys.length) : ys.contains (ys.getD j 0) = true := by
  rw [List.contains_iff_mem]
  simp [List.getD, h]

theorem spec_ch_long (ao bo : Option Addr) (n m ca cb : Nat) (w : World) (hn : n ≤ 9223372036854775807) (hm : m ≤ 9223372036854775807) (h : 4096 < n ∨ 4096 < m) :
    Calls Tryd.prog 41 #[.slice ao n ca, .slice bo m cb] w fun e w' => e = .returned (.int .i64 0) ∧ Below w.heap.size w w' := by
  by_cases h1 : 4096 < n
  · clear h
    go_enter Tryd.func41, Tryd.ntmps41
    go_wp2
    go_ret
    exact ⟨rfl, Below.refl _ _⟩
  · have h2 : 4096 < m := by omega
    clear h
    go_enter Tryd.func41, Tryd.ntmps41
    go_wp2
    go_ret
    exact ⟨rfl, Below.refl _ _⟩
/-- Where the cells of a row lie, also of an empty one. -/
theorem Row.cells {w : World} {k : IntKind} {v : Value} {xs : List Int} (h : Row w k v xs) : ∃ ao cap, v = .slice ao xs.length cap ∧ ∀ j, j < xs.length → ∃ b off, ao = some ⟨b, off, none⟩ ∧ b < w.heap.size ∧ w.cell? ⟨b, off + j, none⟩ = some (.int k (xs.getD j 0)) := by
  rcases h with ⟨rfl, ao, cap, rfl⟩ | ⟨b, off, cap, rfl, hb, _, hc⟩
  · exact ⟨ao, cap, rfl, fun j hj => by simp at hj⟩
  · exact ⟨_, cap, rfl, fun j hj => ⟨b, off, rfl, hb, hc j hj⟩⟩

set_option maxRecDepth 20000 in
set_option maxHeartbeats 2000000 in
theorem spec_chQ (va vb : Value) (xs ys : List Int) (w : World) (ha : Row w .i64 va xs) (hb : Row w .i64 vb ys) (hx : xs.length ≤ 4096) (hy : ys.length ≤ 4096) :
    Calls Tryd.prog 41 #[va, vb] w fun e w' => e = .returned (.int .i64 (chF xs ys)) ∧ ∃ z, w' = w.drewN z := by
  obtain ⟨ao, ca, rfl, hca⟩ := ha.cells
  obtain ⟨bo, cb, rfl, hcb⟩ := hb.cells
  obtain ⟨R, eR⟩ : ∃ R, R = chF xs ys := ⟨_, rfl⟩
  rw [← eR]
  obtain ⟨n, en⟩ : ∃ n, n = xs.length := ⟨_, rfl⟩
  obtain ⟨m, em⟩ : ∃ m, m = ys.length := ⟨_, rfl⟩
  rw [← en] at hx hca ⊢
  rw [← em] at hy hcb ⊢
  have H0 : Hid _ := And.intro eR (And.intro en (And.intro em (And.intro hca hcb)))
  clear eR en em hca hcb ha hb
  go_enter Tryd.func41, Tryd.ntmps41
  go_wp2
  go_loopg [5] n (fun q i wr => ∃ k : Nat, k ≤ n ∧ q = n - k ∧ i = .int .i64 (k : Int) ∧ (∃ z, wr = w.drewN z) ∧ ∀ j, j < k → ys.contains (xs.getD j 0) = false)
  case atStart => exact ⟨0, Nat.zero_le _, rfl, rfl, ⟨0, rfl⟩, fun j h => by omega⟩
  case round =>
    obtain ⟨k, hk, rfl, rfl, ⟨z, rfl⟩, hno⟩ := hrel
    have HN : Hid _ := And.intro hno True.intro
    clear hno
    by_cases hlt : k < n
    · obtain ⟨b, off, rfl, hbl, c1⟩ := H0.out.2.2.2.1 k hlt
      obtain ⟨x, ex⟩ : ∃ x, x = xs.getD k 0 := ⟨_, rfl⟩
      rw [← ex] at c1
      have EX : Hid _ := And.intro ex True.intro
      clear ex
      go_wp2
      go_loopg [6] m (fun q i wr => ∃ t : Nat, t ≤ m ∧ q = m - t ∧ i = .int .i64 (t : Int) ∧ (∃ z, wr = w.drewN z) ∧ ∀ j, j < t → x ≠ ys.getD j 0)
      case atStart => exact ⟨0, Nat.zero_le _, rfl, rfl, ⟨_, rfl⟩, fun j h => by omega⟩
      case round =>
        obtain ⟨t, ht, rfl, rfl, ⟨z2, rfl⟩, hne⟩ := hrel
        have HE : Hid _ := And.intro hne True.intro
        clear hne
        have c3 : (w.drewN z2).cell? ⟨b, off + k, none⟩ = some (.int .i64 x) := c1
        by_cases hlt2 : t < m
        · obtain ⟨b2, off2, rfl, hbl2, c2⟩ := H0.out.2.2.2.2 t hlt2
          obtain ⟨y, ey⟩ : ∃ y, y = ys.getD t 0 := ⟨_, rfl⟩
          rw [← ey] at c2
          have EY : Hid _ := And.intro ey True.intro
          clear ey
          have c4 : (w.drewN z2).cell? ⟨b2, off2 + t, none⟩ = some (.int .i64 y) := c2
          by_cases hxy : x = y
          · have HXY : Hid _ := And.intro hxy True.intro
            have ht2 : (x == y) = true := by simp [hxy]
            clear hxy
            go_wp2
            go_quiet (fail)
            have c5 : ∀ q, ((w.drewN z2).drewN q).cell? ⟨b, off + k, none⟩ = some (.int .i64 x) := fun q => c1
            go_wp2
            go_ret
            refine ⟨?_, ?_⟩
            · rw [H0.out.1]
              unfold chF
              rw [find_at xs k (by rw [← H0.out.2.1]; exact hlt) HN.out.1 (by rw [← EX.out.1, HXY.out.1, EY.out.1]; exact contains_yes ys t (by rw [← H0.out.2.2.1]; exact hlt2))]
              rw [← EX.out.1]
              rfl
            · exact ⟨_, rfl⟩
          · have HXY : Hid _ := And.intro hxy True.intro
            have ht2 : (x == y) = false := by simp [hxy]
            clear hxy
            go_wp2
            go_quiet (fail)
            go_wp2
            go_roundg (m - (t + 1))
            case measure => omega
            case rel =>
              refine ⟨t + 1, by omega, rfl, by go_num, ⟨_, rfl⟩, fun j hj => ?_⟩
              by_cases hjt : j < t
              · exact HE.out.1 j hjt
              · obtain rfl : j = t := by omega
                rw [← EY.out.1]
                exact HXY.out.1
        · go_wp2
          go_roundg (n - (k + 1))
          case measure => omega
          case rel =>
            refine ⟨k + 1, by omega, rfl, by go_num, ⟨_, rfl⟩, fun j hj => ?_⟩
            by_cases hjt : j < k
            · exact HN.out.1 j hjt
            · obtain rfl : j = k := by omega
              rw [← EX.out.1]
              exact contains_no ys x (fun j hj => HE.out.1 j (by rw [← H0.out.2.2.1] at hj; omega))
    · go_wp2
      go_ret
      refine ⟨?_, _, rfl⟩
      rw [H0.out.1]
      unfold chF
      rw [find_no xs (fun j hj => HN.out.1 j (by rw [← H0.out.2.1] at hj; omega))]
      rfl
theorem spec_ch (va vb : Value) (xs ys : List Int) (w : World) (ha : Row w .i64 va xs) (hb : Row w .i64 vb ys) (hx : xs.length ≤ 4096) (hy : ys.length ≤ 4096) :
    Calls Tryd.prog 41 #[va, vb] w fun e w' => e = .returned (.int .i64 (chF xs ys)) ∧ Below w.heap.size w w' :=
  (spec_chQ va vb xs ys w ha hb hx hy).mono fun e w' h => ⟨h.1, by obtain ⟨_, z, hz⟩ := h; rw [hz]; exact below_drewN (Below.refl _ _) z⟩

/-- The numbers of ys up to k as the map of a set. -/
def Sd (ys : List Int) (k : Nat) : DataW Unit := setOf (.agg []) ((ys.take k).map (Lit.int .i64))
theorem Sd_zero (ys : List Int) : Sd ys 0 = .map [] := by simp [Sd, setOf]
theorem Sd_succ (ys : List Int) (k : Nat) (h : k < ys.length) : Sd ys (k + 1) = (Sd ys k).put (.int .i64 (ys.getD k 0)) (.agg []) := by
  unfold Sd
  rw [List.take_add_one, List.map_append, ← setOf_snoc]
  simp [List.getD, List.getElem?_eq_getElem h]
theorem any_int (x : Int) : ∀ l : List Int, l.any ((fun y : Lit => y.sameKey (.int .i64 x)) ∘ Lit.int .i64) = l.contains x
  | [] => rfl
  | a :: r => by
    rw [List.any_cons, List.contains_cons, any_int x r]
    congr 1
    show decide (IntKind.i64 = IntKind.i64 ∧ a = x) = (x == a)
    by_cases e : a = x
    · subst e
      simp
    · have e' : ¬ x = a := fun h => e h.symm
      simp [e, e']
theorem has_Sd (ys : List Int) (k : Nat) (x : Int) : Maps.has (Sd ys k) (.int .i64 x) = (ys.take k).contains x := by
  unfold Sd
  rw [has_setOf _ _ _ (fun y hy => by obtain ⟨_, _, rfl⟩ := List.mem_map.1 hy; trivial), List.any_map]
  exact any_int x _
theorem lawI : Keyed Tryd.prog 3 := int_keyed Tryd.underlying3
theorem zeroU (w : World) : (zeroValue 104).run Tryd.prog w = .ok (.agg #[]) w := by kernel_rfl
theorem makeMapI (n : Int) (w : World) : (Instr.makeMap 93 (some (.int .i64 n))).run Tryd.prog w = .ok (.map (some w.heap.size)) (w.alloc (.map #[] 0)) := by
  simp [Instr.makeMap, run_underlying Tryd.underlying93, asInt, asIntOf, Result.andThen]
theorem wf_at {zs : List Int} (hwz : ∀ n ∈ zs, (Lit.int .i64 n).wf = true) (k : Nat) : (Lit.int .i64 (zs.getD k 0)).wf = true := by
  by_cases hk : k < zs.length
  · rw [List.getD, List.getElem?_eq_getElem hk]
    exact hwz _ (List.getElem_mem hk)
  · rw [List.getD, List.getElem?_eq_none (by omega)]
    decide

set_option maxRecDepth 100000 in
set_option maxHeartbeats 1000000 in
theorem setOfC (v : Value) (ys : List Int) (w : World) (hr : Row w .i64 v ys) (hy : ys.length ≤ 4096) (hw : ∀ n ∈ ys, (Lit.int .i64 n).wf = true) :
    Calls Tryd.prog 66 #[v] w fun e w' => e = .returned (.map (some w.heap.size)) ∧ w'.ownsMap Tryd.prog 3 unitElem w.heap.size ys.length (Sd ys ys.length) ∧ Below w.heap.size w w' := by
  have hmm := makeMapI
  obtain ⟨ao, ca, rfl, hca⟩ := hr.cells
  obtain ⟨n, en⟩ : ∃ n, n = ys.length := ⟨_, rfl⟩
  rw [← en] at hy hca ⊢
  have H0 : Hid _ := And.intro en (And.intro hca hw)
  clear en hca hw hr
  go_enter Tryd.func66, Tryd.ntmps66
  go_wp2
  go_loopg [11] n (fun q i wr => ∃ k : Nat, k ≤ n ∧ q = n - k ∧ i = .int .i64 (k : Int) ∧ wr.ownsMap Tryd.prog 3 unitElem w.heap.size k (Sd ys k) ∧ Below w.heap.size w wr)
  case atStart => exact ⟨0, Nat.zero_le _, rfl, rfl, by rw [Sd_zero]; exact World.ownsMap_made _ _ _ _, (Below.refl _ _).alloc (Nat.le_refl _) _⟩
  case round =>
    obtain ⟨k, hk, rfl, rfl, hown, hbx⟩ := hrel
    by_cases hlt : k < n
    · obtain ⟨b, off, rfl, hbl, c1⟩ := H0.out.2.1 k hlt
      have c2 := (hbx.cell (p := ⟨b, off + k, none⟩) hbl).trans c1
      have hkey : keyOf Tryd.prog 3 (.int .i64 (ys.getD k 0)) = some (.int .i64 (ys.getD k 0)) := keyOf_int_mk Tryd.underlying3 (wf_at H0.out.2.2 k)
      obtain ⟨y, ey⟩ : ∃ y, y = ys.getD k 0 := ⟨_, rfl⟩
      rw [← ey] at c2 hkey
      have EY : Hid _ := And.intro ey True.intro
      clear ey c1
      go_wp2_with (first
        | (at_mapUpdate; refine wpList_mapUpdate_own _ rfl _ _ _ 93 rfl 3 104 lawI Tryd.underlying93 (unitElem (H := Unit)) w.heap.size k _ rfl hown (by unfold maxLen; omega) _ _ _ rfl rfl hkey _ [] unitElem_mk ?_; intro w1 hown1 hgrow1)
        | go_in)
      go_roundg (n - (k + 1))
      case measure => omega
      case rel =>
        refine ⟨k + 1, by omega, rfl, by go_num, ?_, hbx.grown hgrow1 hbx.size (fun j hj => by cases hj; exact Nat.le_refl _)⟩
        rw [Sd_succ ys k (by rw [← H0.out.1]; exact hlt), ← EY.out.1]
        exact hown1
    · obtain rfl : k = n := by omega
      go_wp2
      go_ret
      exact ⟨rfl, hown, hbx⟩

theorem ownsMap_below {w w' : World} {b n : Nat} {D : DataW Unit} (h : w.ownsMap Tryd.prog 3 unitElem b n D) (hb : Below w.heap.size w w') : w'.ownsMap Tryd.prog 3 unitElem b n D := by
  obtain ⟨es, clock, h1, h2⟩ := h
  exact ⟨es, clock, (hb.block b (Array.getElem?_eq_some_iff.1 h1).1).trans h1, h2⟩
end Go.Proofs.YtcljchbceeiheaaDoor

namespace Go.Proofs.YtcljchbceeiheaaDoor
open Go.RowKit
set_option linter.unusedVariables false
set_option linter.unusedSimpArgs false

/-- The cells of a hello that is laid into a block. -/
abbrev heL (h : HE) (v0 v1 v2 v3 v4 v5 : Value) : Array Value := #[.int .i64 h.kd, .int .i64 h.vr, v0, v1, v2, .int .i64 h.par.a0, .int .i64 h.par.a1, .int .i64 h.par.a2, .int .i64 h.par.a3, .int .i64 h.par.a4, .int .i64 h.par.a5, .int .i64 h.par.a6, .int .i64 h.par.a7, .int .i64 h.par.a8, .bool h.par.m, v3, v4, v5]
abbrev heP (h : HE) (v3 v4 v5 : Value) : Value := .agg #[.int .i64 h.par.a0, .int .i64 h.par.a1, .int .i64 h.par.a2, .int .i64 h.par.a3, .int .i64 h.par.a4, .int .i64 h.par.a5, .int .i64 h.par.a6, .int .i64 h.par.a7, .int .i64 h.par.a8, .bool h.par.m, v3, v4, v5]
/-- What a function knows of its hello in every world behind. -/
structure HeK (w : World) (g : Nat) (h : HE) (a0 a1 a2 : Option Addr) (p0 p1 p2 : Nat) (v3 v4 v5 : Value) : Prop where
  b : Book w [(g, .cells (heL h (.slice a0 h.rnd.length p0) (.slice a1 h.vers.length p1) (.slice a2 h.nms.length p2) v3 v4 v5) 34)]
  r0 : Row w .u8 (.slice a0 h.rnd.length p0) h.rnd
  r1 : Row w .i64 (.slice a1 h.vers.length p1) h.vers
  r2 : TRow w (.slice a2 h.nms.length p2) h.nms
  r3 : PPRow w (heP h v3 v4 v5) h.par
theorem HeK.below {w w' : World} {g : Nat} {h : HE} {a0 a1 a2 : Option Addr} {p0 p1 p2 : Nat} {v3 v4 v5 : Value} (k : HeK w g h a0 a1 a2 p0 p1 p2 v3 v4 v5) (hb : Below w.heap.size w w') : HeK w' g h a0 a1 a2 p0 p1 p2 v3 v4 v5 :=
  ⟨k.b.below hb, k.r0.below hb, k.r1.below hb, k.r2.below hb, k.r3.below hb⟩
theorem heK_new {w : World} {v : Value} {h : HE} (k : HERow w v h) : ∃ (a0 a1 a2 : Option Addr) (p0 p1 p2 : Nat) (v3 v4 v5 : Value), v = .agg (heL h (.slice a0 h.rnd.length p0) (.slice a1 h.vers.length p1) (.slice a2 h.nms.length p2) v3 v4 v5) ∧ (∃ a3 p3 a4 p4 a5 p5, v3 = .slice a3 h.par.o.length p3 ∧ v4 = .slice a4 h.par.t.length p4 ∧ v5 = .slice a5 h.par.f.length p5) ∧
    HeK (w.alloc (.cells (heL h (.slice a0 h.rnd.length p0) (.slice a1 h.vers.length p1) (.slice a2 h.nms.length p2) v3 v4 v5) 34)) w.heap.size h a0 a1 a2 p0 p1 p2 v3 v4 v5 := by
  obtain ⟨v0, v1, v2, v3, v4, v5, rfl, r0, r1, r2, r3, r4, r5⟩ := k
  obtain ⟨a0, p0, rfl⟩ := r0.form
  obtain ⟨a1, p1, rfl⟩ := r1.form
  obtain ⟨a2, p2, rfl⟩ := r2.form
  obtain ⟨a3, p3, rfl⟩ := r3.form
  obtain ⟨a4, p4, rfl⟩ := r4.form
  obtain ⟨a5, p5, rfl⟩ := r5.form
  have B : Below w.heap.size w (w.alloc (.cells (heL h (.slice a0 h.rnd.length p0) (.slice a1 h.vers.length p1) (.slice a2 h.nms.length p2) (.slice a3 h.par.o.length p3) (.slice a4 h.par.t.length p4) (.slice a5 h.par.f.length p5)) 34)) := (Below.refl _ _).alloc (Nat.le_refl _) _
  refine ⟨a0, a1, a2, p0, p1, p2, _, _, _, rfl, ⟨a3, p3, a4, p4, a5, p5, rfl, rfl, rfl⟩, (Book.nil w).add _, r0.below B, r1.below B, r2.below B, ?_⟩
  exact ⟨_, _, _, rfl, r3.below B, r4.below B, r5.below B⟩
theorem HeK.cells {w : World} {g : Nat} {h : HE} {a0 a1 a2 : Option Addr} {p0 p1 p2 : Nat} {v3 v4 v5 : Value} (k : HeK w g h a0 a1 a2 p0 p1 p2 v3 v4 v5) : w.cell? ⟨g, 0, none⟩ = some (.int .i64 h.kd) ∧ w.cell? ⟨g, 1, none⟩ = some (.int .i64 h.vr) ∧ w.cell? ⟨g, 2, none⟩ = some (.slice a0 h.rnd.length p0) ∧ w.cell? ⟨g, 3, none⟩ = some (.slice a1 h.vers.length p1) ∧ w.cell? ⟨g, 4, none⟩ = some (.slice a2 h.nms.length p2) ∧ w.cell? ⟨g, 5, none⟩ = some (.int .i64 h.par.a0) ∧ w.cell? ⟨g, 6, none⟩ = some (.int .i64 h.par.a1) ∧ w.cell? ⟨g, 7, none⟩ = some (.int .i64 h.par.a2) ∧ w.cell? ⟨g, 8, none⟩ = some (.int .i64 h.par.a3) ∧ w.cell? ⟨g, 9, none⟩ = some (.int .i64 h.par.a4) ∧ w.cell? ⟨g, 10, none⟩ = some (.int .i64 h.par.a5) ∧ w.cell? ⟨g, 11, none⟩ = some (.int .i64 h.par.a6) ∧ w.cell? ⟨g, 12, none⟩ = some (.int .i64 h.par.a7) ∧ w.cell? ⟨g, 13, none⟩ = some (.int .i64 h.par.a8) ∧ w.cell? ⟨g, 14, none⟩ = some (.bool h.par.m) ∧ w.cell? ⟨g, 15, none⟩ = some (v3) ∧ w.cell? ⟨g, 16, none⟩ = some (v4) ∧ w.cell? ⟨g, 17, none⟩ = some (v5) :=
  k.b.c18 (List.mem_cons_self ..)
set_option maxRecDepth 20000 in
set_option maxHeartbeats 4000000 in
/-- The model's l12HelloOK of a server's. -/
theorem hokS_srv (h : HE) (a0 a1 a2 : Option Addr) (p0 p1 p2 : Nat) (v3 v4 v5 : Value) (w : World) (hs : h.small 9223372036854775807) (hk : h.kd = 2) (h16 : h.rnd.length = 16)
    (K : HeK (w.alloc (.cells (heL h (.slice a0 h.rnd.length p0) (.slice a1 h.vers.length p1) (.slice a2 h.nms.length p2) v3 v4 v5) 34)) w.heap.size h a0 a1 a2 p0 p1 p2 v3 v4 v5) :
    Calls Tryd.prog 17 #[.agg (heL h (.slice a0 h.rnd.length p0) (.slice a1 h.vers.length p1) (.slice a2 h.nms.length p2) v3 v4 v5)] w fun e w' => e = .returned (.bool (decide (heS h))) ∧ Below w.heap.size w w' := by
  obtain ⟨R, eR⟩ : ∃ R, R = decide (heS h) := ⟨_, rfl⟩
  rw [← eR]
  have BW : Below w.heap.size w (w.alloc (.cells (heL h (.slice a0 h.rnd.length p0) (.slice a1 h.vers.length p1) (.slice a2 h.nms.length p2) v3 v4 v5) 34)) := (Below.refl _ _).alloc (Nat.le_refl _) _
  have hkb : (h.kd == 2) = true := by simp [hk]
  have h16b : ((h.rnd.length : Int) != 16) = false := by rw [h16]; rfl
  have hsv : h.vers.length ≤ 9223372036854775807 := hs.2.1
  have N1 := nmS (.slice a2 h.nms.length p2) h.nms 1 (w.alloc (.cells (heL h (.slice a0 h.rnd.length p0) (.slice a1 h.vers.length p1) (.slice a2 h.nms.length p2) v3 v4 v5) 34)) K.r2 hs.2.2.1 (by decide)
  by_cases c1 : ¬ vok h.vr
  · have hR : R = false := by rw [eR]; exact decide_eq_false (fun q => c1 q.1)
    subst hR
    have V1 := sVbad h.vr (w.alloc (.cells (heL h (.slice a0 h.rnd.length p0) (.slice a1 h.vers.length p1) (.slice a2 h.nms.length p2) v3 v4 v5) 34)) c1
    have HK : Hid _ := And.intro V1 BW
    clear K BW N1 hs hk h16 eR V1 c1
    go_enter Tryd.func17, Tryd.ntmps17
    go_wp2_with (go_at_call 38; refine HK.out.1.mono ?_; rintro e w1 ⟨rfl, hw⟩; subst w1)
    go_ret
    exact ⟨rfl, HK.out.2⟩
  have c1' : vok h.vr := Classical.not_not.1 c1
  have V1 := sVok h.vr (w.alloc (.cells (heL h (.slice a0 h.rnd.length p0) (.slice a1 h.vers.length p1) (.slice a2 h.nms.length p2) v3 v4 v5) 34)) c1'
  by_cases c2 : ¬ h.vers.length = 0
  · have hR : R = false := by rw [eR]; exact decide_eq_false (fun q => c2 q.2.1)
    subst hR
    have c2' : ((h.vers.length : Int) == 0) = false := by rw [beq_eq_false_iff_ne]; omega
    have HK : Hid _ := And.intro V1 BW
    clear K BW N1 hs hk h16 eR V1 c1 c1' c2
    go_enter Tryd.func17, Tryd.ntmps17
    go_wp2_with (go_at_call 38; refine HK.out.1.mono ?_; rintro e w1 ⟨rfl, hw⟩; subst w1)
    go_ret
    exact ⟨rfl, HK.out.2⟩
  have c2' : h.vers.length = 0 := Decidable.not_not.1 c2
  have c2b : ((h.vers.length : Int) == 0) = true := by rw [c2']; rfl
  by_cases c3 : ¬ nmOK h.nms 1
  · have hR : R = false := by rw [eR]; exact decide_eq_false (fun q => c3 q.2.2.1)
    subst hR
    rw [decide_eq_false c3] at N1
    have HK : Hid _ := And.intro V1 (And.intro BW N1)
    clear K BW N1 hs hk h16 eR V1 c1 c1' c2 c2' c3
    go_enter Tryd.func17, Tryd.ntmps17
    go_wp2_with (first
      | (go_at_call 38; refine HK.out.1.mono ?_; rintro e w1 ⟨rfl, hw⟩; subst w1)
      | (go_at_call 39; refine HK.out.2.2.mono ?_; rintro e w1 ⟨rfl, b1⟩; have H1 : Hid _ := And.intro b1 True.intro; clear b1))
    go_ret
    exact ⟨rfl, HK.out.2.1.trans (H1.out.1.mono HK.out.2.1.size)⟩
  have c3' : nmOK h.nms 1 := Decidable.not_not.1 c3
  rw [decide_eq_true c3'] at N1
  have hR : R = pok h.par true := by
    rw [eR]
    cases hp : pok h.par true with
    | true => exact decide_eq_true ⟨c1', c2', c3', hp⟩
    | false => exact decide_eq_false (fun q => by have := q.2.2.2; rw [hp] at this; cases this)
  have P1 := fun (w1 : World) (b1 : Below (w.alloc (.cells (heL h (.slice a0 h.rnd.length p0) (.slice a1 h.vers.length p1) (.slice a2 h.nms.length p2) v3 v4 v5) 34)).heap.size (w.alloc (.cells (heL h (.slice a0 h.rnd.length p0) (.slice a1 h.vers.length p1) (.slice a2 h.nms.length p2) v3 v4 v5) 34)) w1) => pokS (heP h v3 v4 v5) h.par true w1 (K.below b1).r3 hs.2.2.2
  rw [← hR] at P1
  have HK : Hid _ := And.intro V1 (And.intro BW (And.intro N1 (And.intro P1 K)))
  clear K BW N1 hs hk h16 eR V1 c1 c1' c2 c2' c3 c3' hR P1
  go_enter Tryd.func17, Tryd.ntmps17
  go_wp2_with (first
    | (go_at_call 38; refine HK.out.1.mono ?_; rintro e w1 ⟨rfl, hw⟩; subst w1)
    | (go_at_call 39; refine HK.out.2.2.1.mono ?_; rintro e w1 ⟨rfl, b1⟩; have H1 : Hid _ := And.intro b1 True.intro; obtain ⟨k0, k1, k2, k3, k4, k5, k6, k7, k8, k9, k10, k11, k12, k13, k14, k15, k16, k17⟩ := (HK.out.2.2.2.2.below b1).cells; clear b1)
    | (go_at_call 40; refine (HK.out.2.2.2.1 w1 H1.out.1).mono ?_; rintro e w2 ⟨rfl, b2⟩; have H2 : Hid _ := And.intro b2 True.intro; clear b2))
  go_ret
  exact ⟨rfl, HK.out.2.1.trans ((H1.out.1.trans (H2.out.1.mono H1.out.1.size)).mono HK.out.2.1.size)⟩
/-- Refused ahead of any call. -/
theorem hokS_early (h : HE) (a0 a1 a2 : Option Addr) (p0 p1 p2 : Nat) (v3 v4 v5 : Value) (w : World) (hs : h.small 9223372036854775807) (hc : ¬ h.rnd.length = 16 ∨ (h.rnd.length = 16 ∧ ¬ h.kd = 2 ∧ (¬ h.kd = 1 ∨ (h.kd = 1 ∧ (¬ h.vr = 0 ∨ (h.vr = 0 ∧ (h.vers.length < 1 ∨ 8 < h.vers.length))))))) :
    Calls Tryd.prog 17 #[.agg (heL h (.slice a0 h.rnd.length p0) (.slice a1 h.vers.length p1) (.slice a2 h.nms.length p2) v3 v4 v5)] w fun e w' => e = .returned (.bool false) ∧ Below w.heap.size w w' := by
  have BW : Below w.heap.size w (w.alloc (.cells (heL h (.slice a0 h.rnd.length p0) (.slice a1 h.vers.length p1) (.slice a2 h.nms.length p2) v3 v4 v5) 34)) := (Below.refl _ _).alloc (Nat.le_refl _) _
  have hs0 : h.rnd.length ≤ 9223372036854775807 := hs.1
  have hs1 : h.vers.length ≤ 9223372036854775807 := hs.2.1
  have HB : Hid _ := And.intro BW True.intro
  clear BW hs
  rcases hc with hc | ⟨h16, hc2, hc⟩
  · have hb : ((h.rnd.length : Int) != 16) = true := by simp; omega
    clear hc
    go_enter Tryd.func17, Tryd.ntmps17
    go_wp2
    go_ret
    exact ⟨rfl, HB.out.1⟩
  have h16b : ((h.rnd.length : Int) != 16) = false := by rw [h16]; rfl
  have hk2 : (h.kd == 2) = false := by simp [hc2]
  clear h16 hc2
  rcases hc with hc | ⟨hc1, hc⟩
  · have hb : (h.kd != 1) = true := by simp [hc]
    clear hc
    go_enter Tryd.func17, Tryd.ntmps17
    go_wp2
    go_ret
    exact ⟨rfl, HB.out.1⟩
  have hk1 : (h.kd != 1) = false := by simp [hc1]
  clear hc1
  rcases hc with hc | ⟨hc1, hc⟩
  · have hb : (h.vr != 0) = true := by simp [hc]
    clear hc
    go_enter Tryd.func17, Tryd.ntmps17
    go_wp2
    go_ret
    exact ⟨rfl, HB.out.1⟩
  have hv0 : (h.vr != 0) = false := by simp [hc1]
  clear hc1
  rcases hc with hc | hc
  · have hb : (h.vers.length : Int) < 1 := by omega
    clear hc
    go_enter Tryd.func17, Tryd.ntmps17
    go_wp2
    go_ret
    exact ⟨rfl, HB.out.1⟩
  · have hb : (8 : Int) < (h.vers.length : Int) := by omega
    have hb2 : ¬ (h.vers.length : Int) < 1 := by omega
    clear hc
    go_enter Tryd.func17, Tryd.ntmps17
    go_wp2
    go_ret
    exact ⟨rfl, HB.out.1⟩
theorem chF_one (x : Int) (ys : List Int) : chF [x] ys = if ys.contains x then x else 0 := by
  unfold chF
  by_cases h : ys.contains x = true
  · rw [if_pos h, List.find?_cons_of_pos (p := fun x => ys.contains x) h]; rfl
  · rw [if_neg h, List.find?_cons_of_neg (p := fun x => ys.contains x) (by simpa using h)]; rfl
theorem take_contains (V : List Int) (k : Nat) (hk : k ≤ V.length) (x : Int) : (V.take k).contains x = true ↔ ∃ j, j < k ∧ V.getD j 0 = x := by
  rw [List.contains_iff_mem]
  constructor
  · intro hm
    obtain ⟨i, hi, e⟩ := List.getElem_of_mem hm
    have hi' : i < k := by simp at hi; omega
    refine ⟨i, hi', ?_⟩
    rw [List.getElem_take] at e
    rw [← e]
    simp [List.getD, show i < V.length by omega]
  · rintro ⟨j, hj, rfl⟩
    have e : V.getD j 0 = (V.take k)[j]'(by simp; omega) := by simp [List.getD, show j < V.length by omega]
    rw [e]
    exact List.getElem_mem _
theorem row_cutI {w : World} {b off N ct : Nat} {X : List Int} (h : Row w .i64 (.slice (some ⟨b, off, none⟩) N ct) X) (hX : X.length = N) (p k : Nat) (hk : p + k ≤ N) : Row w .i64 (.slice (some ⟨b, off + p, none⟩) k (ct - p)) ((X.drop p).take k) := by
  rcases h with ⟨rfl, ao', cap', e⟩ | ⟨b', off', cap, e, hb, hc, hx⟩
  · simp at hX
    subst hX
    obtain rfl : k = 0 := by omega
    exact Or.inl ⟨by simp, _, _, rfl⟩
  · cases e
    refine Or.inr ⟨b, off + p, ct - p, by simp; omega, hb, ⟨by simp; omega, by omega⟩, fun j hj => ?_⟩
    have hj' : j < k := by simp at hj; omega
    have := hx (p + j) (by omega)
    rw [Nat.add_assoc, this]
    simp only [List.getD]
    rw [List.getElem?_take_of_lt hj', List.getElem?_drop]
set_option maxRecDepth 20000 in
set_option maxHeartbeats 4000000 in
/-- The model's l12HelloOK of a client's. -/
theorem hokS_cli (h : HE) (a0 a1 a2 : Option Addr) (p0 p1 p2 : Nat) (v3 v4 v5 : Value) (w : World) (hs : h.small 9223372036854775807) (h16 : h.rnd.length = 16) (hk : h.kd = 1) (hv : h.vr = 0) (hl1 : 1 ≤ h.vers.length) (hl8 : h.vers.length ≤ 8)
    (K : HeK (w.alloc (.cells (heL h (.slice a0 h.rnd.length p0) (.slice a1 h.vers.length p1) (.slice a2 h.nms.length p2) v3 v4 v5) 34)) w.heap.size h a0 a1 a2 p0 p1 p2 v3 v4 v5) :
    Calls Tryd.prog 17 #[.agg (heL h (.slice a0 h.rnd.length p0) (.slice a1 h.vers.length p1) (.slice a2 h.nms.length p2) v3 v4 v5)] w fun e w' => e = .returned (.bool (decide (heC h))) ∧ Below w.heap.size w w' := by
  obtain ⟨R, eR⟩ : ∃ R, R = decide (heC h) := ⟨_, rfl⟩
  rw [← eR]
  have BW : Below w.heap.size w (w.alloc (.cells (heL h (.slice a0 h.rnd.length p0) (.slice a1 h.vers.length p1) (.slice a2 h.nms.length p2) v3 v4 v5) 34)) := (Below.refl _ _).alloc (Nat.le_refl _) _
  have h16b : ((h.rnd.length : Int) != 16) = false := by rw [h16]; rfl
  have hk2 : (h.kd == 2) = false := by rw [hk]; rfl
  have hk1 : (h.kd != 1) = false := by rw [hk]; rfl
  have hv0 : (h.vr != 0) = false := by rw [hv]; rfl
  have N1 := nmS (.slice a2 h.nms.length p2) h.nms 4 (w.alloc (.cells (heL h (.slice a0 h.rnd.length p0) (.slice a1 h.vers.length p1) (.slice a2 h.nms.length p2) v3 v4 v5) 34)) K.r2 hs.2.2.1 (by decide)
  by_cases c3 : ¬ nmOK h.nms 4
  · have hR : R = false := by rw [eR]; exact decide_eq_false (fun q => c3 q.2.2.1)
    subst hR
    rw [decide_eq_false c3] at N1
    have HK : Hid _ := And.intro BW N1
    clear K BW N1 hs hk hv h16 eR c3
    go_enter Tryd.func17, Tryd.ntmps17
    go_wp2_with (go_at_call 39; refine HK.out.2.mono ?_; rintro e w1 ⟨rfl, b1⟩; have H1 : Hid _ := And.intro b1 True.intro; clear b1)
    go_ret
    exact ⟨rfl, HK.out.1.trans (H1.out.1.mono HK.out.1.size)⟩
  have c3' : nmOK h.nms 4 := Decidable.not_not.1 c3
  rw [decide_eq_true c3'] at N1
  have P1 := fun (w1 : World) (b1 : Below (w.alloc (.cells (heL h (.slice a0 h.rnd.length p0) (.slice a1 h.vers.length p1) (.slice a2 h.nms.length p2) v3 v4 v5) 34)).heap.size (w.alloc (.cells (heL h (.slice a0 h.rnd.length p0) (.slice a1 h.vers.length p1) (.slice a2 h.nms.length p2) v3 v4 v5) 34)) w1) => pokS (heP h v3 v4 v5) h.par false w1 (K.below b1).r3 hs.2.2.2
  cases hp : pok h.par false with
  | false =>
    have hR : R = false := by rw [eR]; exact decide_eq_false (fun q => by have := q.2.2.2; rw [hp] at this; cases this)
    subst hR
    rw [hp] at P1
    have HK : Hid _ := And.intro BW (And.intro N1 (And.intro P1 K))
    clear K BW N1 hs hk hv h16 eR c3 c3' P1 hp
    go_enter Tryd.func17, Tryd.ntmps17
    go_wp2_with (first
      | (go_at_call 39; refine HK.out.2.1.mono ?_; rintro e w1 ⟨rfl, b1⟩; have H1 : Hid _ := And.intro b1 True.intro; obtain ⟨k0, k1, k2, k3, k4, k5, k6, k7, k8, k9, k10, k11, k12, k13, k14, k15, k16, k17⟩ := (HK.out.2.2.2.below b1).cells; clear b1)
      | (go_at_call 40; refine (HK.out.2.2.1 w1 H1.out.1).mono ?_; rintro e w2 ⟨rfl, b2⟩; have H2 : Hid _ := And.intro b2 True.intro; clear b2))
    go_ret
    exact ⟨rfl, HK.out.1.trans ((H1.out.1.trans (H2.out.1.mono H1.out.1.size)).mono HK.out.1.size)⟩
  | true =>
    rw [hp] at P1
    have hRv : R = decide (∀ i, i < h.vers.length → vs1 h.vers i) := by
      rw [eR, decide_eq_decide]
      exact ⟨fun q => q.2.1.2, fun q => ⟨hv, ⟨⟨hl1, hl8⟩, q⟩, c3', hp⟩⟩
    obtain ⟨bv, ov, cv, evv, hbv, hcv⟩ := K.r1.at (by omega)
    have hcap : h.vers.length ≤ p1 ∧ p1 ≤ 9223372036854775807 := by
      rcases K.r1 with ⟨e, _⟩ | ⟨b', off', cap, e, _, hc, _⟩
      · rw [e] at hl1; simp at hl1
      · cases e; exact ⟨hc.1, Nat.le_trans hc.2 (by decide)⟩
    cases evv
    obtain ⟨n, en⟩ : ∃ n, n = h.vers.length := ⟨_, rfl⟩
    have HK : Hid _ := And.intro BW (And.intro N1 (And.intro P1 (And.intro K hRv)))
    have EN : Hid _ := And.intro en True.intro
    clear BW N1 hs hk hv h16 eR c3 c3' P1 hp hRv hbv hcv K
    rw [← en] at hl1 hl8 hcap HK ⊢
    clear en
    obtain ⟨hcap1, hcap2⟩ := hcap
    go_enter Tryd.func17, Tryd.ntmps17
    go_wp2_with (first
      | (go_at_call 39; refine HK.out.2.1.mono ?_; rintro e w1 ⟨rfl, b1⟩; have H1 : Hid _ := And.intro b1 True.intro; obtain ⟨k0, k1, k2, k3, k4, k5, k6, k7, k8, k9, k10, k11, k12, k13, k14, k15, k16, k17⟩ := (HK.out.2.2.2.1.below b1).cells; clear b1)
      | (go_at_call 40; refine (HK.out.2.2.1 w1 H1.out.1).mono ?_; rintro e w2 ⟨rfl, b2⟩; have H2 : Hid _ := And.intro b2 True.intro; clear b2))
    have B2 := H1.out.1.trans (H2.out.1.mono H1.out.1.size)
    have K2 := HK.out.2.2.2.1.below B2
    have hlen : h.vers.length = n := EN.out.1.symm
    clear k0 k1 k2 k3 k4 k5 k6 k7 k8 k9 k10 k11 k12 k13 k14 k15 k16 k17
    obtain ⟨-, -, -, k3, -, -, -, -, -, -, -, -, -, -, -, -, -, -⟩ := K2.cells
    rw [hlen] at k3
    have r1 := K2.r1
    rw [hlen] at r1
    obtain ⟨b', o', c', e', hb', hc'⟩ := r1.at (by omega)
    rw [hlen] at e' hc'
    cases e'
    have HL : Hid _ := And.intro r1 (And.intro hlen (And.intro hc' (HK.out.1.trans (B2.mono HK.out.1.size))))
    clear r1 hlen hc' B2 K2
    go_loopg [3] n (fun q i wr => ∃ k : Nat, k ≤ n ∧ q = n - k ∧ i = .int .i64 (k : Int) ∧ (∃ z, wr = w2.drewN z) ∧ ∀ j, j < k → vs1 h.vers j)
    case atStart => exact ⟨0, Nat.zero_le _, rfl, rfl, ⟨0, rfl⟩, fun j hj => by omega⟩
    case round =>
      obtain ⟨k, hkn, rfl, rfl, ⟨z, hz⟩, hno⟩ := hrel
      have HN : Hid _ := And.intro hno (And.intro hz (show Below w.heap.size w wr by rw [hz]; exact below_drewN HL.out.2.2.2 z))
      clear hno
      have k3z : wr.cell? ⟨w.heap.size, 3, none⟩ = some (.slice (some ⟨bv, ov, none⟩) n p1) := by rw [hz]; exact k3
      by_cases hlt : k < n
      · obtain ⟨x, ex⟩ : ∃ x, x = h.vers.getD k 0 := ⟨_, rfl⟩
        have cx : wr.cell? ⟨bv, ov + k, none⟩ = some (.int .i64 x) := by rw [ex, hz]; exact HL.out.2.2.1 k hlt
        have EX : Hid _ := And.intro ex True.intro
        clear ex hz
        have hlt' : (k : Int) < (n : Int) := by omega
        have hk1' : IntKind.i64.wrap ((k : Int) + 1) = (k : Int) + 1 := by rw [IntKind.wrap_i64]; omega
        by_cases c1 : ¬ vok x
        · have hR : R = false := by
            rw [HK.out.2.2.2.2]
            refine decide_eq_false (fun q => ?_)
            have t := (q k hlt).1
            rw [← EX.out.1] at t
            exact c1 t
          subst hR
          have V : ∀ q, Calls Tryd.prog 38 #[.int .i64 x] (wr.drewN q) fun e w' => e = .returned (.bool false) ∧ w' = wr.drewN q := fun q => sVbad x _ c1
          have HV : Hid _ := And.intro V True.intro
          clear V c1
          go_wp2_with fail
          go_quiet (first | (go_at_call 38; exact Calls.quiet_of_same (HV.out.1 _)))
          go_wp2
          go_ret
          exact ⟨rfl, below_drewN HN.out.2.2 _⟩
        have c1' : vok x := Classical.not_not.1 c1
        have V : ∀ q, Calls Tryd.prog 38 #[.int .i64 x] (wr.drewN q) fun e w' => e = .returned (.bool true) ∧ w' = wr.drewN q := fun q => sVok x _ c1'
        have C : ∀ q, Calls Tryd.prog 41 #[.slice (some ⟨bv, ov + k, none⟩) 1 (p1 - k), .slice (some ⟨bv, ov, none⟩) k p1] (wr.drewN q) fun e w' => e = .returned (.int .i64 (if (h.vers.take k).contains x then x else 0)) ∧ ∃ m, w' = (wr.drewN q).drewN m := fun q => by
          have r := (HL.out.1.drewN z).drewN q
          rw [← HN.out.2.1] at r
          have ra := row_cutI r HL.out.2.1 k 1 (by omega)
          have rb := row_cutI r HL.out.2.1 0 k (by omega)
          have e1 : (h.vers.drop k).take 1 = [x] := by
            have hk' : k < h.vers.length := by rw [HL.out.2.1]; exact hlt
            rw [EX.out.1, List.drop_eq_getElem_cons hk']
            simp only [List.take_succ_cons, List.take_zero, List.getD, List.getElem?_eq_getElem hk', Option.getD_some]
          rw [e1] at ra
          rw [List.drop_zero] at rb
          have t := spec_chQ _ _ [x] (h.vers.take k) (wr.drewN q) ra rb (by simp) (by simp; omega)
          rw [chF_one] at t
          exact t
        have hncp : ¬ p1 = k := by omega
        have hpc1 : k + 1 ≤ p1 := by omega
        have hpc2 : k ≤ p1 := by omega
        have hx0 : 1 ≤ x := c1'.1
        have HV : Hid _ := And.intro V (And.intro C c1')
        clear V C c1 c1'
        cases hct : (h.vers.take k).contains x with
        | true =>
          rw [hct] at HV
          have hR : R = false := by
            rw [HK.out.2.2.2.2]
            refine decide_eq_false (fun q => ?_)
            obtain ⟨j, hj, ej⟩ := (take_contains h.vers k (by rw [HL.out.2.1]; omega) x).1 hct
            exact (q k hlt).2 j hj (by rw [ej, EX.out.1])
          subst hR
          have hx0' : (x != 0) = true := by simp; omega
          clear hct
          simp only [if_true] at HV
          go_wp2_with fail
          go_quiet (first | (go_at_call 38; exact Calls.quiet_of_same (HV.out.1 _)) | (go_at_call 41; exact Calls.quiet_of (HV.out.2.1 _)))
          go_wp2
          go_ret
          exact ⟨rfl, below_drewN HN.out.2.2 _⟩
        | false =>
          rw [hct] at HV
          have HCT : Hid _ := And.intro hct True.intro
          clear hct
          simp only [Bool.false_eq_true, if_false] at HV
          go_wp2_with fail
          go_quiet (first | (go_at_call 38; exact Calls.quiet_of_same (HV.out.1 _)) | (go_at_call 41; exact Calls.quiet_of (HV.out.2.1 _)))
          go_wp2
          go_roundg (n - (k + 1))
          case measure => omega
          case rel =>
            refine ⟨k + 1, by omega, rfl, by go_num, ⟨_, by rw [HN.out.2.1, World.drewN_drewN]⟩, fun j hj => ?_⟩
            by_cases hjk : j < k
            · exact HN.out.1 j hjk
            · obtain rfl : j = k := by omega
              refine ⟨by rw [← EX.out.1]; exact HV.out.2.2, fun j' hj' e => ?_⟩
              have t := (take_contains h.vers j (by rw [HL.out.2.1]; omega) x).2 ⟨j', hj', by rw [e, ← EX.out.1]⟩
              rw [HCT.out.1] at t
              cases t
      · have hR : R = true := by
          rw [HK.out.2.2.2.2]
          exact decide_eq_true (fun i hi => HN.out.1 i (by omega))
        subst hR
        clear hz
        go_wp2
        go_ret
        exact ⟨rfl, HN.out.2.2⟩
/-- The model's l12HelloOK. -/
theorem hokS (v : Value) (h : HE) (w : World) (hr : HERow w v h) (hs : h.small 9223372036854775807) :
    Calls Tryd.prog 17 #[v] w fun e w' => e = .returned (.bool (decide (heOK h))) ∧ Below w.heap.size w w' := by
  obtain ⟨a0, a1, a2, p0, p1, p2, v3, v4, v5, rfl, -, K⟩ := heK_new hr
  have no : ¬ heOK h → decide (heOK h) = false := fun q => decide_eq_false q
  by_cases c0 : h.rnd.length = 16
  · by_cases c2 : h.kd = 2
    · have e : decide (heOK h) = decide (heS h) := by
        rw [decide_eq_decide]
        exact ⟨fun q => by rcases q.2 with q | q; exact q.2; have := q.1; omega, fun q => ⟨c0, Or.inl ⟨c2, q⟩⟩⟩
      rw [e]
      exact hokS_srv h a0 a1 a2 p0 p1 p2 v3 v4 v5 w hs c2 c0 K
    · by_cases c1 : h.kd = 1 ∧ h.vr = 0 ∧ 1 ≤ h.vers.length ∧ h.vers.length ≤ 8
      · have e : decide (heOK h) = decide (heC h) := by
          rw [decide_eq_decide]
          exact ⟨fun q => by rcases q.2 with q | q; exact absurd q.1 c2; exact q.2, fun q => ⟨c0, Or.inr ⟨c1.1, q⟩⟩⟩
        rw [e]
        exact hokS_cli h a0 a1 a2 p0 p1 p2 v3 v4 v5 w hs c0 c1.1 c1.2.1 c1.2.2.1 c1.2.2.2 K
      · rw [no (fun q => by
          rcases q.2 with q | q
          · exact c2 q.1
          · exact c1 ⟨q.1, q.2.1, q.2.2.1.1.1, q.2.2.1.1.2⟩)]
        refine hokS_early h a0 a1 a2 p0 p1 p2 v3 v4 v5 w hs (Or.inr ⟨c0, c2, ?_⟩)
        by_cases d1 : h.kd = 1
        · refine Or.inr ⟨d1, ?_⟩
          by_cases d2 : h.vr = 0
          · refine Or.inr ⟨d2, ?_⟩
            rcases Nat.lt_or_ge h.vers.length 1 with q | q
            · exact Or.inl q
            · rcases Nat.lt_or_ge 8 h.vers.length with q2 | q2
              · exact Or.inr q2
              · exact absurd ⟨d1, d2, q, q2⟩ c1
          · exact Or.inl d2
        · exact Or.inl d1
  · rw [no (fun q => c0 q.1)]
    exact hokS_early h a0 a1 a2 p0 p1 p2 v3 v4 v5 w hs (Or.inl c0)
end Go.Proofs.YtcljchbceeiheaaDoor

namespace Go.Proofs.YtcljchbceeiheaaDoor
open Go.RowKit
set_option linter.unusedVariables false

theorem iVok (v : Int) (w : World) (h : vok v) : Calls Tryd.prog 48 #[.int .i64 v] w fun e w' => e = .returned (.bool true) ∧ w' = w := by
  obtain ⟨h1, h2⟩ := h
  go_enter Tryd.func48, Tryd.ntmps48
  go_wp2
  go_ret
  exact ⟨rfl, rfl⟩
theorem iVbad (v : Int) (w : World) (h : ¬ vok v) : Calls Tryd.prog 48 #[.int .i64 v] w fun e w' => e = .returned (.bool false) ∧ w' = w := by
  by_cases h1 : 1 ≤ v
  · have h2 : 4294967295 < v := by unfold vok at h; omega
    have hd : decide (v ≤ 4294967295) = false := decide_eq_false (by omega)
    clear h
    go_enter Tryd.func48, Tryd.ntmps48
    go_wp2
    go_ret
    exact ⟨rfl, rfl⟩
  · have h2 : v < 1 := by omega
    clear h h1
    go_enter Tryd.func48, Tryd.ntmps48
    go_wp2
    go_ret
    exact ⟨rfl, rfl⟩
theorem cids2 (n m : Nat) (d s : List Int) (e : d.length = n) (e2 : s.length = m) : (decide (∀ j, j < ([d, s] : List (List Int)).length → (([d, s] : List (List Int)).getD j []).length ≤ 8)) = decide (n ≤ 8 ∧ m ≤ 8) := by
  rw [decide_eq_decide]
  constructor
  · intro h
    have h0 := h 0 (by simp)
    have h1 := h 1 (by simp)
    simp only [List.getD_cons_zero, List.getD_cons_succ] at h0 h1
    omega
  · intro h j hj
    rcases (show j = 0 ∨ j = 1 by simp at hj; omega) with rfl | rfl
    · simp only [List.getD_cons_zero]; omega
    · simp only [List.getD_cons_zero, List.getD_cons_succ]; omega
theorem cids2_len (d s : List Int) (h : d.length ≤ 9223372036854775807) (h2 : s.length ≤ 9223372036854775807) (j : Nat) : (([d, s] : List (List Int)).getD j []).length ≤ 9223372036854775807 := by
  match j with
  | 0 => exact h
  | 1 => exact h2
  | n + 2 => simp [List.getD]
end Go.Proofs.YtcljchbceeiheaaDoor

namespace Go.Proofs.YtcljchbceeiheaaDoor
open Go.RowKit Go.Maps
set_option linter.unusedVariables false
set_option linter.unusedSimpArgs false

/-- As many as were counted: none was left out. -/
theorem cnt_all (c : Nat → Bool) (z : Nat → Nat) (h0 : z 0 = 0) : ∀ n, (∀ k, k < n → z (k + 1) = if c k then z k else z k + 1) → z n ≤ n ∧ (z n = n ↔ ∀ k, k < n → c k = false)
  | 0, _ => ⟨by omega, ⟨fun _ k hk => by omega, fun _ => h0⟩⟩
  | n + 1, hs => by
    obtain ⟨h1, h2⟩ := cnt_all c z h0 n (fun k hk => hs k (by omega))
    have h3 := hs n (by omega)
    cases hc : c n with
    | true =>
      rw [hc, if_pos rfl] at h3
      refine ⟨by omega, ⟨fun e => by omega, fun e => ?_⟩⟩
      have := e n (by omega)
      rw [hc] at this; cases this
    | false =>
      rw [hc] at h3
      simp only [Bool.false_eq_true, if_false] at h3
      refine ⟨by omega, ⟨fun e k hk => ?_, fun e => ?_⟩⟩
      · by_cases hk2 : k < n
        · exact h2.1 (by omega) k hk2
        · obtain rfl : k = n := by omega
          exact hc
      · have := h2.2 (fun k hk => e k (by omega)); omega
/-- A set of the first k of a list of keys, and how great it is. -/
theorem size_step (u : DataW Unit) (L : List Lit) (hL : ∀ x ∈ L, WideAt.IsKeyLit x) (k : Nat) (hk : k < L.length) : Maps.size (Maps.setOf u (L.take (k + 1))) = if (L.take k).any (fun y => y.sameKey (L[k])) then Maps.size (Maps.setOf u (L.take k)) else Maps.size (Maps.setOf u (L.take k)) + 1 := by
  have ht : ∀ x ∈ L.take k, WideAt.IsKeyLit x := fun x hx => hL x (List.mem_of_mem_take hx)
  rw [List.take_add_one, List.getElem?_eq_getElem hk]
  show Maps.size (Maps.setOf u (L.take k ++ [L[k]])) = _
  rw [setOf_snoc, size_put (tidy_setOf u _ ht), has_setOf u _ _ ht]
theorem size_all (u : DataW Unit) (L : List Lit) (hL : ∀ x ∈ L, WideAt.IsKeyLit x) : (Maps.size (Maps.setOf u L) = L.length) ↔ ∀ k, (hk : k < L.length) → (L.take k).any (fun y => y.sameKey (L[k])) = false := by
  have h := cnt_all (fun k => if hk : k < L.length then (L.take k).any (fun y => y.sameKey (L[k])) else false) (fun k => Maps.size (Maps.setOf u (L.take k))) rfl L.length (fun k hk => by
    rw [size_step u L hL k hk]
    simp only [dif_pos hk])
  rw [List.take_length] at h
  rw [h.2]
  constructor
  · intro q k hk
    have := q k hk
    rwa [dif_pos hk] at this
  · intro q k hk
    rw [dif_pos hk]
    exact q k hk
/-- The texts as keys. -/
def tKey (s : ByteArray) : Lit := .string s.data.toList
theorem lawT : Keyed Tryd.prog 9 := string_keyed Tryd.underlying9
def St (L : List ByteArray) (k : Nat) : DataW Unit := Maps.setOf (.agg []) ((L.take k).map tKey)
theorem St_zero (L : List ByteArray) : St L 0 = .map [] := by simp [St, Maps.setOf]
theorem St_succ (L : List ByteArray) (k : Nat) (h : k < L.length) : St L (k + 1) = (St L k).put (tKey (L.getD k ByteArray.empty)) (.agg []) := by
  unfold St
  rw [List.take_add_one, List.map_append, ← setOf_snoc]
  simp [List.getD, List.getElem?_eq_getElem h]
theorem makeMapT (n : Int) (w : World) : (Instr.makeMap 95 (some (.int .i64 n))).run Tryd.prog w = .ok (.map (some w.heap.size)) (w.alloc (.map #[] 0)) := by
  simp [Instr.makeMap, run_underlying Tryd.underlying95, asInt, asIntOf, Result.andThen]
theorem St_size (L : List ByteArray) : (Maps.size (St L L.length) = L.length) ↔ ∀ i, i < L.length → ∀ k, k < i → (L.getD k ByteArray.empty).data ≠ (L.getD i ByteArray.empty).data := by
  unfold St
  rw [List.take_length]
  have h := size_all (.agg []) (L.map tKey) (fun x hx => by obtain ⟨_, _, rfl⟩ := List.mem_map.1 hx; trivial)
  have hl : (L.map tKey).length = L.length := List.length_map ..
  have key : ∀ k, (hk : k < L.length) → (((L.map tKey).take k).any (fun y => y.sameKey ((L.map tKey)[k]'(by simpa using hk))) = false ↔ ∀ j, j < k → (L.getD j ByteArray.empty).data ≠ (L.getD k ByteArray.empty).data) := fun k hk => by
    rw [List.any_eq_false]
    constructor
    · intro q j hj e
      have hm : tKey (L.getD j ByteArray.empty) ∈ (L.map tKey).take k := by
        rw [List.mem_iff_getElem]
        refine ⟨j, by simp; omega, ?_⟩
        simp [List.getD, show j < L.length by omega]
      have := q _ hm
      apply this
      show (tKey (L.getD j ByteArray.empty)).sameKey _ = true
      rw [List.getElem_map]
      show ((L.getD j ByteArray.empty).data.toList == (L[k]).data.toList) = true
      rw [e, List.getD, List.getElem?_eq_getElem hk, Option.getD_some]
      exact beq_self_eq_true _
    · intro q x hx hs
      obtain ⟨j, hj, e⟩ := List.mem_iff_getElem.1 hx
      have hj' : j < k := by simp at hj; omega
      rw [List.getElem_take, List.getElem_map] at e
      rw [← e, List.getElem_map] at hs
      have hs' : ((L[j]).data.toList == (L[k]).data.toList) = true := hs
      rw [beq_iff_eq] at hs'
      apply q j hj'
      simp only [List.getD, List.getElem?_eq_getElem hk, List.getElem?_eq_getElem (show j < L.length by omega), Option.getD_some]
      exact Array.toList_inj.1 hs'
  constructor
  · intro q i hi
    exact (key i hi).1 (h.1 (by rw [hl]; exact q) i (by rw [hl]; exact hi))
  · intro q
    have t := h.2 (fun i hi => (key i (by rw [← hl]; exact hi)).2 (q i (by rw [← hl]; exact hi)))
    rw [hl] at t
    exact t
set_option maxRecDepth 100000 in
set_option maxHeartbeats 1000000 in
theorem setOfT (v : Value) (L : List ByteArray) (w : World) (hr : TRow w v L) (hy : L.length ≤ 4096) (hw : ∀ j, (L.getD j ByteArray.empty).size ≤ maxLen) :
    Calls Tryd.prog 67 #[v] w fun e w' => e = .returned (.map (some w.heap.size)) ∧ w'.ownsMap Tryd.prog 9 unitElem w.heap.size L.length (St L L.length) ∧ Below w.heap.size w w' := by
  have hmm := makeMapT
  obtain ⟨ao, ca, rfl, hca⟩ := hr.cells
  obtain ⟨n, en⟩ : ∃ n, n = L.length := ⟨_, rfl⟩
  rw [← en] at hy hca ⊢
  have H0 : Hid _ := And.intro en (And.intro hca hw)
  clear en hca hw hr
  go_enter Tryd.func67, Tryd.ntmps67
  go_wp2
  go_loopg [11] n (fun q i wr => ∃ k : Nat, k ≤ n ∧ q = n - k ∧ i = .int .i64 (k : Int) ∧ wr.ownsMap Tryd.prog 9 unitElem w.heap.size k (St L k) ∧ Below w.heap.size w wr)
  case atStart => exact ⟨0, Nat.zero_le _, rfl, rfl, by rw [St_zero]; exact World.ownsMap_made _ _ _ _, (Below.refl _ _).alloc (Nat.le_refl _) _⟩
  case round =>
    obtain ⟨k, hk, rfl, rfl, hown, hbx⟩ := hrel
    by_cases hlt : k < n
    · obtain ⟨b, off, rfl, hbl, c1⟩ := H0.out.2.1 k hlt
      have c2 := (hbx.cell (p := ⟨b, off + k, none⟩) hbl).trans c1
      have hkey : keyOf Tryd.prog 9 (.string (L.getD k ByteArray.empty)) = some (tKey (L.getD k ByteArray.empty)) := Go.WideMaps.keyOf_string_mk Tryd.underlying9 (H0.out.2.2 k)
      obtain ⟨y, ey⟩ : ∃ y, y = L.getD k ByteArray.empty := ⟨_, rfl⟩
      rw [← ey] at c2 hkey
      have EY : Hid _ := And.intro ey True.intro
      clear ey c1
      go_wp2_with (first
        | (at_mapUpdate; refine wpList_mapUpdate_own _ rfl _ _ _ 95 rfl 9 104 lawT Tryd.underlying95 (unitElem (H := Unit)) w.heap.size k _ rfl hown (by unfold maxLen; omega) _ _ _ rfl rfl hkey _ [] unitElem_mk ?_; intro w1 hown1 hgrow1)
        | go_in)
      go_roundg (n - (k + 1))
      case measure => omega
      case rel =>
        refine ⟨k + 1, by omega, rfl, by go_num, ?_, hbx.grown hgrow1 hbx.size (fun j hj => by cases hj; exact Nat.le_refl _)⟩
        rw [St_succ L k (by rw [← H0.out.1]; exact hlt), ← EY.out.1]
        exact hown1
    · obtain rfl : k = n := by omega
      go_wp2
      go_ret
      exact ⟨rfl, hown, hbx⟩
theorem Sd_size (V : List Int) : (Maps.size (Sd V V.length) = V.length) ↔ ∀ i, i < V.length → ∀ k, k < i → V.getD k 0 ≠ V.getD i 0 := by
  unfold Sd
  rw [List.take_length]
  have h := size_all (.agg []) (V.map (Lit.int .i64)) (fun x hx => by obtain ⟨_, _, rfl⟩ := List.mem_map.1 hx; trivial)
  have hl : (V.map (Lit.int .i64)).length = V.length := List.length_map ..
  have key : ∀ k, (hk : k < V.length) → (((V.map (Lit.int .i64)).take k).any (fun y => y.sameKey ((V.map (Lit.int .i64))[k]'(by simpa using hk))) = false ↔ ∀ j, j < k → V.getD j 0 ≠ V.getD k 0) := fun k hk => by
    rw [List.any_eq_false]
    constructor
    · intro q j hj e
      have hm : Lit.int .i64 (V.getD j 0) ∈ (V.map (Lit.int .i64)).take k := by
        rw [List.mem_iff_getElem]
        refine ⟨j, by simp; omega, ?_⟩
        simp [List.getD, show j < V.length by omega]
      have := q _ hm
      apply this
      rw [List.getElem_map]
      show decide (IntKind.i64 = IntKind.i64 ∧ V.getD j 0 = V[k]) = true
      rw [e, List.getD, List.getElem?_eq_getElem hk, Option.getD_some]
      simp
    · intro q x hx hs
      obtain ⟨j, hj, e⟩ := List.mem_iff_getElem.1 hx
      have hj' : j < k := by simp at hj; omega
      rw [List.getElem_take, List.getElem_map] at e
      rw [← e, List.getElem_map] at hs
      have hs' : decide (IntKind.i64 = IntKind.i64 ∧ V[j] = V[k]) = true := hs
      rw [decide_eq_true_eq] at hs'
      apply q j hj'
      simp only [List.getD, List.getElem?_eq_getElem hk, List.getElem?_eq_getElem (show j < V.length by omega), Option.getD_some]
      exact hs'.2
  constructor
  · intro q i hi
    exact (key i hi).1 (h.1 (by rw [hl]; exact q) i (by rw [hl]; exact hi))
  · intro q
    have t := h.2 (fun i hi => (key i (by rw [← hl]; exact hi)).2 (q i (by rw [← hl]; exact hi)))
    rw [hl] at t
    exact t
theorem vnI (s : ByteArray) (w : World) (hs : s.size ≤ 9223372036854775807) : Calls Tryd.prog 58 #[.string s] w fun e w' => e = .returned (.bool (decide (1 ≤ s.size ∧ s.size ≤ 16))) ∧ w' = w := by
  by_cases h1 : 1 ≤ s.size
  · by_cases h2 : s.size ≤ 16
    · rw [decide_eq_true ⟨h1, h2⟩]
      have g1 : (1 : Int) ≤ ((s.size : Nat) : Int) := by omega
      have g2 : ((s.size : Nat) : Int) ≤ 16 := by omega
      go_enter Tryd.func58, Tryd.ntmps58
      go_wp2
      go_ret
      exact ⟨rfl, rfl⟩
    · rw [decide_eq_false (fun q => h2 q.2)]
      have g1 : (1 : Int) ≤ ((s.size : Nat) : Int) := by omega
      have g2 : ¬ ((s.size : Nat) : Int) ≤ 16 := by omega
      go_enter Tryd.func58, Tryd.ntmps58
      go_wp2
      go_ret
      exact ⟨rfl, rfl⟩
  · rw [decide_eq_false (fun q => h1 q.1)]
    have g1 : ¬ (1 : Int) ≤ ((s.size : Nat) : Int) := by omega
    go_enter Tryd.func58, Tryd.ntmps58
    go_wp2
    go_ret
    exact ⟨rfl, rfl⟩
set_option maxRecDepth 100000 in
set_option maxHeartbeats 1000000 in
theorem vcT (v : Value) (L : List ByteArray) (most : Nat) (w : World) (hr : TRow w v L) (hl : L.length ≤ 9223372036854775807) (hw : ∀ j, (L.getD j ByteArray.empty).size ≤ maxLen) (hm : most ≤ 4) :
    Calls Tryd.prog 57 #[v, .int .i64 (most : Int), .func (.func 58) #[] #[]] w fun e w' => e = .returned (.bool (decide (nmOK L most))) ∧ Below w.heap.size w w' := by
  have hmx : maxLen ≤ 9223372036854775807 := by decide
  obtain ⟨ao, ca, rfl, hca⟩ := hr.cells
  obtain ⟨R, eR⟩ : ∃ R, R = decide (nmOK L most) := ⟨_, rfl⟩
  rw [← eR]
  obtain ⟨n, en⟩ : ∃ n, n = L.length := ⟨_, rfl⟩
  rw [← en] at hl hca ⊢
  have HR : Hid _ := And.intro hr hw
  rw [← en] at HR
  have H0 : Hid _ := And.intro eR (And.intro en hca)
  clear hca hr hw
  by_cases c1 : ¬ (1 ≤ n ∧ n ≤ most)
  · have hR : R = false := by rw [eR]; exact decide_eq_false (fun q => c1 (by rw [en]; exact q.1))
    subst hR
    clear eR en H0 HR
    by_cases c0 : n < 1
    · have c0' : (n : Int) < 1 := by omega
      go_enter Tryd.func57, Tryd.ntmps57
      go_wp2
      go_ret
      exact ⟨rfl, Below.refl _ _⟩
    · have c2 : (most : Int) < (n : Int) := by omega
      have c0' : ¬ (n : Int) < 1 := by omega
      go_enter Tryd.func57, Tryd.ntmps57
      go_wp2
      go_ret
      exact ⟨rfl, Below.refl _ _⟩
  obtain ⟨c2, c3⟩ := Decidable.not_not.1 c1
  have HC : Hid _ := And.intro c2 c3
  have c4 : ¬ (most : Int) < (n : Int) := by omega
  have c0' : ¬ (n : Int) < 1 := by omega
  have hn4 : n ≤ 4 := by omega
  clear eR en c3 c1
  go_enter Tryd.func57, Tryd.ntmps57
  go_wp2
  go_loopg [20] n (fun q i wr => ∃ k : Nat, k ≤ n ∧ q = n - k ∧ i = .int .i64 (k : Int) ∧ wr = w ∧ ∀ j, j < k → (1 ≤ (L.getD j ByteArray.empty).size ∧ (L.getD j ByteArray.empty).size ≤ 16))
  case atStart => exact ⟨0, Nat.zero_le _, rfl, rfl, rfl, fun j h => by omega⟩
  case round =>
    obtain ⟨k, hk, rfl, rfl, hwr, hno⟩ := hrel
    subst wr
    have HN : Hid _ := And.intro hno True.intro
    clear hno
    by_cases hlt : k < n
    · obtain ⟨b, off, rfl, hbl, c1⟩ := H0.out.2.2 k hlt
      obtain ⟨x, ex⟩ : ∃ x, x = L.getD k ByteArray.empty := ⟨_, rfl⟩
      rw [← ex] at c1
      have V := vnI x w (by rw [ex]; exact Nat.le_trans (HR.out.2 k) hmx)
      have EX : Hid _ := And.intro ex True.intro
      clear ex
      by_cases s1 : 1 ≤ x.size ∧ x.size ≤ 16
      · rw [decide_eq_true s1] at V
        have HV : Hid _ := And.intro V s1
        clear V s1
        go_wp2_with (go_at_call 58; refine HV.out.1.mono ?_; rintro e w1 ⟨rfl, hw1⟩; subst w1)
        go_roundg (n - (k + 1))
        case measure => omega
        case rel =>
          refine ⟨k + 1, by omega, rfl, by go_num, rfl, fun j hj => ?_⟩
          by_cases hjk : j < k
          · exact HN.out.1 j hjk
          · obtain rfl : j = k := by omega
            rw [← EX.out.1]; exact HV.out.2
      · have hR : R = false := by
          rw [H0.out.1]
          refine decide_eq_false (fun q => ?_)
          have t := (q.2 k (by rw [← H0.out.2.1]; exact hlt)).1
          rw [← EX.out.1] at t
          exact s1 t
        subst hR
        rw [decide_eq_false s1] at V
        have HV : Hid _ := And.intro V True.intro
        clear V s1
        go_wp2_with (go_at_call 58; refine HV.out.1.mono ?_; rintro e w1 ⟨rfl, hw1⟩; subst w1)
        go_ret
        exact ⟨rfl, Below.refl _ _⟩
    · have S := setOfT (.slice ao n ca) L w HR.out.1 (by rw [← H0.out.2.1]; omega) HR.out.2
      have hRs : R = ((Maps.size (St L L.length) : Int) == (n : Int)) := by
        rw [H0.out.1, Bool.eq_iff_iff, decide_eq_true_eq, beq_iff_eq, H0.out.2.1]
        constructor
        · intro q
          have := (St_size L).2 (fun i hi => (q.2 i hi).2)
          omega
        · intro q
          have t := (St_size L).1 (by omega)
          exact ⟨by rw [← H0.out.2.1]; exact HC.out, fun i hi => ⟨HN.out.1 i (by rw [← H0.out.2.1] at hi; omega), t i hi⟩⟩
      have HS : Hid _ := And.intro S hRs
      clear S hRs
      go_wp2_with (first
        | (go_at_call 67; refine HS.out.1.mono ?_; rintro e w1 ⟨rfl, o1, b1⟩; have HB : Hid _ := And.intro b1 True.intro; clear b1)
        | (at_len; refine wpList_len_own _ rfl _ 95 rfl 9 104 Tryd.underlying95 unitElem w.heap.size L.length (St L L.length) rfl o1 ?_))
      go_ret
      exact ⟨by rw [HS.out.2]; rfl, HB.out.1⟩
set_option maxRecDepth 100000 in
set_option maxHeartbeats 1000000 in
theorem vcI (v : Value) (L : List Int) (w : World) (hr : Row w .i64 v L) (hl : L.length ≤ 9223372036854775807) (hw : ∀ n ∈ L, (Lit.int .i64 n).wf = true) :
    Calls Tryd.prog 56 #[v, .int .i64 8, .func (.func 48) #[] #[]] w fun e w' => e = .returned (.bool (decide (vsOK L))) ∧ Below w.heap.size w w' := by
  obtain ⟨ao, ca, rfl, hca⟩ := hr.cells
  obtain ⟨R, eR⟩ : ∃ R, R = decide (vsOK L) := ⟨_, rfl⟩
  rw [← eR]
  obtain ⟨n, en⟩ : ∃ n, n = L.length := ⟨_, rfl⟩
  rw [← en] at hl hca ⊢
  have HR : Hid _ := And.intro hr hw
  rw [← en] at HR
  have H0 : Hid _ := And.intro eR (And.intro en hca)
  clear hca hr hw
  by_cases c1 : ¬ (1 ≤ n ∧ n ≤ 8)
  · have hR : R = false := by rw [eR]; exact decide_eq_false (fun q => c1 (by rw [en]; exact q.1))
    subst hR
    clear eR en H0 HR
    by_cases c0 : n < 1
    · have c0' : (n : Int) < 1 := by omega
      go_enter Tryd.func56, Tryd.ntmps56
      go_wp2
      go_ret
      exact ⟨rfl, Below.refl _ _⟩
    · have c2 : (8 : Int) < (n : Int) := by omega
      have c0' : ¬ (n : Int) < 1 := by omega
      go_enter Tryd.func56, Tryd.ntmps56
      go_wp2
      go_ret
      exact ⟨rfl, Below.refl _ _⟩
  obtain ⟨c2, c3⟩ := Decidable.not_not.1 c1
  have HC : Hid _ := And.intro c2 c3
  have c4 : ¬ (8 : Int) < (n : Int) := by omega
  have c0' : ¬ (n : Int) < 1 := by omega
  have hn4 : n ≤ 8 := by omega
  clear eR en c3 c1
  go_enter Tryd.func56, Tryd.ntmps56
  go_wp2
  go_loopg [20] n (fun q i wr => ∃ k : Nat, k ≤ n ∧ q = n - k ∧ i = .int .i64 (k : Int) ∧ wr = w ∧ ∀ j, j < k → (1 ≤ L.getD j 0 ∧ L.getD j 0 ≤ 4294967295))
  case atStart => exact ⟨0, Nat.zero_le _, rfl, rfl, rfl, fun j h => by omega⟩
  case round =>
    obtain ⟨k, hk, rfl, rfl, hwr, hno⟩ := hrel
    subst wr
    have HN : Hid _ := And.intro hno True.intro
    clear hno
    by_cases hlt : k < n
    · obtain ⟨b, off, rfl, hbl, c1⟩ := H0.out.2.2 k hlt
      obtain ⟨x, ex⟩ : ∃ x, x = L.getD k 0 := ⟨_, rfl⟩
      rw [← ex] at c1
      have EX : Hid _ := And.intro ex True.intro
      clear ex
      by_cases s1 : vok x
      · have V := iVok x w s1
        have HV : Hid _ := And.intro V s1
        clear V s1
        go_wp2_with (go_at_call 48; refine HV.out.1.mono ?_; rintro e w1 ⟨rfl, hw1⟩; subst w1)
        go_roundg (n - (k + 1))
        case measure => omega
        case rel =>
          refine ⟨k + 1, by omega, rfl, by go_num, rfl, fun j hj => ?_⟩
          by_cases hjk : j < k
          · exact HN.out.1 j hjk
          · obtain rfl : j = k := by omega
            rw [← EX.out.1]; exact HV.out.2
      · have hR : R = false := by
          rw [H0.out.1]
          refine decide_eq_false (fun q => ?_)
          have t := (q.2 k (by rw [← H0.out.2.1]; exact hlt)).1
          rw [← EX.out.1] at t
          exact s1 t
        subst hR
        have V := iVbad x w s1
        have HV : Hid _ := And.intro V True.intro
        clear V s1
        go_wp2_with (go_at_call 48; refine HV.out.1.mono ?_; rintro e w1 ⟨rfl, hw1⟩; subst w1)
        go_ret
        exact ⟨rfl, Below.refl _ _⟩
    · have S := setOfC (.slice ao n ca) L w HR.out.1 (by rw [← H0.out.2.1]; omega) HR.out.2
      have hRs : R = ((Maps.size (Sd L L.length) : Int) == (n : Int)) := by
        rw [H0.out.1, Bool.eq_iff_iff, decide_eq_true_eq, beq_iff_eq, H0.out.2.1]
        constructor
        · intro q
          have := (Sd_size L).2 (fun i hi => (q.2 i hi).2)
          omega
        · intro q
          have t := (Sd_size L).1 (by omega)
          exact ⟨by rw [← H0.out.2.1]; exact HC.out, fun i hi => ⟨HN.out.1 i (by rw [← H0.out.2.1] at hi; omega), t i hi⟩⟩
      have HS : Hid _ := And.intro S hRs
      clear S hRs
      go_wp2_with (first
        | (go_at_call 66; refine HS.out.1.mono ?_; rintro e w1 ⟨rfl, o1, b1⟩; have HB : Hid _ := And.intro b1 True.intro; clear b1)
        | (at_len; refine wpList_len_own _ rfl _ 93 rfl 3 104 Tryd.underlying93 unitElem w.heap.size L.length (Sd L L.length) rfl o1 ?_))
      go_ret
      exact ⟨by rw [HS.out.2]; rfl, HB.out.1⟩
theorem vnsI (v : Value) (L : List ByteArray) (most : Nat) (w : World) (hr : TRow w v L) (hl : L.length ≤ 9223372036854775807) (hw : ∀ j, (L.getD j ByteArray.empty).size ≤ maxLen) (hm : most ≤ 4) :
    Calls Tryd.prog 46 #[v, .int .i64 (most : Int)] w fun e w' => e = .returned (.bool (decide (nmOK L most))) ∧ Below w.heap.size w w' := by
  have HC : Hid _ := And.intro (vcT v L most w hr hl hw hm) True.intro
  clear hr hl hw
  go_enter Tryd.func46, Tryd.ntmps46
  go_wp2_with (go_at_call 57; refine HC.out.1.mono ?_; rintro e w1 ⟨rfl, b1⟩; have HB : Hid _ := And.intro b1 True.intro; clear b1)
  go_ret
  exact ⟨rfl, HB.out.1⟩
theorem vvsI (v : Value) (L : List Int) (w : World) (hr : Row w .i64 v L) (hl : L.length ≤ 9223372036854775807) (hw : ∀ n ∈ L, (Lit.int .i64 n).wf = true) :
    Calls Tryd.prog 45 #[v] w fun e w' => e = .returned (.bool (decide (vsOK L))) ∧ Below w.heap.size w w' := by
  have HC : Hid _ := And.intro (vcI v L w hr hl hw) True.intro
  clear hr hl hw
  go_enter Tryd.func45, Tryd.ntmps45
  go_wp2_with (go_at_call 56; refine HC.out.1.mono ?_; rintro e w1 ⟨rfl, b1⟩; have HB : Hid _ := And.intro b1 True.intro; clear b1)
  go_ret
  exact ⟨rfl, HB.out.1⟩
end Go.Proofs.YtcljchbceeiheaaDoor

namespace Go.Proofs.YtcljchbceeiheaaDoor
open Go.RowKit
set_option linter.unusedVariables false
set_option linter.unusedSimpArgs false

set_option maxRecDepth 20000 in
set_option maxHeartbeats 4000000 in
/-- The program's validHello. -/
theorem vhI (v : Value) (h : HE) (w : World) (hr : HERow w v h) (hs : h.small 9223372036854775807) (hx : h.texts maxLen) (hwf : ∀ n ∈ h.vers, (Lit.int .i64 n).wf = true) :
    Calls Tryd.prog 26 #[v] w fun e w' => e = .returned (.bool (decide (heOK h))) ∧ Below w.heap.size w w' := by
  obtain ⟨a0, a1, a2, p0, p1, p2, v3, v4, v5, rfl, -, K⟩ := heK_new hr
  obtain ⟨R, eR⟩ : ∃ R, R = decide (heOK h) := ⟨_, rfl⟩
  rw [← eR]
  obtain ⟨CS, eCS⟩ : ∃ CS, CS = heL h (.slice a0 h.rnd.length p0) (.slice a1 h.vers.length p1) (.slice a2 h.nms.length p2) v3 v4 v5 := ⟨_, rfl⟩
  rw [← eCS] at K ⊢
  have BW : Below w.heap.size w (w.alloc (.cells CS 34)) := (Below.refl _ _).alloc (Nat.le_refl _) _
  have hs0 : h.rnd.length ≤ 9223372036854775807 := hs.1
  have hs1 : h.vers.length ≤ 9223372036854775807 := hs.2.1
  have VS := fun (wx : World) (b : Below (w.alloc (.cells CS 34)).heap.size (w.alloc (.cells CS 34)) wx) => vvsI _ h.vers wx (K.below b).r1 hs.2.1 hwf
  have NM := fun (most : Nat) (hm : most ≤ 4) (wx : World) (b : Below (w.alloc (.cells CS 34)).heap.size (w.alloc (.cells CS 34)) wx) => vnsI _ h.nms most wx (K.below b).r2 hs.2.2.1 hx hm
  have PK := fun (s : Bool) (wx : World) (b : Below (w.alloc (.cells CS 34)).heap.size (w.alloc (.cells CS 34)) wx) => pokI (heP h v3 v4 v5) h.par s wx (K.below b).r3 hs.2.2.2
  have HK : Hid _ := And.intro K (And.intro BW (And.intro VS (And.intro NM (And.intro PK eR))))
  obtain ⟨k0, k1, k2, k3, k4, k5, k6, k7, k8, k9, k10, k11, k12, k13, k14, k15, k16, k17⟩ := K.cells
  clear K BW VS NM PK eR hs hx hwf hr eCS
  by_cases c0 : ¬ h.rnd.length = 16
  · have hR : R = false := by rw [HK.out.2.2.2.2.2]; exact decide_eq_false (fun q => c0 q.1)
    subst hR
    have hb : ((h.rnd.length : Int) != 16) = true := by simp; omega
    clear c0
    go_enter Tryd.func26, Tryd.ntmps26
    go_wp2
    go_ret
    exact ⟨rfl, HK.out.2.1⟩
  have c0' : h.rnd.length = 16 := Decidable.not_not.1 c0
  have hb0 : ((h.rnd.length : Int) != 16) = false := by rw [c0']; rfl
  by_cases c1 : h.kd = 1
  · have e1 : R = decide (heC h) := by
      rw [HK.out.2.2.2.2.2, decide_eq_decide]
      exact ⟨fun q => by rcases q.2 with q | q; have := q.1; omega; exact q.2, fun q => ⟨c0', Or.inr ⟨c1, q⟩⟩⟩
    have hk1 : (h.kd == 1) = true := by rw [c1]; rfl
    by_cases c2 : ¬ h.vr = 0
    · have hR : R = false := by rw [e1]; exact decide_eq_false (fun q => c2 q.1)
      subst hR
      have hb : (h.vr == 0) = false := by simp [c2]
      clear c0 c0' c1 c2 e1
      go_enter Tryd.func26, Tryd.ntmps26
      go_wp2
      go_ret
      exact ⟨rfl, HK.out.2.1⟩
    have c2' : h.vr = 0 := Decidable.not_not.1 c2
    have hv0 : (h.vr == 0) = true := by rw [c2']; rfl
    have V1 := HK.out.2.2.1 (w.alloc (.cells CS 34)) (Below.refl _ _)
    by_cases c3 : ¬ vsOK h.vers
    · have hR : R = false := by rw [e1]; exact decide_eq_false (fun q => c3 q.2.1)
      subst hR
      rw [decide_eq_false c3] at V1
      have HV : Hid _ := And.intro V1 True.intro
      clear c0 c0' c1 c2 c2' c3 e1 V1
      go_enter Tryd.func26, Tryd.ntmps26
      go_wp2_with (go_at_call 45; refine HV.out.1.mono ?_; rintro e w1 ⟨rfl, b1⟩; have H1 : Hid _ := And.intro b1 True.intro; clear b1)
      go_ret
      exact ⟨rfl, HK.out.2.1.trans (H1.out.1.mono HK.out.2.1.size)⟩
    have c3' : vsOK h.vers := Decidable.not_not.1 c3
    rw [decide_eq_true c3'] at V1
    have N1 := HK.out.2.2.2.1 4 (by decide)
    by_cases c4 : ¬ nmOK h.nms 4
    · have hR : R = false := by rw [e1]; exact decide_eq_false (fun q => c4 q.2.2.1)
      subst hR
      rw [decide_eq_false c4] at N1
      have HV : Hid _ := And.intro V1 (And.intro N1 True.intro)
      clear c0 c0' c1 c2 c2' c3 c3' c4 e1 V1 N1
      go_enter Tryd.func26, Tryd.ntmps26
      go_wp2_with (first
        | (go_at_call 45; refine HV.out.1.mono ?_; rintro e w1 ⟨rfl, b1⟩; have H1 : Hid _ := And.intro b1 True.intro; clear k0 k1 k2 k3 k4 k5 k6 k7 k8 k9 k10 k11 k12 k13 k14 k15 k16 k17; obtain ⟨k0, k1, k2, k3, k4, k5, k6, k7, k8, k9, k10, k11, k12, k13, k14, k15, k16, k17⟩ := (HK.out.1.below b1).cells; clear b1)
        | (go_at_call 46; refine (HV.out.2.1 w1 H1.out.1).mono ?_; rintro e w2 ⟨rfl, b2⟩; have H2 : Hid _ := And.intro (H1.out.1.trans (b2.mono H1.out.1.size)) True.intro; clear b2))
      go_ret
      exact ⟨rfl, HK.out.2.1.trans (H2.out.1.mono HK.out.2.1.size)⟩
    have c4' : nmOK h.nms 4 := Decidable.not_not.1 c4
    rw [decide_eq_true c4'] at N1
    have hR : R = pok h.par false := by
      rw [e1]
      cases hp : pok h.par false with
      | true => exact decide_eq_true ⟨c2', c3', c4', hp⟩
      | false => exact decide_eq_false (fun q => by have := q.2.2.2; rw [hp] at this; cases this)
    have P1 := HK.out.2.2.2.2.1 false
    rw [← hR] at P1
    have HV : Hid _ := And.intro V1 (And.intro N1 P1)
    clear c0 c0' c1 c2 c2' c3 c3' c4 c4' e1 V1 N1 hR P1
    go_enter Tryd.func26, Tryd.ntmps26
    go_wp2_with (first
      | (go_at_call 45; refine HV.out.1.mono ?_; rintro e w1 ⟨rfl, b1⟩; have H1 : Hid _ := And.intro b1 True.intro; clear k0 k1 k2 k3 k4 k5 k6 k7 k8 k9 k10 k11 k12 k13 k14 k15 k16 k17; obtain ⟨k0, k1, k2, k3, k4, k5, k6, k7, k8, k9, k10, k11, k12, k13, k14, k15, k16, k17⟩ := (HK.out.1.below b1).cells; clear b1)
      | (go_at_call 46; refine (HV.out.2.1 w1 H1.out.1).mono ?_; rintro e w2 ⟨rfl, b2⟩; have H2 : Hid _ := And.intro (H1.out.1.trans (b2.mono H1.out.1.size)) True.intro; clear k0 k1 k2 k3 k4 k5 k6 k7 k8 k9 k10 k11 k12 k13 k14 k15 k16 k17; obtain ⟨k0, k1, k2, k3, k4, k5, k6, k7, k8, k9, k10, k11, k12, k13, k14, k15, k16, k17⟩ := (HK.out.1.below H2.out.1).cells; clear b2)
      | (go_at_call 47; refine (HV.out.2.2 w2 H2.out.1).mono ?_; rintro e w3 ⟨rfl, b3⟩; have H3 : Hid _ := And.intro (H2.out.1.trans (b3.mono H2.out.1.size)) True.intro; clear b3))
    go_ret
    exact ⟨rfl, HK.out.2.1.trans (H3.out.1.mono HK.out.2.1.size)⟩
  have hk1 : (h.kd == 1) = false := by simp [c1]
  by_cases c2 : ¬ h.kd = 2
  · have hR : R = false := by
      rw [HK.out.2.2.2.2.2]
      refine decide_eq_false (fun q => ?_)
      rcases q.2 with q | q
      · exact c2 q.1
      · exact c1 q.1
    subst hR
    have hk2 : (h.kd == 2) = false := by simp [c2]
    clear c0 c0' c1 c2
    go_enter Tryd.func26, Tryd.ntmps26
    go_wp2
    go_ret
    exact ⟨rfl, HK.out.2.1⟩
  have c2' : h.kd = 2 := Decidable.not_not.1 c2
  have hk2 : (h.kd == 2) = true := by rw [c2']; rfl
  have e1 : R = decide (heS h) := by
    rw [HK.out.2.2.2.2.2, decide_eq_decide]
    exact ⟨fun q => by rcases q.2 with q | q; exact q.2; exact absurd q.1 c1, fun q => ⟨c0', Or.inl ⟨c2', q⟩⟩⟩
  by_cases c3 : ¬ vok h.vr
  · have hR : R = false := by rw [e1]; exact decide_eq_false (fun q => c3 q.1)
    subst hR
    have HV : Hid _ := And.intro (iVbad h.vr (w.alloc (.cells CS 34)) c3) True.intro
    clear c0 c0' c1 c2 c2' c3 e1
    go_enter Tryd.func26, Tryd.ntmps26
    go_wp2_with (go_at_call 48; refine HV.out.1.mono ?_; rintro e w1 ⟨rfl, hw⟩; subst w1)
    go_ret
    exact ⟨rfl, HK.out.2.1⟩
  have c3' : vok h.vr := Classical.not_not.1 c3
  have V1 := iVok h.vr (w.alloc (.cells CS 34)) c3'
  by_cases c4 : ¬ h.vers.length = 0
  · have hR : R = false := by rw [e1]; exact decide_eq_false (fun q => c4 q.2.1)
    subst hR
    have hb : ((h.vers.length : Int) == 0) = false := by rw [beq_eq_false_iff_ne]; omega
    have HV : Hid _ := And.intro V1 True.intro
    clear c0 c0' c1 c2 c2' c3 c3' c4 e1 V1
    go_enter Tryd.func26, Tryd.ntmps26
    go_wp2_with (go_at_call 48; refine HV.out.1.mono ?_; rintro e w1 ⟨rfl, hw⟩; subst w1)
    go_ret
    exact ⟨rfl, HK.out.2.1⟩
  have c4' : h.vers.length = 0 := Decidable.not_not.1 c4
  have hb4 : ((h.vers.length : Int) == 0) = true := by rw [c4']; rfl
  have N1 := HK.out.2.2.2.1 1 (by decide) (w.alloc (.cells CS 34)) (Below.refl _ _)
  by_cases c5 : ¬ nmOK h.nms 1
  · have hR : R = false := by rw [e1]; exact decide_eq_false (fun q => c5 q.2.2.1)
    subst hR
    rw [decide_eq_false c5] at N1
    have HV : Hid _ := And.intro V1 N1
    clear c0 c0' c1 c2 c2' c3 c3' c4 c4' c5 e1 V1 N1
    go_enter Tryd.func26, Tryd.ntmps26
    go_wp2_with (first
      | (go_at_call 48; refine HV.out.1.mono ?_; rintro e w1 ⟨rfl, hw⟩; subst w1)
      | (go_at_call 46; refine HV.out.2.mono ?_; rintro e w2 ⟨rfl, b2⟩; have H2 : Hid _ := And.intro b2 True.intro; clear b2))
    go_ret
    exact ⟨rfl, HK.out.2.1.trans (H2.out.1.mono HK.out.2.1.size)⟩
  have c5' : nmOK h.nms 1 := Decidable.not_not.1 c5
  rw [decide_eq_true c5'] at N1
  have hR : R = pok h.par true := by
    rw [e1]
    cases hp : pok h.par true with
    | true => exact decide_eq_true ⟨c3', c4', c5', hp⟩
    | false => exact decide_eq_false (fun q => by have := q.2.2.2; rw [hp] at this; cases this)
  have P1 := HK.out.2.2.2.2.1 true
  rw [← hR] at P1
  have HV : Hid _ := And.intro V1 (And.intro N1 P1)
  clear c0 c0' c1 c2 c2' c3 c3' c4 c4' c5 c5' e1 V1 N1 hR P1
  go_enter Tryd.func26, Tryd.ntmps26
  go_wp2_with (first
    | (go_at_call 48; refine HV.out.1.mono ?_; rintro e w1 ⟨rfl, hw⟩; subst w1)
    | (go_at_call 46; refine HV.out.2.1.mono ?_; rintro e w2 ⟨rfl, b2⟩; have H2 : Hid _ := And.intro b2 True.intro; clear k0 k1 k2 k3 k4 k5 k6 k7 k8 k9 k10 k11 k12 k13 k14 k15 k16 k17; obtain ⟨k0, k1, k2, k3, k4, k5, k6, k7, k8, k9, k10, k11, k12, k13, k14, k15, k16, k17⟩ := (HK.out.1.below b2).cells; clear b2)
    | (go_at_call 47; refine (HV.out.2.2 w2 H2.out.1).mono ?_; rintro e w3 ⟨rfl, b3⟩; have H3 : Hid _ := And.intro (H2.out.1.trans (b3.mono H2.out.1.size)) True.intro; clear b3))
  go_ret
  exact ⟨rfl, HK.out.2.1.trans (H3.out.1.mono HK.out.2.1.size)⟩
end Go.Proofs.YtcljchbceeiheaaDoor

namespace Go.Proofs.YtcljchbceeiheaaDoor
open Go.RowKit
set_option linter.unusedVariables false
set_option linter.unusedSimpArgs false

/-- A text's bytes. -/
def txB (s : ByteArray) : List Int := s.data.toList.map fun b => (b.toNat : Int)
theorem txB_length (s : ByteArray) : (txB s).length = s.size := by unfold txB; rw [List.length_map, Array.length_toList]; rfl
theorem txB_bytes (s : ByteArray) : Bytes (txB s) := by
  intro x hx
  obtain ⟨b, _, rfl⟩ := List.mem_map.1 hx
  have := b.toNat_lt
  omega
/-- '[]byte(s)'. -/
theorem convSB (w : World) (s : ByteArray) (hs : s.size ≤ 4096) : ∃ C W, (convert 9 22 (.string s)).run Tryd.prog w = .ok (.slice (some ⟨w.heap.size, 0, none⟩) s.size C) W ∧ Row W .u8 (.slice (some ⟨w.heap.size, 0, none⟩) s.size C) (txB s) ∧ Below w.heap.size w W ∧ w.heap.size < W.heap.size := by
  refine ⟨_, _, Lib.run_convert_string_bytes w 9 22 5 s Tryd.underlying9 Tryd.underlying22 Tryd.underlying5, ?_, ⟨rfl, rfl, rfl, by rw [Lib.bytesWorld_size]; omega, fun k hk => Lib.bytesWorld_at_old w _ s k hk⟩, by rw [Lib.bytesWorld_size]; omega⟩
  refine Or.inr ⟨w.heap.size, 0, _, by rw [txB_length], by rw [Lib.bytesWorld_size]; omega, ⟨by rw [txB_length]; exact grownCap_ge w s.size 0 5, grownCap_le_maxLen w s.size 0 5 (by unfold maxLen; omega)⟩, fun j hj => ?_⟩
  rw [txB_length] at hj
  rw [Nat.zero_add, Lib.bytesWorld_cell w _ s j hj]
  have hd : j < s.data.toList.length := by rw [Array.length_toList]; exact hj
  simp only [txB, List.getD, List.getElem?_map, List.getElem?_eq_getElem hd, Option.map_some, Option.getD_some]
set_option maxHeartbeats 400000 in
theorem copyA (v : Value) (xs : List Int) (w : World) (hr : Row w .u8 v xs) (hl : xs.length ≤ 1048576) :
    Calls Tryd.prog 18 #[v] w fun e w' => ∃ r, e = .returned r ∧ w'.ownsRow w.heap.size 5 1 r xs.length (xs.map (Value.int .u8)) ∧ Below w.heap.size w w' := by
  have ba : Below w.heap.size w (w.alloc (.cells #[] 5)) := (Below.refl _ _).alloc (Nat.le_refl _) _
  have HN : Hid _ := And.intro (hr.below ba) (And.intro ba hl)
  clear hr ba hl
  go_enter Tryd.func18, Tryd.ntmps18
  go_wp2_with (at_builtin; refine wpList_append_row rfl _ _ rfl w.heap.size (.slice (some ⟨w.heap.size, 0, none⟩) 0 0) 0 [] rfl (World.ownsRow_lit w #[] 0 (Nat.le_refl _) (by decide) rfl) v xs rfl HN.out.1 (by have := HN.out.2.2; omega) (by simp) ?_; intro v' w2 hown2 hgrow)
  have R : w2.ownsRow w.heap.size 5 1 v' xs.length (xs.map (Value.int .u8)) := by simpa using hown2
  have B : Below w.heap.size w w2 := HN.out.2.1.grown hgrow (by simp) (by intro k hk; simp [Value.ownBlock] at hk; omega)
  have HR : Hid _ := And.intro R B
  clear R B hown2 hgrow
  go_wp2
  go_ret
  exact ⟨_, rfl, HR.out.1, HR.out.2⟩
/-- The bytes of a hello. -/
def vsA (V : List Int) (k : Nat) : List Int := ((V.take k).map (fun v => be v 4)).flatten
def nmA (L : List ByteArray) (k : Nat) : List Int := ((L.take k).map (fun s => putv (s.size : Int) ++ txB s)).flatten
def heV (h : HE) : List Int := if h.kd = 1 then (h.vers.length : Int) :: vsA h.vers h.vers.length else be h.vr 4
def heM (h : HE) : List Int := h.rnd ++ heV h ++ (h.nms.length : Int) :: nmA h.nms h.nms.length
def heW (h : HE) : List Int := heM h ++ parB h.par (decide (h.kd = 2))
def heB (h : HE) : List Int := h.kd :: (be ((heW h).length : Int) 2 ++ heW h)
theorem vsA_succ (V : List Int) (k : Nat) (hk : k < V.length) : vsA V (k + 1) = vsA V k ++ be (V.getD k 0) 4 := by
  unfold vsA
  rw [List.take_add_one, List.map_append, List.flatten_append]
  simp [List.getD, List.getElem?_eq_getElem hk]
theorem nmA_succ (L : List ByteArray) (k : Nat) (hk : k < L.length) : nmA L (k + 1) = nmA L k ++ (putv ((L.getD k ByteArray.empty).size : Int) ++ txB (L.getD k ByteArray.empty)) := by
  unfold nmA
  rw [List.take_add_one, List.map_append, List.flatten_append]
  simp [List.getD, List.getElem?_eq_getElem hk]
theorem vsA_len (V : List Int) : ∀ k, k ≤ V.length → (vsA V k).length = 4 * k
  | 0, _ => rfl
  | k + 1, hk => by rw [vsA_succ V k (by omega), List.length_append, vsA_len V k (by omega), be_length]; omega
theorem nmA_len (L : List ByteArray) (h : ∀ i, i < L.length → (L.getD i ByteArray.empty).size ≤ 16) : ∀ k, k ≤ L.length → (nmA L k).length ≤ 24 * k
  | 0, _ => Nat.le_refl _
  | k + 1, hk => by
    have h1 := nmA_len L h k (by omega)
    have h2 := h k (by omega)
    have h3 := putv_le ((L.getD k ByteArray.empty).size : Int) (by omega) (by omega)
    rw [nmA_succ L k (by omega), List.length_append, List.length_append, txB_length]
    omega
theorem heOK_len (h : HE) (ok : heOK h) : (heM h).length ≤ 200 ∧ (heW h).length ≤ 600 ∧ h.nms.length ≤ 4 ∧ h.vers.length ≤ 8 ∧ (∀ i, i < h.nms.length → (h.nms.getD i ByteArray.empty).size ≤ 16) := by
  obtain ⟨h16, hc⟩ := ok
  have hn : h.nms.length ≤ 4 ∧ (∀ i, i < h.nms.length → (h.nms.getD i ByteArray.empty).size ≤ 16) ∧ h.vers.length ≤ 8 ∧ pok h.par (decide (h.kd = 2)) = true := by
    rcases hc with ⟨e, q⟩ | ⟨e, q⟩
    · exact ⟨by have := q.2.2.1.1.2; omega, fun i hi => (q.2.2.1.2 i hi).1.2, by have := q.2.1; omega, by rw [decide_eq_true e]; exact q.2.2.2⟩
    · exact ⟨q.2.2.1.1.2, fun i hi => (q.2.2.1.2 i hi).1.2, q.2.1.1.2, by rw [decide_eq_false (by omega)]; exact q.2.2.2⟩
  have h1 := nmA_len h.nms hn.2.1 h.nms.length (Nat.le_refl _)
  have h2 := vsA_len h.vers h.vers.length (Nat.le_refl _)
  have h3 : (heV h).length ≤ 33 := by
    unfold heV
    split
    · simp only [List.length_cons]; omega
    · rw [be_length]; omega
  have h4 := parB_le h.par (decide (h.kd = 2)) hn.2.2.2
  have h5 : (heM h).length ≤ 200 := by
    unfold heM
    simp only [List.length_append, List.length_cons]
    omega
  refine ⟨h5, ?_, hn.1, hn.2.2.1, hn.2.1⟩
  unfold heW
  rw [List.length_append]
  omega
end Go.Proofs.YtcljchbceeiheaaDoor

namespace Go.Proofs.YtcljchbceeiheaaDoor
open Go.RowKit
set_option linter.unusedVariables false
set_option linter.unusedSimpArgs false

/-- What is being put together, above W. -/
structure OutH (W wr : World) (vo : Value) (xs : List Int) : Prop where
  own : wr.ownsRow W.heap.size 5 1 vo xs.length (xs.map (Value.int .u8))
  bel : Below W.heap.size W wr
theorem OutH.went {W wr w' : World} {vo : Value} {xs : List Int} (h : OutH W wr vo xs) (b : Below wr.heap.size wr w') : OutH W w' vo xs := ⟨owns_below h.own b, h.bel.trans (b.mono h.bel.size)⟩
theorem OutH.app {W wr w' : World} {vo v' : Value} {xs ys : List Int} (h : OutH W wr vo xs) (o : w'.ownsRow W.heap.size 5 1 v' (xs.length + ys.length) ((xs ++ ys).map (Value.int .u8))) (g : wr.grownBy w' vo.ownBlock) : OutH W w' v' (xs ++ ys) :=
  ⟨by rw [List.length_append]; exact o, h.bel.grown g h.bel.size (fun t ht => (h.own.lt t ht).1)⟩
theorem OutH.gr {W wr w' : World} {vo v' : Value} {xs ys : List Int} (h : OutH W wr vo xs) (o : w'.ownsRow W.heap.size 5 1 v' ys.length (ys.map (Value.int .u8))) (g : GrW wr w' vo v') : OutH W w' v' ys :=
  ⟨o, h.bel.trans (g.below h.own h.bel.size)⟩
theorem OutH.form {W wr : World} {vo : Value} {xs : List Int} (h : OutH W wr vo xs) : ∃ ao cap, vo = .slice ao xs.length cap := (row_of_owns h.own).form
theorem own_grown {w w' : World} {base n : Nat} {v : Value} {xs : List Value} {g : Option Nat} (h : w.ownsRow base 5 1 v n xs) (hg : w.grownBy w' g) (ha : ∀ k, v.ownBlock = some k → some k ≠ g) : w'.ownsRow base 5 1 v n xs := by
  obtain ⟨hl, h2⟩ := h
  refine ⟨hl, ?_⟩
  rcases h2 with h2 | ⟨g', cap, cur, rfl, hb, hh, r⟩
  · exact Or.inl h2
  · exact Or.inr ⟨g', cap, cur, rfl, hb, (hg.block g' (Array.getElem?_eq_some_iff.1 hh).1 (fun e => ha g' rfl e)).trans hh, r⟩
/-- Behind the head's first append: the head, and what was put together. -/
structure HdH (W wr : World) (vh vo : Value) (hs zs : List Int) : Prop where
  hd : wr.ownsRow W.heap.size 5 1 vh hs.length (hs.map (Value.int .u8))
  out : wr.ownsRow W.heap.size 5 1 vo zs.length (zs.map (Value.int .u8))
  bel : Below W.heap.size W wr
theorem lit1O (w : World) (x : Int) (base : Nat) (hb : base ≤ w.heap.size) : (w.alloc (.cells #[.int .u8 x] 5)).ownsRow base 5 1 (.slice (some ⟨w.heap.size, 0, none⟩) 1 1) 1 (([x] : List Int).map (Value.int .u8)) := World.ownsRow_lit w #[.int .u8 x] 1 hb (by decide) rfl
/-- w is the world in which the literal stands already. -/
theorem HdH.mk1 {W w w' : World} {vo vh : Value} {zs hs : List Int} {p : Nat} (h : OutH W w vo zs) (hlt : ∀ k, vo.ownBlock = some k → k ≠ p) (hp : W.heap.size ≤ p) (o : w'.ownsRow W.heap.size 5 1 vh hs.length (hs.map (Value.int .u8))) (g : w.grownBy w' (Value.slice (some ⟨p, 0, none⟩) 1 1).ownBlock) : HdH W w' vh vo hs zs :=
  ⟨o, own_grown h.own g (fun k hk e => hlt k hk (Option.some.inj e)), h.bel.grown g h.bel.size (fun t ht => by have e : p = t := Option.some.inj ht; omega)⟩
theorem lit1B (w : World) (x : Int) : Row (w.alloc (.cells #[.int .u8 x] 5)) .u8 (.slice (some ⟨w.heap.size, 0, none⟩) 1 1) [x] := by
  refine Or.inr ⟨w.heap.size, 0, 1, rfl, by simp, ⟨Nat.le_refl _, by unfold maxLen; decide⟩, fun j hj => ?_⟩
  obtain rfl : j = 0 := by simpa using hj
  exact bk_cell (heap_alloc_new w _) 0
theorem infoHel18 : (Tryd.prog.info? 34).map (·.size) = some 18 := by kernel_rfl
set_option maxRecDepth 20000 in
set_option maxHeartbeats 4000000 in
theorem hbS_bad (v : Value) (h : HE) (w : World) (hr : HERow w v h) (hs : h.small 9223372036854775807) (no : ¬ heOK h) :
    Calls Tryd.prog 5 #[v] w fun e w' => ∃ r, e = .returned (.tuple #[r, .int .i64 1]) ∧ w'.ownsRow w.heap.size 5 1 r 0 [] ∧ Below w.heap.size w w' := by
  obtain ⟨a0, a1, a2, p0, p1, p2, v3, v4, v5, rfl, -, K⟩ := heK_new hr
  have BW : Below w.heap.size w (w.alloc (.cells (heL h (.slice a0 h.rnd.length p0) (.slice a1 h.vers.length p1) (.slice a2 h.nms.length p2) v3 v4 v5) 34)) := (Below.refl _ _).alloc (Nat.le_refl _) _
  have C := hokS _ h _ (hr.below BW) hs
  rw [decide_eq_false no] at C
  have HC : Hid _ := And.intro C (And.intro BW (heap_alloc_new w (.cells (heL h (.slice a0 h.rnd.length p0) (.slice a1 h.vers.length p1) (.slice a2 h.nms.length p2) v3 v4 v5) 34)))
  have HSZ : Hid ((Tryd.prog.info? 34).map (·.size) = some (heL h (.slice a0 h.rnd.length p0) (.slice a1 h.vers.length p1) (.slice a2 h.nms.length p2) v3 v4 v5).size) := infoHel18
  generalize heL h (.slice a0 h.rnd.length p0) (.slice a1 h.vers.length p1) (.slice a2 h.nms.length p2) v3 v4 v5 = CS at *
  clear C BW K hr hs no
  go_enter Tryd.func5, Tryd.ntmps5
  go_wp2_with (first | (refine wpList_load_row rfl 34 (.tmp 1) rfl w.heap.size rfl 34 CS (0, 0) _ HC.out.2.2 Tryd.underlying34 rfl HSZ.out ?_) | (go_at_call 17; refine HC.out.1.mono ?_; rintro e w1 ⟨rfl, b1⟩; have H1 : Hid _ := And.intro b1 True.intro; clear b1))
  go_ret2
  have B := HC.out.2.1.trans (H1.out.1.mono HC.out.2.1.size)
  exact ⟨_, rfl, World.ownsRow_lit w1 #[] 0 B.size (by decide) rfl, B.alloc B.size _⟩
set_option maxRecDepth 20000 in
set_option maxHeartbeats 8000000 in
theorem hbS_ok (v : Value) (h : HE) (w : World) (hr : HERow w v h) (hs : h.small 9223372036854775807) (ok : heOK h) :
    Calls Tryd.prog 5 #[v] w fun e w' => ∃ r, e = .returned (.tuple #[r, .int .i64 0]) ∧ w'.ownsRow w.heap.size 5 1 r (heB h).length ((heB h).map (Value.int .u8)) ∧ Below w.heap.size w w' := by
  obtain ⟨a0, a1, a2, p0, p1, p2, v3, v4, v5, rfl, -, K⟩ := heK_new hr
  obtain ⟨W, eW⟩ : ∃ W, W = w.alloc (.cells (heL h (.slice a0 h.rnd.length p0) (.slice a1 h.vers.length p1) (.slice a2 h.nms.length p2) v3 v4 v5) 34) := ⟨_, rfl⟩
  have BW : Below w.heap.size w W := by rw [eW]; exact (Below.refl _ _).alloc (Nat.le_refl _) _
  have C := hokS _ h _ (hr.below BW) hs
  rw [decide_eq_true ok, eW] at C
  have hlen := heOK_len h ok
  have hpk : pok h.par (decide (h.kd = 2)) = true := by
    rcases ok.2 with ⟨e, q⟩ | ⟨e, q⟩
    · rw [decide_eq_true e]; exact q.2.2.2
    · rw [decide_eq_false (by omega)]; exact q.2.2.2
  have hkd : h.kd = 1 ∨ h.kd = 2 := by rcases ok.2 with q | q; exact Or.inr q.1; exact Or.inl q.1
  rw [← eW] at K
  have CP := fun (w1 : World) (b : Below W.heap.size W w1) => copyA _ h.rnd w1 (K.below b).r0 (by have := ok.1; omega)
  have hvr : h.kd = 2 → 0 ≤ h.vr ∧ h.vr ≤ 4294967295 := fun e => by
    rcases ok.2 with ⟨_, q⟩ | ⟨e2, _⟩
    · exact ⟨by have := q.1.1; omega, q.1.2⟩
    · omega
  have hvs : h.kd = 1 → ∀ i, i < h.vers.length → 0 ≤ h.vers.getD i 0 ∧ h.vers.getD i 0 ≤ 4294967295 := fun e i hi => by
    rcases ok.2 with ⟨e2, _⟩ | ⟨_, q⟩
    · omega
    · have t := (q.2.1.2 i hi).1; exact ⟨by omega, t.2⟩
  have hl1 : h.kd = 1 → 1 ≤ h.vers.length := fun e => by
    rcases ok.2 with ⟨e2, _⟩ | ⟨_, q⟩
    · omega
    · exact q.2.1.1.1
  have PB := fun (w1 : World) (b : Below W.heap.size W w1) => pbS_ok (heP h v3 v4 v5) h.par (decide (h.kd = 2)) w1 (K.below b).r3 hs.2.2.2 hpk
  have HK : Hid _ := And.intro K (And.intro BW (And.intro C (And.intro CP (And.intro PB (And.intro hlen (And.intro hvr (And.intro hvs (And.intro hl1 eW))))))))
  obtain ⟨nv, env⟩ : ∃ n, n = h.vers.length := ⟨_, rfl⟩
  obtain ⟨nn, enn⟩ : ∃ n, n = h.nms.length := ⟨_, rfl⟩
  have hnv : nv ≤ 8 := by rw [env]; exact hlen.2.2.2.1
  have hnn : nn ≤ 4 := by rw [enn]; exact hlen.2.2.1
  have EN : Hid _ := And.intro env enn
  have hwv : IntKind.u8.wrap (nv : Int) = (nv : Int) := by rw [IntKind.wrap_u8]; omega
  have hwn : IntKind.u8.wrap (nn : Int) = (nn : Int) := by rw [IntKind.wrap_u8]; omega
  have hwk : IntKind.u8.wrap h.kd = h.kd := by rw [IntKind.wrap_u8]; omega
  have e2 : h.vers.length = nv := env.symm
  have e4 : h.nms.length = nn := enn.symm
  have CE : ∀ wx, Below W.heap.size W wx → wx.cell? ⟨w.heap.size, 0, none⟩ = some (.int .i64 h.kd) ∧ wx.cell? ⟨w.heap.size, 1, none⟩ = some (.int .i64 h.vr) ∧ wx.cell? ⟨w.heap.size, 2, none⟩ = some (.slice a0 h.rnd.length p0) ∧ wx.cell? ⟨w.heap.size, 3, none⟩ = some (.slice a1 nv p1) ∧ wx.cell? ⟨w.heap.size, 4, none⟩ = some (.slice a2 nn p2) := fun wx hx => by
    obtain ⟨k0, k1, k2, k3, k4, -⟩ := (HK.out.1.below hx).cells
    rw [e2] at k3
    rw [e4] at k4
    exact ⟨k0, k1, k2, k3, k4⟩
  have HE' : Hid _ := And.intro CE True.intro
  have HSZ : Hid ((Tryd.prog.info? 34).map (·.size) = some (heL h (.slice a0 h.rnd.length p0) (.slice a1 h.vers.length p1) (.slice a2 h.nms.length p2) v3 v4 v5).size) := infoHel18
  have HG : Hid (W.heap[w.heap.size]? = some (.cells (heL h (.slice a0 h.rnd.length p0) (.slice a1 h.vers.length p1) (.slice a2 h.nms.length p2) v3 v4 v5) 34 (0, 0))) := by rw [eW]; exact heap_alloc_new w _
  have PBW : ∀ wx, Below W.heap.size W wx → wx.heap[w.heap.size]? = some (.cells (heL h (.slice a0 h.rnd.length p0) (.slice a1 h.vers.length p1) (.slice a2 h.nms.length p2) v3 v4 v5) 34 (0, 0)) := fun wx hx => (hx.block _ (by rw [eW]; simp)).trans HG.out
  have HPB : Hid _ := And.intro PBW True.intro
  clear PBW
  clear K BW C CP PB hpk hlen hvr hvs hl1 hr hs ok env enn CE
  obtain ⟨CS, eCS⟩ : ∃ CS, CS = heL h (.slice a0 h.rnd.length p0) (.slice a1 h.vers.length p1) (.slice a2 h.nms.length p2) v3 v4 v5 := ⟨_, rfl⟩
  have ECS : Hid _ := And.intro eCS True.intro
  rw [← eCS] at eW HK HSZ HG HPB ⊢
  clear eCS e2 e4
  have HW : Hid _ := And.intro eW True.intro
  clear eW
  go_enter Tryd.func5, Tryd.ntmps5
  go_upto_if 18 with (first
    | (refine wpList_load_row rfl 34 (.tmp 1) rfl w.heap.size rfl 34 CS (0, 0) _ (heap_alloc_new w _) Tryd.underlying34 rfl HSZ.out ?_)
    | (go_at_call 17; refine HK.out.2.2.1.mono ?_; rintro e w1 ⟨rfl, b1⟩; have H1 : Hid (Below W.heap.size W w1) := (by rw [HW.out.1]; exact b1); obtain ⟨k0, k1, k2, k3, k4⟩ := HE'.out.1 w1 H1.out; clear b1)
    | (go_at_call 18; refine (HK.out.2.2.2.1 w1 H1.out).mono ?_; rintro e w2 ⟨r2, rfl, o2, b2⟩; have O2 : OutH W w2 r2 h.rnd := ⟨owns_mono o2 H1.out.size, H1.out.trans (b2.mono H1.out.size)⟩; obtain ⟨ao2, co2, ev2⟩ := O2.form; subst ev2; have H2 : Hid _ := And.intro O2 True.intro; clear k0 k1 k2 k3 k4; obtain ⟨k0, k1, k2, k3, k4⟩ := HE'.out.1 w2 O2.bel; clear o2 b2 O2))
  go_cut [4] from 5 to 45 (fun ov wx => OutH W wx ov (h.rnd ++ heV h))
  case first =>
    rcases hkd with hk | hk
    · have hkb : (h.kd == 1) = true := by rw [hk]; rfl
      have eV : heV h = (nv : Int) :: vsA h.vers nv := by unfold heV; rw [if_pos hk, EN.out.1]
      have hvs := HK.out.2.2.2.2.2.2.2.1 hk
      have HV : Hid _ := And.intro eV hvs
      clear eV hvs hk
      have AL : OutH W (w2.alloc (.cells #[.int .u8 (nv : Int)] 5)) (.slice ao2 h.rnd.length co2) h.rnd := H2.out.1.went ((Below.refl _ _).alloc (Nat.le_refl _) _)
      have HA : Hid _ := And.intro AL True.intro
      have hrl : h.rnd.length ≤ 200 := by have := HK.out.2.2.2.2.2.1.1; unfold heM at this; simp only [List.length_append, List.length_cons] at this; omega
      have hbs := AL.bel.size
      clear AL
      go_wp2_with (at_builtin; refine wpList_append_row rfl (.tmp 19) (.tmp 24) rfl W.heap.size (.slice ao2 h.rnd.length co2) h.rnd.length h.rnd rfl HA.out.1.own (.slice (some ⟨w2.heap.size, 0, none⟩) 1 1) [(nv : Int)] rfl (lit1B w2 _) (by simp; omega) hbs ?_; intro v3' w3 o3 g3; have H3 : Hid _ := HA.out.1.app o3 g3; clear o3 g3)
      go_loopg [4, 5] nv (fun q ov iv wx => ∃ k : Nat, k ≤ nv ∧ q = nv - k ∧ iv = .int .i64 (k : Int) ∧ OutH W wx ov (h.rnd ++ ((nv : Int) :: vsA h.vers k)))
      case atStart => exact ⟨0, by omega, by omega, rfl, H3.out⟩
      case round =>
        obtain ⟨k, hkn, hq, rfl, O⟩ := hrel
        rename World => wy
        clear k0 k1 k2 k3 k4
        obtain ⟨-, -, -, k3, -⟩ := HE'.out.1 wy O.bel
        obtain ⟨xs, exs⟩ : ∃ xs, xs = h.rnd ++ ((nv : Int) :: vsA h.vers k) := ⟨_, rfl⟩
        rw [← exs] at O
        obtain ⟨aoo, coo, evo⟩ := O.form
        subst evo
        have hol : xs.length = h.rnd.length + 1 + 4 * k := by
          rw [exs, List.length_append, List.length_cons, vsA_len h.vers k (by rw [← EN.out.1]; exact hkn)]; omega
        have HO : Hid _ := And.intro O (And.intro hol (And.intro hq exs))
        clear O hol hq exs
        by_cases hlt : k < nv
        · have rv := (HK.out.1.below HO.out.1.bel).r1
          rw [← EN.out.1] at rv
          obtain ⟨b, off, c', ea, hb', hc'⟩ := rv.at (by rw [← EN.out.1]; omega)
          rw [← EN.out.1] at ea hc'
          cases ea
          have cx := hc' k hlt
          have hx := HV.out.2 k (by rw [← EN.out.1]; exact hlt)
          obtain ⟨x, ex⟩ : ∃ x, x = h.vers.getD k 0 := ⟨_, rfl⟩
          rw [← ex] at cx hx
          have D1 := digits 4 x wy (by omega) (by omega) (by decide)
          have HX : Hid _ := And.intro ex (And.intro D1 True.intro)
          clear rv hc' ex D1
          go_wp2_with (first
            | (go_at_call 19; refine HX.out.2.1.mono ?_; rintro e w4 ⟨r4, rfl, o4, b4⟩; have H4 : Hid _ := And.intro (HO.out.1.went b4) (row_of_owns o4); clear o4 b4)
            | (at_builtin; refine wpList_append_row rfl (.tmp 33) (.tmp 39) rfl W.heap.size (.slice aoo xs.length coo) xs.length xs rfl H4.out.1.own r4 (be x 4) rfl H4.out.2 (by rw [HO.out.2.1, be_length]; omega) H4.out.1.bel.size ?_; intro v5' w5 o5 g5; have H5 : Hid _ := H4.out.1.app o5 g5; clear o5 g5))
          go_roundg (nv - (k + 1))
          case measure => (have := HO.out.2.2.1; omega)
          case rel =>
            refine ⟨k + 1, by omega, rfl, by go_num, ?_⟩
            have t := H5.out
            rw [HX.out.1, HO.out.2.2.2, List.append_assoc, List.cons_append, ← vsA_succ h.vers k (by rw [← EN.out.1]; exact hlt)] at t
            exact t
        · obtain rfl : k = nv := by omega
          go_wp2_with fail
          go_meet
          rw [HV.out.1, ← HO.out.2.2.2]
          exact HO.out.1
    · have hkb : (h.kd == 1) = false := by rw [hk]; rfl
      have eV : heV h = be h.vr 4 := by unfold heV; rw [if_neg (by omega)]
      have hvr := HK.out.2.2.2.2.2.2.1 hk
      have D1 := digits 4 h.vr w2 (by omega) (by omega) (by decide)
      have hrl : h.rnd.length ≤ 200 := by have := HK.out.2.2.2.2.2.1.1; unfold heM at this; simp only [List.length_append, List.length_cons] at this; omega
      have HV : Hid _ := And.intro eV D1
      clear eV hvr hk D1
      go_wp2_with (first
        | (go_at_call 19; refine HV.out.2.mono ?_; rintro e w4 ⟨r4, rfl, o4, b4⟩; have H4 : Hid _ := And.intro (H2.out.1.went b4) (row_of_owns o4); clear o4 b4)
        | (at_builtin; refine wpList_append_row rfl (.tmp 41) (.tmp 44) rfl W.heap.size (.slice ao2 h.rnd.length co2) h.rnd.length h.rnd rfl H4.out.1.own r4 (be h.vr 4) rfl H4.out.2 (by rw [be_length]; omega) H4.out.1.bel.size ?_; intro v5' w5 o5 g5; have H5 : Hid _ := H4.out.1.app o5 g5; clear o5 g5))
      go_meet
      rw [HV.out.1]
      exact H5.out
  case rest =>
  clear k0 k1 k2 k3 k4
  rename World => wc
  obtain ⟨ys, eys⟩ : ∃ ys, ys = h.rnd ++ heV h := ⟨_, rfl⟩
  rw [← eys] at hcut
  have hyl : ys.length ≤ 200 := by have := HK.out.2.2.2.2.2.1.1; unfold heM at this; rw [← eys] at this; simp only [List.length_append, List.length_cons] at this; omega
  obtain ⟨-, -, -, -, k4⟩ := HE'.out.1 wc hcut.bel
  obtain ⟨ao5, co5, ev5⟩ := hcut.form
  subst ev5
  have AL : OutH W (wc.alloc (.cells #[.int .u8 (nn : Int)] 5)) (.slice ao5 ys.length co5) ys := hcut.went ((Below.refl _ _).alloc (Nat.le_refl _) _)
  have HA : Hid _ := And.intro AL eys
  have hbs := AL.bel.size
  clear AL hcut eys
  go_wp2_with (at_builtin; refine wpList_append_row rfl (.tmp 46) (.tmp 51) rfl W.heap.size (.slice ao5 ys.length co5) ys.length ys rfl HA.out.1.own (.slice (some ⟨wc.heap.size, 0, none⟩) 1 1) [(nn : Int)] rfl (lit1B wc _) (by simp; omega) hbs ?_; intro v6' w6 o6 g6; have H6 : Hid _ := HA.out.1.app o6 g6; clear o6 g6)
  go_loopg [4, 6] nn (fun q ov iv wx => ∃ k : Nat, k ≤ nn ∧ q = nn - k ∧ iv = .int .i64 (k : Int) ∧ OutH W wx ov (ys ++ ((nn : Int) :: nmA h.nms k)))
  case atStart => exact ⟨0, by omega, by omega, rfl, H6.out⟩
  case round =>
    obtain ⟨k, hkn, hq, rfl, O⟩ := hrel
    rename World => wy
    clear k4
    obtain ⟨k0, -, -, -, k4⟩ := HE'.out.1 wy O.bel
    obtain ⟨xs, exs⟩ : ∃ xs, xs = ys ++ ((nn : Int) :: nmA h.nms k) := ⟨_, rfl⟩
    rw [← exs] at O
    obtain ⟨aoo, coo, evo⟩ := O.form
    subst evo
    have hol : xs.length ≤ 600 := by
      have := nmA_len h.nms HK.out.2.2.2.2.2.1.2.2.2.2 k (by rw [← EN.out.2]; exact hkn)
      rw [exs, List.length_append, List.length_cons]; omega
    have HO : Hid _ := And.intro O (And.intro hol (And.intro hq exs))
    clear O hol hq exs
    by_cases hlt : k < nn
    · have rv := (HK.out.1.below HO.out.1.bel).r2
      rw [← EN.out.2] at rv
      obtain ⟨aq, cq, eq', hc'⟩ := rv.cells
      rw [← EN.out.2] at eq' hc'
      cases eq'
      obtain ⟨b, off, ea, hb', cx⟩ := hc' k hlt
      subst ea
      have hx := HK.out.2.2.2.2.2.1.2.2.2.2 k (by rw [← EN.out.2]; exact hlt)
      obtain ⟨x, ex⟩ : ∃ x, x = h.nms.getD k ByteArray.empty := ⟨_, rfl⟩
      rw [← ex] at cx hx
      obtain ⟨C, W', cv, rw', bw', lw'⟩ := convSB wy x (by omega)
      have CN := cntC W.heap.size (.slice aoo xs.length coo) (.slice (some ⟨wy.heap.size, 0, none⟩) x.size C) xs (txB x) W' (HO.out.1.went bw').own rw' (fun _ k' ek' e2 => by
        have e3 : wy.heap.size = k' := by simpa [Value.ownBlock] using ek'
        have := (HO.out.1.own.lt k' e2).2
        omega) (HO.out.1.went bw').bel.size (by have := HO.out.2.1; omega) (by rw [txB_length]; omega)
      have HX : Hid _ := And.intro ex (And.intro CN (And.intro bw' True.intro))
      clear rv hc' ex CN rw' bw' hb'
      go_wp2_with (go_at_call 20; refine HX.out.2.1.mono ?_; rintro e w7 ⟨r7, rfl, o7, g7⟩; have H7 : Hid _ := (HO.out.1.went HX.out.2.2.1).gr o7 g7; clear o7 g7)
      go_roundg (nn - (k + 1))
      case measure => (have := HO.out.2.2.1; omega)
      case rel =>
        refine ⟨k + 1, by omega, rfl, by go_num, ?_⟩
        have t := H7.out
        rw [txB_length, HX.out.1, HO.out.2.2.2, List.append_assoc, List.cons_append, ← nmA_succ h.nms k (by rw [← EN.out.2]; exact hlt)] at t
        exact t
    · obtain rfl : k = nn := by omega
      obtain ⟨sv, esv⟩ : ∃ sv, sv = decide (h.kd = 2) := ⟨_, rfl⟩
      have hk2 : (h.kd == 2) = sv := by rw [esv]; rfl
      have P1 := HK.out.2.2.2.2.1 wy HO.out.1.bel
      rw [← esv] at P1
      have hM : xs = heM h := by rw [HO.out.2.2.2, HA.out.2]; unfold heM; rw [← EN.out.2]
      have hWl := HK.out.2.2.2.2.2.1.2.1
      obtain ⟨zs, ezs⟩ : ∃ zs, zs = xs ++ parB h.par sv := ⟨_, rfl⟩
      have hzW : zs = heW h := by rw [ezs, hM, esv]; rfl
      have hzl : zs.length ≤ 600 := by rw [hzW]; exact hWl
      have hpl : (parB h.par sv).length ≤ 600 := by have := hzl; rw [ezs, List.length_append] at this; omega
      obtain ⟨k0', -, -, -, -, k5, k6, k7, k8, k9, k10, k11, k12, k13, k14, k15, k16, k17⟩ := (HK.out.1.below HO.out.1.bel).cells
      have HP : Hid _ := And.intro P1 (And.intro ezs (And.intro hzW (And.intro hpl HO.out.2.1)))
      clear P1 hM hWl ezs hzW hpl esv
      go_upto_region 18 with (first
        | (go_at_call 21; refine HP.out.1.mono ?_; rintro e w7 ⟨r7, rfl, o7, b7⟩; have H7 : Hid _ := And.intro (HO.out.1.went b7) (row_of_owns o7); clear o7 b7)
        | (at_builtin; refine wpList_append_row rfl (.tmp 77) (.tmp 78) rfl W.heap.size (.slice aoo xs.length coo) xs.length xs rfl H7.out.1.own r7 (parB h.par sv) rfl H7.out.2 (by have h1 := HP.out.2.2.2.1; have h2 := HP.out.2.2.2.2; omega) H7.out.1.bel.size ?_; intro v8' w8 o8 g8; have O8 := H7.out.1.app o8 g8; rw [← HP.out.2.1] at O8; obtain ⟨ao8, co8, ev8⟩ := O8.form; subst ev8; have H8 : Hid _ := And.intro O8 True.intro; clear o8 g8 O8))
      have D1 : ∀ wx : World, Calls Tryd.prog 19 #[.int .i64 (zs.length : Int), .int .i64 2] wx fun e w' => ∃ r, e = .returned r ∧ w'.ownsRow wx.heap.size 5 1 r 2 ((be (zs.length : Int) 2).map (Value.int .u8)) ∧ Below wx.heap.size wx w' := fun wx => digits 2 (zs.length : Int) wx (by omega) (by omega) (by decide)
      have HD : Hid _ := And.intro D1 True.intro
      have hb8 := H8.out.1.bel.size
      have OD : Hid (OutH W w8.drew (.slice ao8 zs.length co8) zs) := H8.out.1.went (below_drewN (Below.refl _ _) 1)
      have OL : Hid (OutH W (w8.alloc (.cells #[.int .u8 h.kd] 5)).drew (.slice ao8 zs.length co8) zs ∧ (w8.alloc (.cells #[.int .u8 h.kd] 5)).drew.ownsRow W.heap.size 5 1 (.slice (some ⟨w8.heap.size, 0, none⟩) 1 1) 1 (([h.kd] : List Int).map (Value.int .u8))) :=
        ⟨(H8.out.1.went ((Below.refl _ _).alloc (Nat.le_refl _) _)).went (below_drewN (Below.refl _ _) 1), owns_below (lit1O w8 h.kd W.heap.size hb8) (below_drewN (Below.refl _ _) 1)⟩
      have q0 := (HE'.out.1 w8.drew OD.out.bel).1
      have q1 := (HE'.out.1 w8 H8.out.1.bel).1
      have vlt : ∀ t, (Value.slice ao8 zs.length co8).ownBlock = some t → t < w8.heap.size := fun t ht => (H8.out.1.own.lt t ht).2
      have HV : Hid _ := And.intro vlt True.intro
      clear D1 vlt k0 k4 k0' k5 k6 k7 k8 k9 k10 k11 k12 k13 k14 k15 k16 k17
      go_region_law (first
        | (go_simp; go_at_call 19; refine (HD.out.1 _).mono ?_; rintro e w9 ⟨r9, rfl, o9, b9⟩; have HA9 : Hid (OutH W w9 (.slice ao8 zs.length co8) zs ∧ Row w9 .u8 r9 (be (zs.length : Int) 2) ∧ w9.ownsRow W.heap.size 5 1 (.slice (some ⟨w8.heap.size, 0, none⟩) 1 1) 1 (([h.kd] : List Int).map (Value.int .u8))) := ⟨OL.out.1.went b9, row_of_owns o9, owns_below OL.out.2 b9⟩; have q2 := (HE'.out.1 w9 HA9.out.1.bel).1; clear o9 b9)
        | (go_simp; go_at_call 19; refine (HD.out.1 _).mono ?_; rintro e w9 ⟨r9, rfl, o9, b9⟩; have HB9 : Hid (OutH W w9 (.slice ao8 zs.length co8) zs ∧ Row w9 .u8 r9 (be (zs.length : Int) 2) ∧ w8.heap.size ≤ w9.heap.size) := ⟨OD.out.went b9, row_of_owns o9, b9.size⟩; have q2 := (HE'.out.1 w9 HB9.out.1.bel).1; clear o9 b9)
        | (refine step_append_row rfl (.tmp 83) (.tmp 86) rfl W.heap.size (.slice (some ⟨w8.heap.size, 0, none⟩) 1 1) 1 [h.kd] rfl HA9.out.2.2 r9 (be (zs.length : Int) 2) rfl HA9.out.2.1 (by rw [be_length]; omega) HA9.out.1.bel.size ?_; intro v10 w10 o10 g10; have HT : Hid (HdH W w10 v10 (.slice ao8 zs.length co8) ([h.kd] ++ be (zs.length : Int) 2) zs) := HdH.mk1 HA9.out.1 (fun t ht e => by have := HV.out.1 t ht; omega) hb8 (by rw [List.length_append, List.length_singleton]; exact o10) g10; clear o10 g10)
        | (refine step_append_row rfl (.tmp 83) (.tmp 86) rfl W.heap.size (.slice (some ⟨w9.heap.size, 0, none⟩) 1 1) 1 [h.kd] rfl (lit1O w9 h.kd W.heap.size HB9.out.1.bel.size) r9 (be (zs.length : Int) 2) rfl (HB9.out.2.1.below ((Below.refl _ _).alloc (Nat.le_refl _) _)) (by rw [be_length]; omega) (HB9.out.1.went ((Below.refl _ _).alloc (Nat.le_refl _) (.cells #[.int .u8 h.kd] 5))).bel.size ?_; intro v10 w10 o10 g10; have HT : Hid (HdH W w10 v10 (.slice ao8 zs.length co8) ([h.kd] ++ be (zs.length : Int) 2) zs) := HdH.mk1 (HB9.out.1.went ((Below.refl _ _).alloc (Nat.le_refl _) (.cells #[.int .u8 h.kd] 5))) (fun t ht e => by have h1 := HV.out.1 t ht; have h2 := HB9.out.2.2; omega) HB9.out.1.bel.size (by rw [List.length_append, List.length_singleton]; exact o10) g10; clear o10 g10)
        | (refine step_append_row rfl (.tmp 87) (.tmp 88) rfl W.heap.size v10 ([h.kd] ++ be (zs.length : Int) 2).length ([h.kd] ++ be (zs.length : Int) 2) rfl HT.out.hd (.slice ao8 zs.length co8) zs rfl (row_of_owns HT.out.out) (by rw [List.length_append, List.length_singleton, be_length]; omega) HT.out.bel.size ?_; intro v11 w11 o11 g11))
      all_goals
        have HF : Hid _ := And.intro o11 (HT.out.bel.grown g11 HT.out.bel.size (fun t ht => (HT.out.hd.lt t ht).1))
        clear o11 g11
        go_wp2_with fail
        go_ret2
        refine ⟨_, rfl, ?_, HK.out.2.1.trans (HF.out.2.mono HK.out.2.1.size)⟩
        have t := owns_mono HF.out.1 HK.out.2.1.size
        have e1 : heB h = ([h.kd] ++ be (zs.length : Int) 2) ++ zs := by unfold heB; rw [← HP.out.2.2.1]; simp
        rw [e1, List.length_append]
        exact t
end Go.Proofs.YtcljchbceeiheaaDoor
