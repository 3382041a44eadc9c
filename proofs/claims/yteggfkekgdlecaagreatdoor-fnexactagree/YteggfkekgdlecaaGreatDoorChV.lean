import Derived.Test.YteggfkekgdlecaaGreatDoorEqInts
import Derived.Test.YteggfkekgdlecaaGreatDoorToInts
import Derived.Maps.OwnSet
import Derived.BigQuiet
import Derived.Deep.LoopGhost
namespace Go.Proofs.YteggfkekgdlecaaGreatDoor
open Go.RowKit Go.Maps
set_option linter.unusedVariables false

/-- The first of xs that stands in ys; 0 if there is none. -/
def chF (xs ys : List Int) : Int := (xs.find? (fun x => ys.contains x)).getD 0
/-- What ChooseVersion answers. -/
def chV (xs ys : List Int) : Int := if 4096 < xs.length ∨ 4096 < ys.length then 0 else chF xs ys
theorem find_at {p : Int → Bool} : ∀ (xs : List Int) (k : Nat), k < xs.length → (∀ j, j < k → p (xs.getD j 0) = false) → p (xs.getD k 0) = true → xs.find? p = some (xs.getD k 0)
  | [], k, h, _, _ => by simp at h
  | x :: xs, 0, h, _, h2 => by simp at h2; simp [h2]
  | x :: xs, k + 1, h, h1, h2 => by
    have h0 := h1 0 (by omega)
    simp at h0
    rw [List.find?_cons_of_neg (by simp [h0])]
    have := find_at xs k (by simpa using h) (fun j hj => by have := h1 (j + 1) (by omega); simpa using this) (by simpa using h2)
    simpa using this
theorem find_no {p : Int → Bool} (xs : List Int) (h : ∀ j, j < xs.length → p (xs.getD j 0) = false) : xs.find? p = none := by
  rw [List.find?_eq_none]
  intro x hx
  obtain ⟨i, hi, rfl⟩ := List.getElem_of_mem hx
  have := h i hi
  simp [List.getD, hi] at this
  simp [this]
theorem contains_no (ys : List Int) (x : Int) (h : ∀ j, j < ys.length → x ≠ ys.getD j 0) : ys.contains x = false := by
  rw [Bool.eq_false_iff]
  intro hc
  rw [List.contains_iff_mem] at hc
  obtain ⟨i, hi, e⟩ := List.getElem_of_mem hc
  apply h i hi
  simp [List.getD, hi, e]
theorem contains_yes (ys : List Int) (j : Nat) (h : j < ys.length) : ys.contains (ys.getD j 0) = true := by
  rw [List.contains_iff_mem]
  simp [List.getD, h]

theorem spec_ch_long (ao bo : Option Addr) (n m ca cb : Nat) (w : World) (hn : n ≤ 9223372036854775807) (hm : m ≤ 9223372036854775807) (h : 4096 < n ∨ 4096 < m) :
    Calls Tryz.prog 21 #[.slice ao n ca, .slice bo m cb] w fun e w' => e = .returned (.int .i64 0) ∧ Below w.heap.size w w' := by
  by_cases h1 : 4096 < n
  · clear h
    go_enter Tryz.func21, Tryz.ntmps21
    go_wp2
    go_ret
    exact ⟨rfl, Below.refl _ _⟩
  · have h2 : 4096 < m := by omega
    clear h
    go_enter Tryz.func21, Tryz.ntmps21
    go_wp2
    go_ret
    exact ⟨rfl, Below.refl _ _⟩
/-- Where the cells of a row lie, also of an empty one. -/
theorem Row.cells {w : World} {k : IntKind} {v : Value} {xs : List Int} (h : Row w k v xs) : ∃ ao cap, v = .slice ao xs.length cap ∧ ∀ j, j < xs.length → ∃ b off, ao = some ⟨b, off, none⟩ ∧ b < w.heap.size ∧ w.cell? ⟨b, off + j, none⟩ = some (.int k (xs.getD j 0)) := by
  rcases h with ⟨rfl, ao, cap, rfl⟩ | ⟨b, off, cap, rfl, hb, _, hc⟩
  · exact ⟨ao, cap, rfl, fun j hj => by simp at hj⟩
  · exact ⟨_, cap, rfl, fun j hj => ⟨b, off, rfl, hb, hc j hj⟩⟩

set_option maxRecDepth 20000 in
set_option maxHeartbeats 2000000 in
theorem spec_chQ (va vb : Value) (xs ys : List Int) (w : World) (ha : Row w .i64 va xs) (hb : Row w .i64 vb ys) (hx : xs.length ≤ 4096) (hy : ys.length ≤ 4096) :
    Calls Tryz.prog 21 #[va, vb] w fun e w' => e = .returned (.int .i64 (chF xs ys)) ∧ ∃ z, w' = w.drewN z := by
  obtain ⟨ao, ca, rfl, hca⟩ := ha.cells
  obtain ⟨bo, cb, rfl, hcb⟩ := hb.cells
  obtain ⟨R, eR⟩ : ∃ R, R = chF xs ys := ⟨_, rfl⟩
  rw [← eR]
  obtain ⟨n, en⟩ : ∃ n, n = xs.length := ⟨_, rfl⟩
  obtain ⟨m, em⟩ : ∃ m, m = ys.length := ⟨_, rfl⟩
  rw [← en] at hx hca ⊢
  rw [← em] at hy hcb ⊢
  have H0 : Hid _ := And.intro eR (And.intro en (And.intro em (And.intro hca hcb)))
  clear eR en em hca hcb ha hb
  go_enter Tryz.func21, Tryz.ntmps21
  go_wp2
  go_loopg [5] n (fun q i wr => ∃ k : Nat, k ≤ n ∧ q = n - k ∧ i = .int .i64 (k : Int) ∧ (∃ z, wr = w.drewN z) ∧ ∀ j, j < k → ys.contains (xs.getD j 0) = false)
  case atStart => exact ⟨0, Nat.zero_le _, rfl, rfl, ⟨0, rfl⟩, fun j h => by omega⟩
  case round =>
    obtain ⟨k, hk, rfl, rfl, ⟨z, rfl⟩, hno⟩ := hrel
    have HN : Hid _ := And.intro hno True.intro
    clear hno
    by_cases hlt : k < n
    · obtain ⟨b, off, rfl, hbl, c1⟩ := H0.out.2.2.2.1 k hlt
      obtain ⟨x, ex⟩ : ∃ x, x = xs.getD k 0 := ⟨_, rfl⟩
      rw [← ex] at c1
      have EX : Hid _ := And.intro ex True.intro
      clear ex
      go_wp2
      go_loopg [6] m (fun q i wr => ∃ t : Nat, t ≤ m ∧ q = m - t ∧ i = .int .i64 (t : Int) ∧ (∃ z, wr = w.drewN z) ∧ ∀ j, j < t → x ≠ ys.getD j 0)
      case atStart => exact ⟨0, Nat.zero_le _, rfl, rfl, ⟨_, rfl⟩, fun j h => by omega⟩
      case round =>
        obtain ⟨t, ht, rfl, rfl, ⟨z2, rfl⟩, hne⟩ := hrel
        have HE : Hid _ := And.intro hne True.intro
        clear hne
        have c3 : (w.drewN z2).cell? ⟨b, off + k, none⟩ = some (.int .i64 x) := c1
        by_cases hlt2 : t < m
        · obtain ⟨b2, off2, rfl, hbl2, c2⟩ := H0.out.2.2.2.2 t hlt2
          obtain ⟨y, ey⟩ : ∃ y, y = ys.getD t 0 := ⟨_, rfl⟩
          rw [← ey] at c2
          have EY : Hid _ := And.intro ey True.intro
          clear ey
          have c4 : (w.drewN z2).cell? ⟨b2, off2 + t, none⟩ = some (.int .i64 y) := c2
          by_cases hxy : x = y
          · have HXY : Hid _ := And.intro hxy True.intro
            have ht2 : (x == y) = true := by simp [hxy]
            clear hxy
            go_wp2
            go_quiet (fail)
            have c5 : ∀ q, ((w.drewN z2).drewN q).cell? ⟨b, off + k, none⟩ = some (.int .i64 x) := fun q => c1
            go_wp2
            go_ret
            refine ⟨?_, ?_⟩
            · rw [H0.out.1]
              unfold chF
              rw [find_at xs k (by rw [← H0.out.2.1]; exact hlt) HN.out.1 (by rw [← EX.out.1, HXY.out.1, EY.out.1]; exact contains_yes ys t (by rw [← H0.out.2.2.1]; exact hlt2))]
              rw [← EX.out.1]
              rfl
            · exact ⟨_, rfl⟩
          · have HXY : Hid _ := And.intro hxy True.intro
            have ht2 : (x == y) = false := by simp [hxy]
            clear hxy
            go_wp2
            go_quiet (fail)
            go_wp2
            go_roundg (m - (t + 1))
            case measure => omega
            case rel =>
              refine ⟨t + 1, by omega, rfl, by go_num, ⟨_, rfl⟩, fun j hj => ?_⟩
              by_cases hjt : j < t
              · exact HE.out.1 j hjt
              · obtain rfl : j = t := by omega
                rw [← EY.out.1]
                exact HXY.out.1
        · go_wp2
          go_roundg (n - (k + 1))
          case measure => omega
          case rel =>
            refine ⟨k + 1, by omega, rfl, by go_num, ⟨_, rfl⟩, fun j hj => ?_⟩
            by_cases hjt : j < k
            · exact HN.out.1 j hjt
            · obtain rfl : j = k := by omega
              rw [← EX.out.1]
              exact contains_no ys x (fun j hj => HE.out.1 j (by rw [← H0.out.2.2.1] at hj; omega))
    · go_wp2
      go_ret
      refine ⟨?_, _, rfl⟩
      rw [H0.out.1]
      unfold chF
      rw [find_no xs (fun j hj => HN.out.1 j (by rw [← H0.out.2.1] at hj; omega))]
      rfl
theorem spec_ch (va vb : Value) (xs ys : List Int) (w : World) (ha : Row w .i64 va xs) (hb : Row w .i64 vb ys) (hx : xs.length ≤ 4096) (hy : ys.length ≤ 4096) :
    Calls Tryz.prog 21 #[va, vb] w fun e w' => e = .returned (.int .i64 (chF xs ys)) ∧ Below w.heap.size w w' :=
  (spec_chQ va vb xs ys w ha hb hx hy).mono fun e w' h => ⟨h.1, by obtain ⟨_, z, hz⟩ := h; rw [hz]; exact below_drewN (Below.refl _ _) z⟩

/-- The numbers of ys up to k as the map of a set. -/
def Sd (ys : List Int) (k : Nat) : DataW Unit := setOf (.agg []) ((ys.take k).map (Lit.int .i64))
theorem Sd_zero (ys : List Int) : Sd ys 0 = .map [] := by simp [Sd, setOf]
theorem Sd_succ (ys : List Int) (k : Nat) (h : k < ys.length) : Sd ys (k + 1) = (Sd ys k).put (.int .i64 (ys.getD k 0)) (.agg []) := by
  unfold Sd
  rw [List.take_add_one, List.map_append, ← setOf_snoc]
  simp [List.getD, List.getElem?_eq_getElem h]
theorem any_int (x : Int) : ∀ l : List Int, l.any ((fun y : Lit => y.sameKey (.int .i64 x)) ∘ Lit.int .i64) = l.contains x
  | [] => rfl
  | a :: r => by
    rw [List.any_cons, List.contains_cons, any_int x r]
    congr 1
    show decide (IntKind.i64 = IntKind.i64 ∧ a = x) = (x == a)
    by_cases e : a = x
    · subst e
      simp
    · have e' : ¬ x = a := fun h => e h.symm
      simp [e, e']
theorem has_Sd (ys : List Int) (k : Nat) (x : Int) : Maps.has (Sd ys k) (.int .i64 x) = (ys.take k).contains x := by
  unfold Sd
  rw [has_setOf _ _ _ (fun y hy => by obtain ⟨_, _, rfl⟩ := List.mem_map.1 hy; trivial), List.any_map]
  exact any_int x _
theorem lawI : Keyed Tryz.prog 3 := int_keyed Tryz.underlying3
theorem zeroU (w : World) : (zeroValue 132).run Tryz.prog w = .ok (.agg #[]) w := by kernel_rfl
theorem makeMapI (n : Int) (w : World) : (Instr.makeMap 121 (some (.int .i64 n))).run Tryz.prog w = .ok (.map (some w.heap.size)) (w.alloc (.map #[] 0)) := by
  simp [Instr.makeMap, run_underlying Tryz.underlying121, asInt, asIntOf, Result.andThen]
theorem wf_at {zs : List Int} (hwz : ∀ n ∈ zs, (Lit.int .i64 n).wf = true) (k : Nat) : (Lit.int .i64 (zs.getD k 0)).wf = true := by
  by_cases hk : k < zs.length
  · rw [List.getD, List.getElem?_eq_getElem hk]
    exact hwz _ (List.getElem_mem hk)
  · rw [List.getD, List.getElem?_eq_none (by omega)]
    decide

set_option maxRecDepth 100000 in
set_option maxHeartbeats 1000000 in
theorem setOfC (v : Value) (ys : List Int) (w : World) (hr : Row w .i64 v ys) (hy : ys.length ≤ 4096) (hw : ∀ n ∈ ys, (Lit.int .i64 n).wf = true) :
    Calls Tryz.prog 90 #[v] w fun e w' => e = .returned (.map (some w.heap.size)) ∧ w'.ownsMap Tryz.prog 3 unitElem w.heap.size ys.length (Sd ys ys.length) ∧ Below w.heap.size w w' := by
  have hmm := makeMapI
  obtain ⟨ao, ca, rfl, hca⟩ := hr.cells
  obtain ⟨n, en⟩ : ∃ n, n = ys.length := ⟨_, rfl⟩
  rw [← en] at hy hca ⊢
  have H0 : Hid _ := And.intro en (And.intro hca hw)
  clear en hca hw hr
  go_enter Tryz.func90, Tryz.ntmps90
  go_wp2
  go_loopg [11] n (fun q i wr => ∃ k : Nat, k ≤ n ∧ q = n - k ∧ i = .int .i64 (k : Int) ∧ wr.ownsMap Tryz.prog 3 unitElem w.heap.size k (Sd ys k) ∧ Below w.heap.size w wr)
  case atStart => exact ⟨0, Nat.zero_le _, rfl, rfl, by rw [Sd_zero]; exact World.ownsMap_made _ _ _ _, (Below.refl _ _).alloc (Nat.le_refl _) _⟩
  case round =>
    obtain ⟨k, hk, rfl, rfl, hown, hbx⟩ := hrel
    by_cases hlt : k < n
    · obtain ⟨b, off, rfl, hbl, c1⟩ := H0.out.2.1 k hlt
      have c2 := (hbx.cell (p := ⟨b, off + k, none⟩) hbl).trans c1
      have hkey : keyOf Tryz.prog 3 (.int .i64 (ys.getD k 0)) = some (.int .i64 (ys.getD k 0)) := keyOf_int_mk Tryz.underlying3 (wf_at H0.out.2.2 k)
      obtain ⟨y, ey⟩ : ∃ y, y = ys.getD k 0 := ⟨_, rfl⟩
      rw [← ey] at c2 hkey
      have EY : Hid _ := And.intro ey True.intro
      clear ey c1
      go_wp2_with (first
        | (at_mapUpdate; refine wpList_mapUpdate_own _ rfl _ _ _ 121 rfl 3 132 lawI Tryz.underlying121 (unitElem (H := Unit)) w.heap.size k _ rfl hown (by unfold maxLen; omega) _ _ _ rfl rfl hkey _ [] unitElem_mk ?_; intro w1 hown1 hgrow1)
        | go_in)
      go_roundg (n - (k + 1))
      case measure => omega
      case rel =>
        refine ⟨k + 1, by omega, rfl, by go_num, ?_, hbx.grown hgrow1 hbx.size (fun j hj => by cases hj; exact Nat.le_refl _)⟩
        rw [Sd_succ ys k (by rw [← H0.out.1]; exact hlt), ← EY.out.1]
        exact hown1
    · obtain rfl : k = n := by omega
      go_wp2
      go_ret
      exact ⟨rfl, hown, hbx⟩

theorem ownsMap_below {w w' : World} {b n : Nat} {D : DataW Unit} (h : w.ownsMap Tryz.prog 3 unitElem b n D) (hb : Below w.heap.size w w') : w'.ownsMap Tryz.prog 3 unitElem b n D := by
  obtain ⟨es, clock, h1, h2⟩ := h
  exact ⟨es, clock, (hb.block b (Array.getElem?_eq_some_iff.1 h1).1).trans h1, h2⟩
end Go.Proofs.YteggfkekgdlecaaGreatDoor
