import Derived.Test.YtbbiinbjgognjaaDoorRdI
import Derived.Test.YtbbiinbjgognjaaDoorGetVarI
import Derived.Deep.RegionWith
namespace Go.Proofs.YtbbiinbjgognjaaDoor
open Go.RowKit
set_option linter.unusedVariables false

/-- The bytes from p on, k of them. -/
def sub (xs : List Int) (p k : Nat) : List Int := (xs.drop p).take k
theorem sub_len (xs : List Int) (p k : Nat) (h : p + k ≤ xs.length) : (sub xs p k).length = k := sub_length xs p k h
theorem sub_bytes {xs : List Int} (h : Bytes xs) (p k : Nat) : Bytes (sub xs p k) := (h.drop p).take k
theorem numK_lt (xs : List Int) (hb : Bytes xs) (p k : Nat) (hk : k ≤ 4) : 0 ≤ vals (sub xs p k) ∧ vals (sub xs p k) < 4294967296 := by
  refine ⟨vals_nonneg _ (sub_bytes hb p k), ?_⟩
  have h := vals_lt (sub xs p k) (sub_bytes hb p k)
  have hl : (sub xs p k).length ≤ 4 := by unfold sub; rw [List.length_take]; omega
  generalize (sub xs p k).length = m at *
  have : m = 0 ∨ m = 1 ∨ m = 2 ∨ m = 3 ∨ m = 4 := by omega
  rcases this with rfl | rfl | rfl | rfl | rfl <;> simp at h <;> omega
theorem number_no (g : Nat) (ao : Option Addr) (n cap : Nat) (p k : Int) (w : World) (h : rdB w g (.slice ao n cap) p) (hp : 0 ≤ p ∧ p ≤ n) (hn : n ≤ 9223372036854775807) (hk : (n : Int) - p < k) :
    Calls Tryd.prog 45 #[.pointer (some ⟨g, 0, none⟩), .int .i64 k] w fun e w' => e = .panicked [leftP 2] ∧ Chg (· = g) w w' := by
  have ht := take_no g ao n cap p k w h hp hn hk
  go_enter Tryd.func45, Tryd.ntmps45
  go_wp2_with fail
  go_at_call 57
  refine ht.mono ?_
  rintro e w' ⟨rfl, rfl⟩
  go_wp2
  exact ⟨rfl, rfl, ⟨rfl, rfl, rfl, Nat.le_refl _, fun _ _ _ => rfl⟩⟩
set_option maxRecDepth 20000 in
theorem number_ok (g b off n cap p k : Nat) (xs : List Int) (w : World) (h : rdB w g (.slice (some ⟨b, off, none⟩) n cap) p) (hl : Lies w b off n cap xs) (hB : Bytes xs) (hgb : b ≠ g) (hn : n ≤ 65536) (hk : p + k ≤ n) (hk1 : 1 ≤ k) (hk4 : k ≤ 4) :
    Calls Tryd.prog 45 #[.pointer (some ⟨g, 0, none⟩), .int .i64 k] w fun e w' => e = .returned (.int .i64 (vals (sub xs p k))) ∧
      rdB w' g (.slice (some ⟨b, off, none⟩) n cap) ((p + k : Nat) : Int) ∧ Chg (· = g) w w' := by
  have ht := take_ok g b off n cap p k xs w h hl hgb hn hk
  have hv := numK_lt xs hB p k hk4
  have hlen : (sub xs p k).length = k := sub_len xs p k (by rw [hl.len]; exact hk)
  have hby := sub_bytes hB p k
  have HH : Hid _ := And.intro hlen (And.intro hby (And.intro hk1 hk4))
  change Calls _ _ _ _ fun e w' => ∃ v, e = .returned v ∧ w'.ownsRow w.heap.size 5 1 v k ((sub xs p k).map (Value.int .u8)) ∧ _ at ht
  generalize sub xs p k = ys at *
  have hw : IntKind.i64.wrap (vals ys) = vals ys := by rw [IntKind.wrap_i64]; omega
  clear hlen hby hv hk1 hk4 hl hB hk
  go_enter Tryd.func45, Tryd.ntmps45
  go_wp2_with fail
  go_at_call 57
  refine ht.mono ?_
  rintro e w1 ⟨v, rfl, o1, r1, c1⟩
  obtain ⟨q, cp, ev, hq, hq2⟩ := owns_shape o1 HH.out.2.2.1
  subst ev
  have hc := read_core k ys q 0 cp w1 (by have := HH.out.2.2.2; omega) HH.out.1 HH.out.2.1 (fun j hj => by have := owns_cell o1 HH.out.1 hj; rwa [Nat.zero_add])
  have HF : Hid _ := And.intro r1 c1
  clear r1 c1 o1 hq hq2
  go_wp2_with fail
  go_at_call 56
  refine hc.mono ?_
  rintro e w2 ⟨rfl, rfl⟩
  go_wp2
  go_ret
  exact ⟨rfl, HF.out.1, HF.out.2⟩
/-- Whether a number in the variable form stands at p; the number; the place behind it. -/
abbrev varOK (xs : List Int) (p : Nat) : Prop := p < xs.length ∧ p + gvn (xs.getD p 0) ≤ xs.length
def varV (xs : List Int) (p : Nat) : Int := vals (sub xs p (gvn (xs.getD p 0))) % gvm (xs.getD p 0)
def varN (xs : List Int) (p : Nat) : Nat := p + gvn (xs.getD p 0)
theorem gv_yes (xs : List Int) (p : Nat) (h : xs.length ≤ 65536) (hv : varOK xs p) : gv xs (p : Int) = (varV xs p, ((varN xs p : Nat) : Int), 0) := by
  rw [gv_ok xs p h hv.1 hv.2]
  simp [varV, varN, sub]
theorem gv_not (xs : List Int) (p : Nat) (h : xs.length ≤ 65536) (hp : p ≤ xs.length) (hv : ¬ varOK xs p) : gv xs (p : Int) = (0, 0, 2) := by
  by_cases e : p = xs.length
  · unfold gv
    rw [if_neg (by omega), if_neg (by omega), if_pos (by omega)]
  · exact gv_short xs p h (by omega) (by unfold varOK at hv; omega)
theorem varV_bd (xs : List Int) (p : Nat) : 0 ≤ varV xs p ∧ varV xs p < 4611686018427387904 := by
  unfold varV gvm
  split
  · omega
  · split
    · omega
    · split <;> omega
theorem varN_bd (xs : List Int) (p : Nat) (h : varOK xs p) : p < varN xs p ∧ varN xs p ≤ xs.length := by
  have := gvn_bd (xs.getD p 0)
  exact ⟨by unfold varN; omega, h.2⟩
set_option maxRecDepth 20000 in
set_option maxHeartbeats 1000000 in
theorem variable_ok (g b off n cap p : Nat) (xs : List Int) (w : World) (ht : Tab w) (h : rdB w g (.slice (some ⟨b, off, none⟩) n cap) p) (hl : Lies w b off n cap xs) (hB : Bytes xs) (hn : n ≤ 65536) (hv : varOK xs p) :
    Calls Tryd.prog 63 #[.pointer (some ⟨g, 0, none⟩)] w fun e w' => e = .returned (.int .i64 (varV xs p)) ∧
      rdB w' g (.slice (some ⟨b, off, none⟩) n cap) ((varN xs p : Nat) : Int) ∧ Chg (· = g) w w' := by
  have hr : Row w.drew .u8 (.slice (some ⟨b, off, none⟩) n cap) xs := by
    have := (hl.row 0 n (by omega)).drewN 1
    rwa [Nat.add_zero, Nat.sub_zero, List.drop_zero, List.take_of_length_le (by rw [hl.len]; exact Nat.le_refl _)] at this
  have hg := implGetVar _ xs p w.drew (ht.below (B := w.heap.size) ⟨rfl, rfl, rfl, Nat.le_refl _, fun _ _ => rfl⟩ ht.lt) hr hB (by rw [hl.len]; omega)
  rw [gv_yes xs p (by rw [hl.len]; exact hn) hv] at hg
  dsimp only at hg
  have c0 : w.drew.cell? ⟨g, 0, none⟩ = _ := h.c0
  have c1 : w.drew.cell? ⟨g, 1, none⟩ = _ := h.c1
  have f1 : w.drew.frozen? ⟨g, 1, none⟩ = false := h.fr 1
  have HH : Hid _ := And.intro h True.intro
  generalize varV xs p = V at *
  generalize varN xs p = N at *
  clear h hr hl hv
  go_enter Tryd.func63, Tryd.ntmps63
  go_wp2_with fail
  go_region_with (go_at_call 76; refine hg.mono ?_; rintro e w2 ⟨rfl, hw2⟩; rw [hw2]; clear hw2 w2)
  all_goals (go_wp2_with fail; go_at_call 43; refine (leaveIf_f _ 0 _).mono ?_; rintro e w3 ⟨rfl, hw3⟩; rw [hw3]; clear hw3 w3; go_wp2_with fail; go_ret)
  all_goals (exact ⟨rfl, HH.out.1.set _, ⟨rfl, rfl, rfl, by simp [World.setCell], fun q hq hs => bk_other (w := w) hs 1 _⟩⟩)
set_option maxRecDepth 20000 in
set_option maxHeartbeats 1000000 in
theorem variable_no (g b off n cap p : Nat) (xs : List Int) (w : World) (ht : Tab w) (h : rdB w g (.slice (some ⟨b, off, none⟩) n cap) p) (hl : Lies w b off n cap xs) (hB : Bytes xs) (hn : n ≤ 65536) (hp : p ≤ n) (hv : ¬ varOK xs p) :
    Calls Tryd.prog 63 #[.pointer (some ⟨g, 0, none⟩)] w fun e w' => e = .panicked [leftP 2] ∧ Chg (· = g) w w' := by
  have hr : Row w.drew .u8 (.slice (some ⟨b, off, none⟩) n cap) xs := by
    have := (hl.row 0 n (by omega)).drewN 1
    rwa [Nat.add_zero, Nat.sub_zero, List.drop_zero, List.take_of_length_le (by rw [hl.len]; exact Nat.le_refl _)] at this
  have hg := implGetVar _ xs p w.drew (ht.below (B := w.heap.size) ⟨rfl, rfl, rfl, Nat.le_refl _, fun _ _ => rfl⟩ ht.lt) hr hB (by rw [hl.len]; omega)
  rw [gv_not xs p (by rw [hl.len]; exact hn) (by rw [hl.len]; exact hp) hv] at hg
  dsimp only at hg
  have c0 : w.drew.cell? ⟨g, 0, none⟩ = _ := h.c0
  have c1 : w.drew.cell? ⟨g, 1, none⟩ = _ := h.c1
  clear h hr hl hv
  go_enter Tryd.func63, Tryd.ntmps63
  go_wp2_with fail
  go_region_with (go_at_call 76; refine hg.mono ?_; rintro e w2 ⟨rfl, hw2⟩; rw [hw2]; clear hw2 w2)
  all_goals (go_wp2_with fail; go_at_call 43; refine (leaveIf_t _ 2 _).mono ?_; rintro e w3 ⟨rfl, hw3⟩; rw [hw3]; clear hw3 w3; go_wp2_with fail)
  all_goals (exact ⟨rfl, rfl, ⟨rfl, rfl, rfl, Nat.le_refl _, fun _ _ _ => rfl⟩⟩)
/-- A reading of an id at p: the code, or the id and the place behind it. -/
def pkCid (xs : List Int) (p : Nat) : Except Int (List Int × Nat) :=
  if xs.length < p + 1 then .error 2
  else if 8 < vals (sub xs p 1) then .error 3
  else if xs.length < p + 1 + (vals (sub xs p 1)).toNat then .error 2
  else .ok (sub xs (p + 1) (vals (sub xs p 1)).toNat, p + 1 + (vals (sub xs p 1)).toNat)
set_option maxRecDepth 20000 in
set_option maxHeartbeats 1000000 in
theorem cidC (g b off n cap p : Nat) (xs : List Int) (w : World) (h : rdB w g (.slice (some ⟨b, off, none⟩) n cap) p) (hl : Lies w b off n cap xs) (hB : Bytes xs) (hgb : b ≠ g) (hn : n ≤ 65536) (hp : p ≤ n) :
    Calls Tryd.prog 59 #[.pointer (some ⟨g, 0, none⟩)] w fun e w' => Chg (· = g) w w' ∧ ((∃ c, pkCid xs p = .error c ∧ e = .panicked [leftP c]) ∨
      ∃ d q v, pkCid xs p = .ok (d, q) ∧ e = .returned v ∧ w'.ownsRow w.heap.size 5 1 v d.length (d.map (Value.int .u8)) ∧ rdB w' g (.slice (some ⟨b, off, none⟩) n cap) (q : Int) ∧ p < q ∧ q ≤ n ∧ d.length ≤ 8) := by
  have hlen := hl.len
  by_cases h1 : n < p + 1
  · have hc := number_no g (some ⟨b, off, none⟩) n cap p 1 w h ⟨by omega, by omega⟩ (by omega) (by omega)
    have e : pkCid xs p = .error 2 := by unfold pkCid; rw [if_pos (by omega)]
    have HE : Hid _ := And.intro e True.intro
    clear h hl hB e hlen
    go_enter Tryd.func59, Tryd.ntmps59
    go_wp2_with fail
    go_at_call 45
    refine hc.mono ?_
    rintro e w1 ⟨rfl, c1⟩
    go_wp2_with fail
    exact ⟨rfl, c1, Or.inl ⟨2, HE.out.1, rfl⟩⟩
  have hc := number_ok g b off n cap p 1 xs w h hl hB hgb hn (by omega) (by decide) (by decide)
  have hv := numK_lt xs hB p 1 (by decide)
  by_cases h2 : 8 < vals (sub xs p 1)
  · have e : pkCid xs p = .error 3 := by unfold pkCid; rw [if_neg (by omega), if_pos h2]
    have HE : Hid _ := And.intro e True.intro
    replace h2 : decide (8 < vals (sub xs p 1)) = true := decide_eq_true h2
    generalize vals (sub xs p 1) = V at *
    clear h hl hB e hlen
    go_enter Tryd.func59, Tryd.ntmps59
    go_wp2_with fail
    go_at_call 45
    refine hc.mono ?_
    rintro e w1 ⟨rfl, r1, c1⟩
    go_wp2_with fail
    go_at_call 43
    refine (leaveIf_t _ 3 _).mono ?_
    rintro e w2 ⟨rfl, rfl⟩
    go_wp2_with fail
    exact ⟨rfl, c1, Or.inl ⟨3, HE.out.1, rfl⟩⟩
  obtain ⟨V, hV⟩ : ∃ V : Nat, vals (sub xs p 1) = (V : Int) := ⟨(vals (sub xs p 1)).toNat, by omega⟩
  rw [hV] at hc h2
  have h2' : V ≤ 8 := by omega
  replace h2 : decide ((8 : Int) < (V : Int)) = false := decide_eq_false (by omega)
  by_cases h3 : n < p + 1 + V
  · have e : pkCid xs p = .error 2 := by unfold pkCid; rw [hV, if_neg (by omega), if_neg (by omega), Int.toNat_natCast, if_pos (by omega)]
    have HE : Hid _ := And.intro e (And.intro h3 (And.intro hn h1))
    clear h hl hB e hlen hV hv
    go_enter Tryd.func59, Tryd.ntmps59
    go_wp2_with fail
    go_at_call 45
    refine hc.mono ?_
    rintro e w1 ⟨rfl, r1, c1⟩
    have ht := take_no g (some ⟨b, off, none⟩) n cap ((p + 1 : Nat) : Int) V w1 r1 ⟨by omega, by have := HE.out.2.2.2; omega⟩ (by have := HE.out.2.2.1; omega) (by have := HE.out.2.1; omega)
    have HC : Hid _ := And.intro c1 True.intro
    clear r1 c1
    go_wp2_with fail
    go_at_call 43
    refine (leaveIf_f _ 3 _).mono ?_
    rintro e w2 ⟨rfl, rfl⟩
    go_wp2_with fail
    go_at_call 57
    refine ht.mono ?_
    rintro e w3 ⟨rfl, rfl⟩
    go_wp2_with fail
    exact ⟨rfl, HC.out.1.trans ⟨rfl, rfl, rfl, Nat.le_refl _, fun _ _ _ => rfl⟩, Or.inl ⟨2, HE.out.1, rfl⟩⟩
  · have e : pkCid xs p = .ok (sub xs (p + 1) V, p + 1 + V) := by unfold pkCid; rw [hV, if_neg (by omega), if_neg (by omega), Int.toNat_natCast, if_neg (by omega)]
    have hsl : (sub xs (p + 1) V).length = V := sub_len xs (p + 1) V (by omega)
    have HE : Hid _ := And.intro e (And.intro h3 (And.intro hn (And.intro hl (And.intro hgb (And.intro hsl h2')))))
    clear h hl hB e hlen hV hv hsl
    go_enter Tryd.func59, Tryd.ntmps59
    go_wp2_with fail
    go_at_call 45
    refine hc.mono ?_
    rintro e w1 ⟨rfl, r1, c1⟩
    have ht := take_ok g b off n cap (p + 1) V xs w1 r1 (HE.out.2.2.2.1.chg c1 HE.out.2.2.2.2.1) HE.out.2.2.2.2.1 HE.out.2.2.1 (by have := HE.out.2.1; omega)
    have HC : Hid _ := And.intro c1 True.intro
    clear r1 c1
    go_wp2_with fail
    go_at_call 43
    refine (leaveIf_f _ 3 _).mono ?_
    rintro e w2 ⟨rfl, rfl⟩
    go_wp2_with fail
    go_at_call 57
    refine ht.mono ?_
    rintro e w3 ⟨v, rfl, o3, r3, c3⟩
    have HF : Hid _ := And.intro o3 (And.intro r3 c3)
    clear o3 r3 c3
    go_wp2_with fail
    go_ret
    refine ⟨HC.out.1.trans HF.out.2.2, Or.inr ⟨_, _, v, HE.out.1, rfl, ?_, HF.out.2.1, by omega, by have := HE.out.2.1; omega, by rw [HE.out.2.2.2.2.2.1]; exact HE.out.2.2.2.2.2.2⟩⟩
    rw [HE.out.2.2.2.2.2.1]
    exact owns_mono HF.out.1 HC.out.1.size
end Go.Proofs.YtbbiinbjgognjaaDoor
