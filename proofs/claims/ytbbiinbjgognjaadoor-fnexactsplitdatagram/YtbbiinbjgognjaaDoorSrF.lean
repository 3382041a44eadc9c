import Derived.Test.YtbbiinbjgognjaaDoorSrS
namespace Go.Proofs.YtbbiinbjgognjaaDoor
open Go.RowKit
set_option linter.unusedVariables false

theorem fixedS_no (g : Nat) (ao : Option Addr) (n cap : Nat) (p k : Int) (sh : Bool) (w : World) (h : srB w g (.slice ao n cap) p sh) (hp : 0 ≤ p ∧ p ≤ n) (hn : n ≤ 9223372036854775807) (hk : sh = true ∨ (n : Int) - p < k) :
    Calls Tryd.prog 36 #[.pointer (some ⟨g, 0, none⟩), .int .i64 k] w fun e w' => e = .returned (.int .i64 0) ∧ srB w' g (.slice ao n cap) p true ∧ Chg (· = g) w w' := by
  have ht := takeS_no g ao n cap p k sh w h hp hn hk
  clear h hp hn hk
  go_enter Tryd.func36, Tryd.ntmps36
  go_wp2_with fail
  go_at_call 37
  refine ht.mono ?_
  rintro e w1 ⟨q, rfl, hq, o1, r1, c1⟩
  have hc := value_core 0 [] q 0 0 w1 (by decide) rfl (fun x hx => by cases hx) (by decide) (fun j hj => by omega)
  go_wp2_with fail
  go_at_call 52
  refine hc.mono ?_
  rintro e w2 ⟨rfl, rfl⟩
  go_wp2_with fail
  go_ret
  exact ⟨rfl, r1, c1⟩
set_option maxRecDepth 20000 in
theorem fixedS_ok (g b off n cap p k : Nat) (xs : List Int) (w : World) (h : srB w g (.slice (some ⟨b, off, none⟩) n cap) p false) (hl : Lies w b off n cap xs) (hB : Bytes xs) (hgb : b ≠ g) (hn : n ≤ 65536) (hk : p + k ≤ n) (hk1 : 1 ≤ k) (hk4 : k ≤ 4) :
    Calls Tryd.prog 36 #[.pointer (some ⟨g, 0, none⟩), .int .i64 k] w fun e w' => e = .returned (.int .i64 (vals (sub xs p k))) ∧
      srB w' g (.slice (some ⟨b, off, none⟩) n cap) ((p + k : Nat) : Int) false ∧ Chg (· = g) w w' := by
  have ht := takeS_ok g b off n cap p k xs w h hl hgb hn hk
  have hv := numK_lt xs hB p k hk4
  have hlen : (sub xs p k).length = k := sub_len xs p k (by rw [hl.len]; exact hk)
  have hby := sub_bytes hB p k
  have HH : Hid _ := And.intro hlen (And.intro hby (And.intro hk1 (And.intro hk4 hv)))
  generalize sub xs p k = ys at *
  clear hlen hby hv hk1 hk4 hl hB hk
  go_enter Tryd.func36, Tryd.ntmps36
  go_wp2_with fail
  go_at_call 37
  refine ht.mono ?_
  rintro e w1 ⟨v, rfl, o1, r1, c1⟩
  obtain ⟨q, cp, ev, hq, hq2⟩ := owns_shape o1 HH.out.2.2.1
  subst ev
  have hc := value_core k ys q 0 cp w1 (by have := HH.out.2.2.2.1; omega) HH.out.1 HH.out.2.1 (by have := HH.out.2.2.2.2; omega) (fun j hj => by have := owns_cell o1 HH.out.1 hj; rwa [Nat.zero_add])
  have HF : Hid _ := And.intro r1 c1
  clear r1 c1 o1 hq hq2
  go_wp2_with fail
  go_at_call 52
  refine hc.mono ?_
  rintro e w2 ⟨rfl, rfl⟩
  go_wp2_with fail
  go_ret
  exact ⟨rfl, HF.out.1, HF.out.2⟩
theorem variableS_sh (g : Nat) (vb : Value) (p : Int) (w : World) (h : srB w g vb p true) :
    Calls Tryd.prog 40 #[.pointer (some ⟨g, 0, none⟩)] w fun e w' => e = .returned (.int .i64 0) ∧ w' = w := by
  have c2 := h.c2
  clear h
  go_enter Tryd.func40, Tryd.ntmps40
  go_wp2_with fail
  go_ret
  exact ⟨rfl, rfl⟩
set_option maxRecDepth 20000 in
set_option maxHeartbeats 1000000 in
theorem variableS_ok (g b off n cap p : Nat) (xs : List Int) (w : World) (h : srB w g (.slice (some ⟨b, off, none⟩) n cap) p false) (hl : Lies w b off n cap xs) (hB : Bytes xs) (hn : n ≤ 65536) (hv : varOK xs p) :
    Calls Tryd.prog 40 #[.pointer (some ⟨g, 0, none⟩)] w fun e w' => e = .returned (.int .i64 (varV xs p)) ∧
      srB w' g (.slice (some ⟨b, off, none⟩) n cap) ((varN xs p : Nat) : Int) false ∧ Chg (· = g) w w' := by
  have hr : Row w.drew .u8 (.slice (some ⟨b, off, none⟩) n cap) xs := by
    have := (hl.row 0 n (by omega)).drewN 1
    rwa [Nat.add_zero, Nat.sub_zero, List.drop_zero, List.take_of_length_le (by rw [hl.len]; exact Nat.le_refl _)] at this
  have hg := specGetVar _ xs p w.drew hr hB (by rw [hl.len]; omega)
  rw [gv_yes xs p (by rw [hl.len]; exact hn) hv] at hg
  dsimp only at hg
  have d2 := h.c2
  have c0 : w.drew.cell? ⟨g, 0, none⟩ = _ := h.c0
  have c1 : w.drew.cell? ⟨g, 1, none⟩ = _ := h.c1
  have f1 : w.drew.frozen? ⟨g, 1, none⟩ = false := h.fr 1
  have HH : Hid _ := And.intro h True.intro
  generalize varV xs p = V at *
  generalize varN xs p = N at *
  clear h hr hl hv
  go_enter Tryd.func40, Tryd.ntmps40
  go_wp2_with fail
  go_region_with (go_at_call 53; refine hg.mono ?_; rintro e w2 ⟨rfl, hw2⟩; rw [hw2]; clear hw2 w2)
  all_goals (go_wp2_with fail; go_ret)
  all_goals (exact ⟨rfl, HH.out.1.set1 _, ⟨rfl, rfl, rfl, by simp [World.setCell], fun q hq hs => bk_other (w := w) hs 1 _⟩⟩)
set_option maxRecDepth 20000 in
set_option maxHeartbeats 1000000 in
theorem variableS_no (g b off n cap p : Nat) (xs : List Int) (w : World) (h : srB w g (.slice (some ⟨b, off, none⟩) n cap) p false) (hl : Lies w b off n cap xs) (hB : Bytes xs) (hn : n ≤ 65536) (hp : p ≤ n) (hv : ¬ varOK xs p) :
    Calls Tryd.prog 40 #[.pointer (some ⟨g, 0, none⟩)] w fun e w' => e = .returned (.int .i64 0) ∧
      srB w' g (.slice (some ⟨b, off, none⟩) n cap) p true ∧ Chg (· = g) w w' := by
  have hr : Row w.drew .u8 (.slice (some ⟨b, off, none⟩) n cap) xs := by
    have := (hl.row 0 n (by omega)).drewN 1
    rwa [Nat.add_zero, Nat.sub_zero, List.drop_zero, List.take_of_length_le (by rw [hl.len]; exact Nat.le_refl _)] at this
  have hg := specGetVar _ xs p w.drew hr hB (by rw [hl.len]; omega)
  rw [gv_not xs p (by rw [hl.len]; exact hn) (by rw [hl.len]; exact hp) hv] at hg
  dsimp only at hg
  have d2 := h.c2
  have c0 : w.drew.cell? ⟨g, 0, none⟩ = _ := h.c0
  have c1 : w.drew.cell? ⟨g, 1, none⟩ = _ := h.c1
  have f2 : w.drew.frozen? ⟨g, 2, none⟩ = false := h.fr 2
  have HH : Hid _ := And.intro h True.intro
  clear h hr hl hv
  go_enter Tryd.func40, Tryd.ntmps40
  go_wp2_with fail
  go_region_with (go_at_call 53; refine hg.mono ?_; rintro e w2 ⟨rfl, hw2⟩; rw [hw2]; clear hw2 w2)
  all_goals (go_wp2_with fail; go_ret)
  all_goals (exact ⟨rfl, HH.out.1.set2 _, ⟨rfl, rfl, rfl, by simp [World.setCell], fun q hq hs => bk_other (w := w) hs 2 _⟩⟩)
theorem faultS (g : Nat) (vb : Value) (p : Int) (sh : Bool) (w : World) (h : srB w g vb p sh) : Calls Tryd.prog 38 #[.pointer (some ⟨g, 0, none⟩)] w fun e w' => e = .returned (.int .i64 (if sh then 2 else 3)) ∧ w' = w := by
  have c2 := h.c2
  clear h
  cases sh
  · go_enter Tryd.func38, Tryd.ntmps38
    go_wp2_with fail
    go_ret
    exact ⟨rfl, rfl⟩
  · go_enter Tryd.func38, Tryd.ntmps38
    go_wp2_with fail
    go_ret
    exact ⟨rfl, rfl⟩
end Go.Proofs.YtbbiinbjgognjaaDoor
