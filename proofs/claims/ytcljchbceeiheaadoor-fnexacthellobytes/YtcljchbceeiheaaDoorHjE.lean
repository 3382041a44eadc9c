import Derived.Test.YtcljchbceeiheaaDoorParU
import Derived.Test.YtcljchbceeiheaaDoorPokS
import Derived.BigQuiet
import Derived.Deep.LoopGhost
namespace Go.Proofs.YtcljchbceeiheaaDoor
open Go.RowKit
set_option linter.unusedVariables false

theorem drewN_belowP {w w' : World} (h : ∃ n, w' = w.drewN n) : Below w.heap.size w w' := by
  obtain ⟨n, rfl⟩ := h
  exact below_drewN (Below.refl _ _) _
theorem eq_belowP {w w' : World} (h : w' = w) : Below w.heap.size w w' := by rw [h]; exact Below.refl _ _
theorem alwaysC (w : World) : Calls Tryd.prog 74 #[] w fun e w' => e = .returned (.bool true) ∧ w' = w := by
  go_enter Tryd.func74, Tryd.ntmps74
  go_wp2
  go_ret
  exact ⟨rfl, rfl⟩
set_option maxRecDepth 20000 in
theorem numV (b g off : Nat) (l h x : Int) (w : World) (c0 : w.cell? ⟨b, 0, none⟩ = some (.pointer (some ⟨g, off, none⟩))) (c1 : w.cell? ⟨b + 1, 0, none⟩ = some (.int .i64 l)) (c2 : w.cell? ⟨b + 2, 0, none⟩ = some (.int .i64 h)) (cx : w.cell? ⟨g, off, none⟩ = some (.int .i64 x)) :
    Calls Tryd.prog 73 #[.pointer (some ⟨b, 0, none⟩), .pointer (some ⟨b + 1, 0, none⟩), .pointer (some ⟨b + 2, 0, none⟩)] w fun e w' => e = .returned (.bool (btw l h x)) ∧ ∃ q, w' = w.drewN q := by
  by_cases h1 : l ≤ x
  · by_cases h2 : x ≤ h
    · have e : btw l h x = true := by simp [btw, h1, h2]
      rw [e]
      clear e
      go_enter Tryd.func73, Tryd.ntmps73
      go_wp2
      go_quiet (fail)
      go_wp2
      go_ret
      exact ⟨by first | rfl | (simp; done) | (simp [h2]; done), _, rfl⟩
    · have e : btw l h x = false := by simp [btw, h2]
      rw [e]
      clear e
      go_enter Tryd.func73, Tryd.ntmps73
      go_wp2
      go_quiet (fail)
      go_wp2
      go_ret
      exact ⟨by first | rfl | (simp; done) | (simp [h2]; done), _, rfl⟩
  · have e : btw l h x = false := by simp [btw, h1]
    rw [e]
    have hd : decide (l ≤ x) = false := decide_eq_false h1
    clear e h1
    go_enter Tryd.func73, Tryd.ntmps73
    go_wp2
    go_quiet (fail)
    go_wp2
    go_ret
    exact ⟨by first | rfl | (simp; done), _, rfl⟩
theorem orgM (c n : Nat) (s : Bool) (w : World) (hn : n ≤ 9223372036854775807) (hc : w.cell? ⟨c, 0, none⟩ = some (.bool s)) :
    Calls Tryd.prog 71 #[.int .i64 (n : Int), .pointer (some ⟨c, 0, none⟩)] w fun e w' => e = .returned (.bool (decide (n = 0) || (s && decide (n ≤ 8)))) ∧ w' = w := by
  rcases (show n = 0 ∨ (0 < n ∧ n ≤ 8) ∨ 8 < n by omega) with rfl | ⟨h0, h1⟩ | h0 <;> cases s
  all_goals go_enter Tryd.func71, Tryd.ntmps71
  all_goals go_wp2
  all_goals go_ret
  all_goals (refine ⟨?_, rfl⟩; first | rfl | (simp; done) | (simp; omega) | (simp; rw [Bool.eq_iff_iff]; simp; done) | (simp; rw [Bool.eq_iff_iff]; simp; omega))
theorem tokM (c n : Nat) (s : Bool) (w : World) (hn : n ≤ 9223372036854775807) (hc : w.cell? ⟨c, 0, none⟩ = some (.bool s)) :
    Calls Tryd.prog 78 #[.int .i64 (n : Int), .pointer (some ⟨c, 0, none⟩)] w fun e w' => e = .returned (.bool (decide (n = 0) || (s && decide (n = 8)))) ∧ w' = w := by
  rcases (show n = 0 ∨ n = 8 ∨ (n ≠ 0 ∧ n ≠ 8) by omega) with rfl | rfl | ⟨h0, h1⟩ <;> cases s
  all_goals go_enter Tryd.func78, Tryd.ntmps78
  all_goals go_wp2
  all_goals go_ret
  all_goals (refine ⟨?_, rfl⟩; first | rfl | (simp; done) | (simp; omega) | (simp; rw [Bool.eq_iff_iff]; simp; done) | (simp; rw [Bool.eq_iff_iff]; simp; omega))
theorem fstM (n : Nat) (w : World) (hn : n ≤ 9223372036854775807) :
    Calls Tryd.prog 84 #[.int .i64 (n : Int)] w fun e w' => e = .returned (.bool (decide (n ≤ 8))) ∧ w' = w := by
  go_enter Tryd.func84, Tryd.ntmps84
  go_wp2
  go_ret
  exact ⟨by simp; omega, rfl⟩

set_option maxRecDepth 20000 in
theorem orgV (b g off : Nat) (ao : Option Addr) (n cap : Nat) (c : Nat) (s : Bool) (w : World) (hn : n ≤ 9223372036854775807) (c0 : w.cell? ⟨b, 0, none⟩ = some (.pointer (some ⟨g, off, none⟩))) (c1 : w.cell? ⟨b + 1, 0, none⟩ = some (.func (.func 71) #[] #[.pointer (some ⟨c, 0, none⟩)])) (hc : w.cell? ⟨c, 0, none⟩ = some (.bool s)) (cx : w.cell? ⟨g, off, none⟩ = some (.slice ao n cap)) :
    Calls Tryd.prog 86 #[.pointer (some ⟨b + 1, 0, none⟩), .pointer (some ⟨b, 0, none⟩)] w fun e w' => e = .returned (.bool (decide (n = 0) || (s && decide (n ≤ 8)))) ∧ Below w.heap.size w w' := by
  have HC : Hid (∀ q, Calls Tryd.prog 71 #[.int .i64 (n : Int), .pointer (some ⟨c, 0, none⟩)] (w.drewN q) fun e w' => e = .returned (.bool (decide (n = 0) || (s && decide (n ≤ 8)))) ∧ w' = w.drewN q) := fun q => orgM c n s _ hn hc
  obtain ⟨R, eR⟩ : ∃ R, R = (decide (n = 0) || (s && decide (n ≤ 8))) := ⟨_, rfl⟩
  rw [← eR] at HC ⊢
  clear eR hc
  go_enter Tryd.func86, Tryd.ntmps86
  go_upto_region 1 with fail
  go_region_with (go_at_call 71; refine (HC.out 1).mono ?_; rintro e w' ⟨rfl, hw⟩; subst w')
  all_goals (go_wp2; go_ret; exact ⟨rfl, below_drewN (Below.refl _ _) 1⟩)
set_option maxRecDepth 20000 in
theorem tokV (b g off : Nat) (ao : Option Addr) (n cap : Nat) (c : Nat) (s : Bool) (w : World) (hn : n ≤ 9223372036854775807) (c0 : w.cell? ⟨b, 0, none⟩ = some (.pointer (some ⟨g, off, none⟩))) (c1 : w.cell? ⟨b + 1, 0, none⟩ = some (.func (.func 78) #[] #[.pointer (some ⟨c, 0, none⟩)])) (hc : w.cell? ⟨c, 0, none⟩ = some (.bool s)) (cx : w.cell? ⟨g, off, none⟩ = some (.slice ao n cap)) :
    Calls Tryd.prog 86 #[.pointer (some ⟨b + 1, 0, none⟩), .pointer (some ⟨b, 0, none⟩)] w fun e w' => e = .returned (.bool (decide (n = 0) || (s && decide (n = 8)))) ∧ Below w.heap.size w w' := by
  have HC : Hid (∀ q, Calls Tryd.prog 78 #[.int .i64 (n : Int), .pointer (some ⟨c, 0, none⟩)] (w.drewN q) fun e w' => e = .returned (.bool (decide (n = 0) || (s && decide (n = 8)))) ∧ w' = w.drewN q) := fun q => tokM c n s _ hn hc
  obtain ⟨R, eR⟩ : ∃ R, R = (decide (n = 0) || (s && decide (n = 8))) := ⟨_, rfl⟩
  rw [← eR] at HC ⊢
  clear eR hc
  go_enter Tryd.func86, Tryd.ntmps86
  go_upto_region 1 with fail
  go_region_with (go_at_call 78; refine (HC.out 1).mono ?_; rintro e w' ⟨rfl, hw⟩; subst w')
  all_goals (go_wp2; go_ret; exact ⟨rfl, below_drewN (Below.refl _ _) 1⟩)
set_option maxRecDepth 20000 in
theorem fstV (b g off : Nat) (ao : Option Addr) (n cap : Nat)  (w : World) (hn : n ≤ 9223372036854775807) (c0 : w.cell? ⟨b, 0, none⟩ = some (.pointer (some ⟨g, off, none⟩))) (c1 : w.cell? ⟨b + 1, 0, none⟩ = some (.func (.func 84) #[] #[])) (cx : w.cell? ⟨g, off, none⟩ = some (.slice ao n cap)) :
    Calls Tryd.prog 86 #[.pointer (some ⟨b + 1, 0, none⟩), .pointer (some ⟨b, 0, none⟩)] w fun e w' => e = .returned (.bool (decide (n ≤ 8))) ∧ Below w.heap.size w w' := by
  have HC : Hid (∀ q, Calls Tryd.prog 84 #[.int .i64 (n : Int)] (w.drewN q) fun e w' => e = .returned (.bool (decide (n ≤ 8))) ∧ w' = w.drewN q) := fun q => fstM n _ hn
  obtain ⟨R, eR⟩ : ∃ R, R = (decide (n ≤ 8)) := ⟨_, rfl⟩
  rw [← eR] at HC ⊢
  clear eR
  go_enter Tryd.func86, Tryd.ntmps86
  go_upto_region 1 with fail
  go_region_with (go_at_call 84; refine (HC.out 1).mono ?_; rintro e w' ⟨rfl, hw⟩; subst w')
  all_goals (go_wp2; go_ret; exact ⟨rfl, below_drewN (Below.refl _ _) 1⟩)
end Go.Proofs.YtcljchbceeiheaaDoor

namespace Go.Proofs.YtcljchbceeiheaaDoor
open Go.RowKit
set_option linter.unusedVariables false

theorem pok_false (p : PP) (s : Bool) (k : Nat) (h : (pokL p s).getD k true = false) : pok p s = false := by
  unfold pok
  rw [List.all_eq_false]
  by_cases hk : k < (pokL p s).length
  · refine ⟨(pokL p s)[k], List.getElem_mem hk, ?_⟩
    simp [List.getD, hk] at h
    simp [h]
  · exfalso
    simp [List.getD, List.getElem?_eq_none (Nat.le_of_not_lt hk)] at h
theorem pok_true (p : PP) (s : Bool) (h : ∀ j, j < 13 → (pokL p s).getD j true = true) : pok p s = true := by
  unfold pok
  rw [List.all_eq_true]
  intro x hx
  obtain ⟨i, hi, rfl⟩ := List.getElem_of_mem hx
  have := h i (by simpa [pokL] using hi)
  simpa [List.getD, hi] using this

set_option maxRecDepth 20000 in
set_option maxHeartbeats 8000000 in
theorem pokI (v : Value) (p : PP) (s : Bool) (w : World) (hr : PPRow w v p) (hs : p.small 9223372036854775807) :
    Calls Tryd.prog 47 #[v, .bool s] w fun e w' => e = .returned (.bool (pok p s)) ∧ Below w.heap.size w w' := by
  obtain ⟨d2, d3, d4, p2, p3, p4, rfl, -, -, -⟩ := hr.parts
  obtain ⟨s0, s1, s2⟩ := hs
  have g0 : (w.alloc (.cells #[.int .i64 p.a0, .int .i64 p.a1, .int .i64 p.a2, .int .i64 p.a3, .int .i64 p.a4, .int .i64 p.a5, .int .i64 p.a6, .int .i64 p.a7, .int .i64 p.a8, .bool p.m, .slice d2 p.o.length p2, .slice d3 p.t.length p3, .slice d4 p.f.length p4] 32)).heap[w.heap.size]? = some (.cells #[.int .i64 p.a0, .int .i64 p.a1, .int .i64 p.a2, .int .i64 p.a3, .int .i64 p.a4, .int .i64 p.a5, .int .i64 p.a6, .int .i64 p.a7, .int .i64 p.a8, .bool p.m, .slice d2 p.o.length p2, .slice d3 p.t.length p3, .slice d4 p.f.length p4] 32 (0, 0)) := heap_alloc_new w _
  obtain ⟨R, eR⟩ : ∃ R, R = pok p s := ⟨_, rfl⟩
  rw [← eR]
  obtain ⟨wa, ea⟩ : ∃ wa, wa = w.alloc (.cells #[.int .i64 p.a0, .int .i64 p.a1, .int .i64 p.a2, .int .i64 p.a3, .int .i64 p.a4, .int .i64 p.a5, .int .i64 p.a6, .int .i64 p.a7, .int .i64 p.a8, .bool p.m, .slice d2 p.o.length p2, .slice d3 p.t.length p3, .slice d4 p.f.length p4] 32) := ⟨_, rfl⟩
  have b0 : Below w.heap.size w wa := by rw [ea]; exact (Below.refl _ _).alloc (Nat.le_refl _) _
  have sa : wa.heap.size = w.heap.size + 1 := by rw [ea]; simp
  rw [← ea] at g0
  have H0 : Hid _ := And.intro (parTableC w.heap.size s wa) (And.intro b0 (And.intro g0 (And.intro sa (And.intro eR (And.intro ea (And.intro s0 (And.intro s1 s2)))))))
  clear hr g0 b0 eR sa ea s0 s1 s2
  go_enter Tryd.func47, Tryd.ntmps47
  go_wp2_with fail
  rw [← H0.out.2.2.2.2.2.1]
  go_at_call 51
  refine H0.out.1.mono ?_
  rintro e w1 ⟨T, rfl, PT, b1⟩
  have H1 : Hid _ := And.intro PT (And.intro (H0.out.2.1.trans (b1.mono H0.out.2.1.size)) ((b1.block w.heap.size (by rw [H0.out.2.2.2.1]; omega)).trans H0.out.2.2.1))
  clear PT b1
  go_wp2_with fail
  go_loopg [10] 13 (fun q i wr => ∃ k : Nat, k ≤ 13 ∧ q = 13 - k ∧ i = .int .i64 (k : Int) ∧ Below w1.heap.size w1 wr ∧ ∀ j, j < k → (pokL p s).getD j true = true)
  case atStart => exact ⟨0, Nat.zero_le _, rfl, rfl, Below.refl _ _, fun j h => by omega⟩
  case round =>
    obtain ⟨k, hk, rfl, rfl, hbx, hno⟩ := hrel
    have HN : Hid _ := And.intro hno hbx
    have gx : wr.heap[w.heap.size]? = some (.cells #[.int .i64 p.a0, .int .i64 p.a1, .int .i64 p.a2, .int .i64 p.a3, .int .i64 p.a4, .int .i64 p.a5, .int .i64 p.a6, .int .i64 p.a7, .int .i64 p.a8, .bool p.m, .slice d2 p.o.length p2, .slice d3 p.t.length p3, .slice d4 p.f.length p4] 32 (0, 0)) := (hbx.block w.heap.size (Array.getElem?_eq_some_iff.1 H1.out.2.2).1).trans H1.out.2.2
    have HG : Hid _ := And.intro gx True.intro
    clear hno hbx gx
    rcases (show k = 13 ∨ k = 0 ∨ k = 1 ∨ k = 2 ∨ k = 3 ∨ k = 4 ∨ k = 5 ∨ k = 6 ∨ k = 7 ∨ k = 8 ∨ k = 9 ∨ k = 10 ∨ k = 11 ∨ k = 12 by omega) with rfl | rfl | rfl | rfl | rfl | rfl | rfl | rfl | rfl | rfl | rfl | rfl | rfl | rfl
    · go_wp2
      go_ret
      exact ⟨by rw [H0.out.2.2.2.2.1, pok_true p s HN.out.1]; rfl, H1.out.2.1.trans (HN.out.2.mono H1.out.2.1.size)⟩
    · obtain ⟨cs, ⟨hz, hc⟩, hE⟩ := H1.out.1.e0
      obtain ⟨b, c, rfl, h0, u0, l0, h1, u1, l1, h2, u2, l2⟩ := OrgE.below HN.out.2 hE
      have ht : T < w1.heap.size := H1.out.1.lt.2
      have t0 : wr.cell? ⟨T, 0, none⟩ = some (.int .i64 0) := (HN.out.2.cell (p := ⟨T, 0, none⟩) ht).trans (hc 0 (by decide))
      have t1 : wr.cell? ⟨T, 1, none⟩ = some (.func (.func 86) #[] #[.pointer (some ⟨(b + 1), 0, none⟩), .pointer (some ⟨b, 0, none⟩)]) := (HN.out.2.cell (p := ⟨T, 1, none⟩) ht).trans (hc 1 (by decide))
      have t2 : wr.cell? ⟨T, 2, none⟩ = some (.func (.func 72) #[] #[.pointer (some ⟨c, 0, none⟩)]) := (HN.out.2.cell (p := ⟨T, 2, none⟩) ht).trans (hc 2 (by decide))
      have t3 : wr.cell? ⟨T, 3, none⟩ = some (.func (.func 87) #[] #[.pointer (some ⟨b, 0, none⟩)]) := (HN.out.2.cell (p := ⟨T, 3, none⟩) ht).trans (hc 3 (by decide))
      have t4 : wr.cell? ⟨T, 4, none⟩ = some (.func (.func 88) #[] #[.pointer (some ⟨b, 0, none⟩)]) := (HN.out.2.cell (p := ⟨T, 4, none⟩) ht).trans (hc 4 (by decide))
      have cx : wr.cell? ⟨w.heap.size, 10, none⟩ = some (.slice d2 p.o.length p2) := by rw [bk_cell HG.out.1]; rfl
      have B1 : ∀ o, Below wr.heap.size wr (wr.alloc o) := fun o => (Below.refl _ _).alloc (Nat.le_refl _) o
      have CV := orgV b w.heap.size 10 d2 p.o.length p2 c s (wr.alloc (.cells #[.int .i64 0, .func (.func 86) #[] #[.pointer (some ⟨(b + 1), 0, none⟩), .pointer (some ⟨b, 0, none⟩)], .func (.func 72) #[] #[.pointer (some ⟨c, 0, none⟩)], .func (.func 87) #[] #[.pointer (some ⟨b, 0, none⟩)], .func (.func 88) #[] #[.pointer (some ⟨b, 0, none⟩)]] 78)) H0.out.2.2.2.2.2.2.1 (((B1 _).cell (p := ⟨b, 0, none⟩) l0).trans h0) (((B1 _).cell (p := ⟨b + 1, 0, none⟩) l1).trans h1) (((B1 _).cell (p := ⟨c, 0, none⟩) l2).trans h2) (((B1 _).cell (p := ⟨w.heap.size, 10, none⟩) (Array.getElem?_eq_some_iff.1 HG.out.1).1).trans cx)
      obtain ⟨t, et⟩ : ∃ t : Bool, t = (decide (p.o.length = 0) || (s && decide (p.o.length ≤ 8))) := ⟨_, rfl⟩
      rw [← et] at CV
      have HV : Hid _ := And.intro CV (And.intro et (B1 (.cells #[.int .i64 0, .func (.func 86) #[] #[.pointer (some ⟨(b + 1), 0, none⟩), .pointer (some ⟨b, 0, none⟩)], .func (.func 72) #[] #[.pointer (some ⟨c, 0, none⟩)], .func (.func 87) #[] #[.pointer (some ⟨b, 0, none⟩)], .func (.func 88) #[] #[.pointer (some ⟨b, 0, none⟩)]] 78)))
      clear CV et hc hz hE B1 h0 u0 l0 h1 u1 l1 h2 u2 l2 cx
      cases t
      · go_wp2_with (go_at_call 86; refine HV.out.1.mono ?_; rintro e w2 ⟨rfl, b2⟩)
        go_ret
        refine ⟨?_, (H1.out.2.1.trans (HN.out.2.mono H1.out.2.1.size)).trans ((HV.out.2.2.trans (b2.mono HV.out.2.2.size)).mono (Nat.le_trans H1.out.2.1.size HN.out.2.size))⟩
        rw [H0.out.2.2.2.2.1, pok_false p s 0 HV.out.2.1.symm]
        rfl
      · go_wp2_with (go_at_call 86; refine HV.out.1.mono ?_; rintro e w2 ⟨rfl, b2⟩)
        go_roundg (13 - (0 + 1))
        case measure => omega
        case rel =>
          refine ⟨1, by omega, rfl, by go_num, HN.out.2.trans ((HV.out.2.2.trans (b2.mono HV.out.2.2.size)).mono HN.out.2.size), fun j hj => ?_⟩
          by_cases hjk : j < 0
          · exact HN.out.1 j hjk
          · obtain rfl : j = 0 := by omega
            exact HV.out.2.1.symm
    · obtain ⟨cs, ⟨hz, hc⟩, hE⟩ := H1.out.1.e1
      obtain ⟨b, rfl, h0, u0, l0, h1, u1, l1, h2, u2, l2⟩ := NumE.below HN.out.2 hE
      have ht : T < w1.heap.size := H1.out.1.lt.2
      have t0 : wr.cell? ⟨T, 5, none⟩ = some (.int .i64 1) := (HN.out.2.cell (p := ⟨T, 5, none⟩) ht).trans (hc 0 (by decide))
      have t1 : wr.cell? ⟨T, 6, none⟩ = some (.func (.func 73) #[] #[.pointer (some ⟨b, 0, none⟩), .pointer (some ⟨(b + 1), 0, none⟩), .pointer (some ⟨(b + 2), 0, none⟩)]) := (HN.out.2.cell (p := ⟨T, 6, none⟩) ht).trans (hc 1 (by decide))
      have t2 : wr.cell? ⟨T, 7, none⟩ = some (.func (.func 74) #[] #[]) := (HN.out.2.cell (p := ⟨T, 7, none⟩) ht).trans (hc 2 (by decide))
      have t3 : wr.cell? ⟨T, 8, none⟩ = some (.func (.func 75) #[] #[.pointer (some ⟨b, 0, none⟩)]) := (HN.out.2.cell (p := ⟨T, 8, none⟩) ht).trans (hc 3 (by decide))
      have t4 : wr.cell? ⟨T, 9, none⟩ = some (.func (.func 76) #[] #[.pointer (some ⟨b, 0, none⟩)]) := (HN.out.2.cell (p := ⟨T, 9, none⟩) ht).trans (hc 4 (by decide))
      have cx : wr.cell? ⟨w.heap.size, 0, none⟩ = some (.int .i64 p.a0) := by rw [bk_cell HG.out.1]; rfl
      have B1 : ∀ o, Below wr.heap.size wr (wr.alloc o) := fun o => (Below.refl _ _).alloc (Nat.le_refl _) o
      have CV := (numV b w.heap.size 0 0 1000000000000 p.a0 (wr.alloc (.cells #[.int .i64 1, .func (.func 73) #[] #[.pointer (some ⟨b, 0, none⟩), .pointer (some ⟨(b + 1), 0, none⟩), .pointer (some ⟨(b + 2), 0, none⟩)], .func (.func 74) #[] #[], .func (.func 75) #[] #[.pointer (some ⟨b, 0, none⟩)], .func (.func 76) #[] #[.pointer (some ⟨b, 0, none⟩)]] 78)) (((B1 _).cell (p := ⟨b, 0, none⟩) l0).trans h0) (((B1 _).cell (p := ⟨b + 1, 0, none⟩) l1).trans h1) (((B1 _).cell (p := ⟨b + 2, 0, none⟩) l2).trans h2) (((B1 _).cell (p := ⟨w.heap.size, 0, none⟩) (Array.getElem?_eq_some_iff.1 HG.out.1).1).trans cx)).mono (fun e w' h => And.intro h.1 (drewN_belowP h.2))
      obtain ⟨t, et⟩ : ∃ t : Bool, t = (btw 0 1000000000000 p.a0) := ⟨_, rfl⟩
      rw [← et] at CV
      have HV : Hid _ := And.intro CV (And.intro et (B1 (.cells #[.int .i64 1, .func (.func 73) #[] #[.pointer (some ⟨b, 0, none⟩), .pointer (some ⟨(b + 1), 0, none⟩), .pointer (some ⟨(b + 2), 0, none⟩)], .func (.func 74) #[] #[], .func (.func 75) #[] #[.pointer (some ⟨b, 0, none⟩)], .func (.func 76) #[] #[.pointer (some ⟨b, 0, none⟩)]] 78)))
      clear CV et hc hz hE B1 h0 u0 l0 h1 u1 l1 h2 u2 l2 cx
      cases t
      · go_wp2_with (go_at_call 73; refine HV.out.1.mono ?_; rintro e w2 ⟨rfl, b2⟩)
        go_ret
        refine ⟨?_, (H1.out.2.1.trans (HN.out.2.mono H1.out.2.1.size)).trans ((HV.out.2.2.trans (b2.mono HV.out.2.2.size)).mono (Nat.le_trans H1.out.2.1.size HN.out.2.size))⟩
        rw [H0.out.2.2.2.2.1, pok_false p s 1 HV.out.2.1.symm]
        rfl
      · go_wp2_with (go_at_call 73; refine HV.out.1.mono ?_; rintro e w2 ⟨rfl, b2⟩)
        go_roundg (13 - (1 + 1))
        case measure => omega
        case rel =>
          refine ⟨2, by omega, rfl, by go_num, HN.out.2.trans ((HV.out.2.2.trans (b2.mono HV.out.2.2.size)).mono HN.out.2.size), fun j hj => ?_⟩
          by_cases hjk : j < 1
          · exact HN.out.1 j hjk
          · obtain rfl : j = 1 := by omega
            exact HV.out.2.1.symm
    · obtain ⟨cs, ⟨hz, hc⟩, hE⟩ := H1.out.1.e2
      obtain ⟨b, c, d, x, rfl, h0, u0, l0, h1, u1, l1, h2, u2, l2, h3, u3, l3, h4, u4, l4⟩ := TokE.below HN.out.2 hE
      have ht : T < w1.heap.size := H1.out.1.lt.2
      have t0 : wr.cell? ⟨T, 10, none⟩ = some (.int .i64 2) := (HN.out.2.cell (p := ⟨T, 10, none⟩) ht).trans (hc 0 (by decide))
      have t1 : wr.cell? ⟨T, 11, none⟩ = some (.func (.func 86) #[] #[.pointer (some ⟨(b + 1), 0, none⟩), .pointer (some ⟨b, 0, none⟩)]) := (HN.out.2.cell (p := ⟨T, 11, none⟩) ht).trans (hc 1 (by decide))
      have t2 : wr.cell? ⟨T, 12, none⟩ = some (.func (.func 79) #[] #[.pointer (some ⟨c, 0, none⟩)]) := (HN.out.2.cell (p := ⟨T, 12, none⟩) ht).trans (hc 2 (by decide))
      have t3 : wr.cell? ⟨T, 13, none⟩ = some (.func (.func 87) #[] #[.pointer (some ⟨b, 0, none⟩)]) := (HN.out.2.cell (p := ⟨T, 13, none⟩) ht).trans (hc 3 (by decide))
      have t4 : wr.cell? ⟨T, 14, none⟩ = some (.func (.func 80) #[] #[.pointer (some ⟨c, 0, none⟩), .pointer (some ⟨x, 0, none⟩)]) := (HN.out.2.cell (p := ⟨T, 14, none⟩) ht).trans (hc 4 (by decide))
      have cx : wr.cell? ⟨w.heap.size, 11, none⟩ = some (.slice d3 p.t.length p3) := by rw [bk_cell HG.out.1]; rfl
      have B1 : ∀ o, Below wr.heap.size wr (wr.alloc o) := fun o => (Below.refl _ _).alloc (Nat.le_refl _) o
      have CV := tokV b w.heap.size 11 d3 p.t.length p3 d s (wr.alloc (.cells #[.int .i64 2, .func (.func 86) #[] #[.pointer (some ⟨(b + 1), 0, none⟩), .pointer (some ⟨b, 0, none⟩)], .func (.func 79) #[] #[.pointer (some ⟨c, 0, none⟩)], .func (.func 87) #[] #[.pointer (some ⟨b, 0, none⟩)], .func (.func 80) #[] #[.pointer (some ⟨c, 0, none⟩), .pointer (some ⟨x, 0, none⟩)]] 78)) H0.out.2.2.2.2.2.2.2.1 (((B1 _).cell (p := ⟨b, 0, none⟩) l0).trans h0) (((B1 _).cell (p := ⟨b + 1, 0, none⟩) l1).trans h1) (((B1 _).cell (p := ⟨d, 0, none⟩) l3).trans h3) (((B1 _).cell (p := ⟨w.heap.size, 11, none⟩) (Array.getElem?_eq_some_iff.1 HG.out.1).1).trans cx)
      obtain ⟨t, et⟩ : ∃ t : Bool, t = (decide (p.t.length = 0) || (s && decide (p.t.length = 8))) := ⟨_, rfl⟩
      rw [← et] at CV
      have HV : Hid _ := And.intro CV (And.intro et (B1 (.cells #[.int .i64 2, .func (.func 86) #[] #[.pointer (some ⟨(b + 1), 0, none⟩), .pointer (some ⟨b, 0, none⟩)], .func (.func 79) #[] #[.pointer (some ⟨c, 0, none⟩)], .func (.func 87) #[] #[.pointer (some ⟨b, 0, none⟩)], .func (.func 80) #[] #[.pointer (some ⟨c, 0, none⟩), .pointer (some ⟨x, 0, none⟩)]] 78)))
      clear CV et hc hz hE B1 h0 u0 l0 h1 u1 l1 h2 u2 l2 h3 u3 l3 h4 u4 l4 cx
      cases t
      · go_wp2_with (go_at_call 86; refine HV.out.1.mono ?_; rintro e w2 ⟨rfl, b2⟩)
        go_ret
        refine ⟨?_, (H1.out.2.1.trans (HN.out.2.mono H1.out.2.1.size)).trans ((HV.out.2.2.trans (b2.mono HV.out.2.2.size)).mono (Nat.le_trans H1.out.2.1.size HN.out.2.size))⟩
        rw [H0.out.2.2.2.2.1, pok_false p s 2 HV.out.2.1.symm]
        rfl
      · go_wp2_with (go_at_call 86; refine HV.out.1.mono ?_; rintro e w2 ⟨rfl, b2⟩)
        go_roundg (13 - (2 + 1))
        case measure => omega
        case rel =>
          refine ⟨3, by omega, rfl, by go_num, HN.out.2.trans ((HV.out.2.2.trans (b2.mono HV.out.2.2.size)).mono HN.out.2.size), fun j hj => ?_⟩
          by_cases hjk : j < 2
          · exact HN.out.1 j hjk
          · obtain rfl : j = 2 := by omega
            exact HV.out.2.1.symm
    · obtain ⟨cs, ⟨hz, hc⟩, hE⟩ := H1.out.1.e3
      obtain ⟨b, rfl, h0, u0, l0, h1, u1, l1, h2, u2, l2⟩ := NumE.below HN.out.2 hE
      have ht : T < w1.heap.size := H1.out.1.lt.2
      have t0 : wr.cell? ⟨T, 15, none⟩ = some (.int .i64 3) := (HN.out.2.cell (p := ⟨T, 15, none⟩) ht).trans (hc 0 (by decide))
      have t1 : wr.cell? ⟨T, 16, none⟩ = some (.func (.func 73) #[] #[.pointer (some ⟨b, 0, none⟩), .pointer (some ⟨(b + 1), 0, none⟩), .pointer (some ⟨(b + 2), 0, none⟩)]) := (HN.out.2.cell (p := ⟨T, 16, none⟩) ht).trans (hc 1 (by decide))
      have t2 : wr.cell? ⟨T, 17, none⟩ = some (.func (.func 74) #[] #[]) := (HN.out.2.cell (p := ⟨T, 17, none⟩) ht).trans (hc 2 (by decide))
      have t3 : wr.cell? ⟨T, 18, none⟩ = some (.func (.func 75) #[] #[.pointer (some ⟨b, 0, none⟩)]) := (HN.out.2.cell (p := ⟨T, 18, none⟩) ht).trans (hc 3 (by decide))
      have t4 : wr.cell? ⟨T, 19, none⟩ = some (.func (.func 76) #[] #[.pointer (some ⟨b, 0, none⟩)]) := (HN.out.2.cell (p := ⟨T, 19, none⟩) ht).trans (hc 4 (by decide))
      have cx : wr.cell? ⟨w.heap.size, 1, none⟩ = some (.int .i64 p.a1) := by rw [bk_cell HG.out.1]; rfl
      have B1 : ∀ o, Below wr.heap.size wr (wr.alloc o) := fun o => (Below.refl _ _).alloc (Nat.le_refl _) o
      have CV := (numV b w.heap.size 1 1200 2000 p.a1 (wr.alloc (.cells #[.int .i64 3, .func (.func 73) #[] #[.pointer (some ⟨b, 0, none⟩), .pointer (some ⟨(b + 1), 0, none⟩), .pointer (some ⟨(b + 2), 0, none⟩)], .func (.func 74) #[] #[], .func (.func 75) #[] #[.pointer (some ⟨b, 0, none⟩)], .func (.func 76) #[] #[.pointer (some ⟨b, 0, none⟩)]] 78)) (((B1 _).cell (p := ⟨b, 0, none⟩) l0).trans h0) (((B1 _).cell (p := ⟨b + 1, 0, none⟩) l1).trans h1) (((B1 _).cell (p := ⟨b + 2, 0, none⟩) l2).trans h2) (((B1 _).cell (p := ⟨w.heap.size, 1, none⟩) (Array.getElem?_eq_some_iff.1 HG.out.1).1).trans cx)).mono (fun e w' h => And.intro h.1 (drewN_belowP h.2))
      obtain ⟨t, et⟩ : ∃ t : Bool, t = (btw 1200 2000 p.a1) := ⟨_, rfl⟩
      rw [← et] at CV
      have HV : Hid _ := And.intro CV (And.intro et (B1 (.cells #[.int .i64 3, .func (.func 73) #[] #[.pointer (some ⟨b, 0, none⟩), .pointer (some ⟨(b + 1), 0, none⟩), .pointer (some ⟨(b + 2), 0, none⟩)], .func (.func 74) #[] #[], .func (.func 75) #[] #[.pointer (some ⟨b, 0, none⟩)], .func (.func 76) #[] #[.pointer (some ⟨b, 0, none⟩)]] 78)))
      clear CV et hc hz hE B1 h0 u0 l0 h1 u1 l1 h2 u2 l2 cx
      cases t
      · go_wp2_with (go_at_call 73; refine HV.out.1.mono ?_; rintro e w2 ⟨rfl, b2⟩)
        go_ret
        refine ⟨?_, (H1.out.2.1.trans (HN.out.2.mono H1.out.2.1.size)).trans ((HV.out.2.2.trans (b2.mono HV.out.2.2.size)).mono (Nat.le_trans H1.out.2.1.size HN.out.2.size))⟩
        rw [H0.out.2.2.2.2.1, pok_false p s 3 HV.out.2.1.symm]
        rfl
      · go_wp2_with (go_at_call 73; refine HV.out.1.mono ?_; rintro e w2 ⟨rfl, b2⟩)
        go_roundg (13 - (3 + 1))
        case measure => omega
        case rel =>
          refine ⟨4, by omega, rfl, by go_num, HN.out.2.trans ((HV.out.2.2.trans (b2.mono HV.out.2.2.size)).mono HN.out.2.size), fun j hj => ?_⟩
          by_cases hjk : j < 3
          · exact HN.out.1 j hjk
          · obtain rfl : j = 3 := by omega
            exact HV.out.2.1.symm
    · obtain ⟨cs, ⟨hz, hc⟩, hE⟩ := H1.out.1.e4
      obtain ⟨b, rfl, h0, u0, l0, h1, u1, l1, h2, u2, l2⟩ := NumE.below HN.out.2 hE
      have ht : T < w1.heap.size := H1.out.1.lt.2
      have t0 : wr.cell? ⟨T, 20, none⟩ = some (.int .i64 4) := (HN.out.2.cell (p := ⟨T, 20, none⟩) ht).trans (hc 0 (by decide))
      have t1 : wr.cell? ⟨T, 21, none⟩ = some (.func (.func 73) #[] #[.pointer (some ⟨b, 0, none⟩), .pointer (some ⟨(b + 1), 0, none⟩), .pointer (some ⟨(b + 2), 0, none⟩)]) := (HN.out.2.cell (p := ⟨T, 21, none⟩) ht).trans (hc 1 (by decide))
      have t2 : wr.cell? ⟨T, 22, none⟩ = some (.func (.func 74) #[] #[]) := (HN.out.2.cell (p := ⟨T, 22, none⟩) ht).trans (hc 2 (by decide))
      have t3 : wr.cell? ⟨T, 23, none⟩ = some (.func (.func 75) #[] #[.pointer (some ⟨b, 0, none⟩)]) := (HN.out.2.cell (p := ⟨T, 23, none⟩) ht).trans (hc 3 (by decide))
      have t4 : wr.cell? ⟨T, 24, none⟩ = some (.func (.func 76) #[] #[.pointer (some ⟨b, 0, none⟩)]) := (HN.out.2.cell (p := ⟨T, 24, none⟩) ht).trans (hc 4 (by decide))
      have cx : wr.cell? ⟨w.heap.size, 2, none⟩ = some (.int .i64 p.a2) := by rw [bk_cell HG.out.1]; rfl
      have B1 : ∀ o, Below wr.heap.size wr (wr.alloc o) := fun o => (Below.refl _ _).alloc (Nat.le_refl _) o
      have CV := (numV b w.heap.size 2 1 16384 p.a2 (wr.alloc (.cells #[.int .i64 4, .func (.func 73) #[] #[.pointer (some ⟨b, 0, none⟩), .pointer (some ⟨(b + 1), 0, none⟩), .pointer (some ⟨(b + 2), 0, none⟩)], .func (.func 74) #[] #[], .func (.func 75) #[] #[.pointer (some ⟨b, 0, none⟩)], .func (.func 76) #[] #[.pointer (some ⟨b, 0, none⟩)]] 78)) (((B1 _).cell (p := ⟨b, 0, none⟩) l0).trans h0) (((B1 _).cell (p := ⟨b + 1, 0, none⟩) l1).trans h1) (((B1 _).cell (p := ⟨b + 2, 0, none⟩) l2).trans h2) (((B1 _).cell (p := ⟨w.heap.size, 2, none⟩) (Array.getElem?_eq_some_iff.1 HG.out.1).1).trans cx)).mono (fun e w' h => And.intro h.1 (drewN_belowP h.2))
      obtain ⟨t, et⟩ : ∃ t : Bool, t = (btw 1 16384 p.a2) := ⟨_, rfl⟩
      rw [← et] at CV
      have HV : Hid _ := And.intro CV (And.intro et (B1 (.cells #[.int .i64 4, .func (.func 73) #[] #[.pointer (some ⟨b, 0, none⟩), .pointer (some ⟨(b + 1), 0, none⟩), .pointer (some ⟨(b + 2), 0, none⟩)], .func (.func 74) #[] #[], .func (.func 75) #[] #[.pointer (some ⟨b, 0, none⟩)], .func (.func 76) #[] #[.pointer (some ⟨b, 0, none⟩)]] 78)))
      clear CV et hc hz hE B1 h0 u0 l0 h1 u1 l1 h2 u2 l2 cx
      cases t
      · go_wp2_with (go_at_call 73; refine HV.out.1.mono ?_; rintro e w2 ⟨rfl, b2⟩)
        go_ret
        refine ⟨?_, (H1.out.2.1.trans (HN.out.2.mono H1.out.2.1.size)).trans ((HV.out.2.2.trans (b2.mono HV.out.2.2.size)).mono (Nat.le_trans H1.out.2.1.size HN.out.2.size))⟩
        rw [H0.out.2.2.2.2.1, pok_false p s 4 HV.out.2.1.symm]
        rfl
      · go_wp2_with (go_at_call 73; refine HV.out.1.mono ?_; rintro e w2 ⟨rfl, b2⟩)
        go_roundg (13 - (4 + 1))
        case measure => omega
        case rel =>
          refine ⟨5, by omega, rfl, by go_num, HN.out.2.trans ((HV.out.2.2.trans (b2.mono HV.out.2.2.size)).mono HN.out.2.size), fun j hj => ?_⟩
          by_cases hjk : j < 4
          · exact HN.out.1 j hjk
          · obtain rfl : j = 4 := by omega
            exact HV.out.2.1.symm
    · obtain ⟨cs, ⟨hz, hc⟩, hE⟩ := H1.out.1.e5
      obtain ⟨b, rfl, h0, u0, l0, h1, u1, l1, h2, u2, l2⟩ := NumE.below HN.out.2 hE
      have ht : T < w1.heap.size := H1.out.1.lt.2
      have t0 : wr.cell? ⟨T, 25, none⟩ = some (.int .i64 5) := (HN.out.2.cell (p := ⟨T, 25, none⟩) ht).trans (hc 0 (by decide))
      have t1 : wr.cell? ⟨T, 26, none⟩ = some (.func (.func 73) #[] #[.pointer (some ⟨b, 0, none⟩), .pointer (some ⟨(b + 1), 0, none⟩), .pointer (some ⟨(b + 2), 0, none⟩)]) := (HN.out.2.cell (p := ⟨T, 26, none⟩) ht).trans (hc 1 (by decide))
      have t2 : wr.cell? ⟨T, 27, none⟩ = some (.func (.func 74) #[] #[]) := (HN.out.2.cell (p := ⟨T, 27, none⟩) ht).trans (hc 2 (by decide))
      have t3 : wr.cell? ⟨T, 28, none⟩ = some (.func (.func 75) #[] #[.pointer (some ⟨b, 0, none⟩)]) := (HN.out.2.cell (p := ⟨T, 28, none⟩) ht).trans (hc 3 (by decide))
      have t4 : wr.cell? ⟨T, 29, none⟩ = some (.func (.func 76) #[] #[.pointer (some ⟨b, 0, none⟩)]) := (HN.out.2.cell (p := ⟨T, 29, none⟩) ht).trans (hc 4 (by decide))
      have cx : wr.cell? ⟨w.heap.size, 3, none⟩ = some (.int .i64 p.a3) := by rw [bk_cell HG.out.1]; rfl
      have B1 : ∀ o, Below wr.heap.size wr (wr.alloc o) := fun o => (Below.refl _ _).alloc (Nat.le_refl _) o
      have CV := (numV b w.heap.size 3 1 16384 p.a3 (wr.alloc (.cells #[.int .i64 5, .func (.func 73) #[] #[.pointer (some ⟨b, 0, none⟩), .pointer (some ⟨(b + 1), 0, none⟩), .pointer (some ⟨(b + 2), 0, none⟩)], .func (.func 74) #[] #[], .func (.func 75) #[] #[.pointer (some ⟨b, 0, none⟩)], .func (.func 76) #[] #[.pointer (some ⟨b, 0, none⟩)]] 78)) (((B1 _).cell (p := ⟨b, 0, none⟩) l0).trans h0) (((B1 _).cell (p := ⟨b + 1, 0, none⟩) l1).trans h1) (((B1 _).cell (p := ⟨b + 2, 0, none⟩) l2).trans h2) (((B1 _).cell (p := ⟨w.heap.size, 3, none⟩) (Array.getElem?_eq_some_iff.1 HG.out.1).1).trans cx)).mono (fun e w' h => And.intro h.1 (drewN_belowP h.2))
      obtain ⟨t, et⟩ : ∃ t : Bool, t = (btw 1 16384 p.a3) := ⟨_, rfl⟩
      rw [← et] at CV
      have HV : Hid _ := And.intro CV (And.intro et (B1 (.cells #[.int .i64 5, .func (.func 73) #[] #[.pointer (some ⟨b, 0, none⟩), .pointer (some ⟨(b + 1), 0, none⟩), .pointer (some ⟨(b + 2), 0, none⟩)], .func (.func 74) #[] #[], .func (.func 75) #[] #[.pointer (some ⟨b, 0, none⟩)], .func (.func 76) #[] #[.pointer (some ⟨b, 0, none⟩)]] 78)))
      clear CV et hc hz hE B1 h0 u0 l0 h1 u1 l1 h2 u2 l2 cx
      cases t
      · go_wp2_with (go_at_call 73; refine HV.out.1.mono ?_; rintro e w2 ⟨rfl, b2⟩)
        go_ret
        refine ⟨?_, (H1.out.2.1.trans (HN.out.2.mono H1.out.2.1.size)).trans ((HV.out.2.2.trans (b2.mono HV.out.2.2.size)).mono (Nat.le_trans H1.out.2.1.size HN.out.2.size))⟩
        rw [H0.out.2.2.2.2.1, pok_false p s 5 HV.out.2.1.symm]
        rfl
      · go_wp2_with (go_at_call 73; refine HV.out.1.mono ?_; rintro e w2 ⟨rfl, b2⟩)
        go_roundg (13 - (5 + 1))
        case measure => omega
        case rel =>
          refine ⟨6, by omega, rfl, by go_num, HN.out.2.trans ((HV.out.2.2.trans (b2.mono HV.out.2.2.size)).mono HN.out.2.size), fun j hj => ?_⟩
          by_cases hjk : j < 5
          · exact HN.out.1 j hjk
          · obtain rfl : j = 5 := by omega
            exact HV.out.2.1.symm
    · obtain ⟨cs, ⟨hz, hc⟩, hE⟩ := H1.out.1.e6
      obtain ⟨b, rfl, h0, u0, l0, h1, u1, l1, h2, u2, l2⟩ := NumE.below HN.out.2 hE
      have ht : T < w1.heap.size := H1.out.1.lt.2
      have t0 : wr.cell? ⟨T, 30, none⟩ = some (.int .i64 8) := (HN.out.2.cell (p := ⟨T, 30, none⟩) ht).trans (hc 0 (by decide))
      have t1 : wr.cell? ⟨T, 31, none⟩ = some (.func (.func 73) #[] #[.pointer (some ⟨b, 0, none⟩), .pointer (some ⟨(b + 1), 0, none⟩), .pointer (some ⟨(b + 2), 0, none⟩)]) := (HN.out.2.cell (p := ⟨T, 31, none⟩) ht).trans (hc 1 (by decide))
      have t2 : wr.cell? ⟨T, 32, none⟩ = some (.func (.func 74) #[] #[]) := (HN.out.2.cell (p := ⟨T, 32, none⟩) ht).trans (hc 2 (by decide))
      have t3 : wr.cell? ⟨T, 33, none⟩ = some (.func (.func 75) #[] #[.pointer (some ⟨b, 0, none⟩)]) := (HN.out.2.cell (p := ⟨T, 33, none⟩) ht).trans (hc 3 (by decide))
      have t4 : wr.cell? ⟨T, 34, none⟩ = some (.func (.func 76) #[] #[.pointer (some ⟨b, 0, none⟩)]) := (HN.out.2.cell (p := ⟨T, 34, none⟩) ht).trans (hc 4 (by decide))
      have cx : wr.cell? ⟨w.heap.size, 4, none⟩ = some (.int .i64 p.a4) := by rw [bk_cell HG.out.1]; rfl
      have B1 : ∀ o, Below wr.heap.size wr (wr.alloc o) := fun o => (Below.refl _ _).alloc (Nat.le_refl _) o
      have CV := (numV b w.heap.size 4 0 64 p.a4 (wr.alloc (.cells #[.int .i64 8, .func (.func 73) #[] #[.pointer (some ⟨b, 0, none⟩), .pointer (some ⟨(b + 1), 0, none⟩), .pointer (some ⟨(b + 2), 0, none⟩)], .func (.func 74) #[] #[], .func (.func 75) #[] #[.pointer (some ⟨b, 0, none⟩)], .func (.func 76) #[] #[.pointer (some ⟨b, 0, none⟩)]] 78)) (((B1 _).cell (p := ⟨b, 0, none⟩) l0).trans h0) (((B1 _).cell (p := ⟨b + 1, 0, none⟩) l1).trans h1) (((B1 _).cell (p := ⟨b + 2, 0, none⟩) l2).trans h2) (((B1 _).cell (p := ⟨w.heap.size, 4, none⟩) (Array.getElem?_eq_some_iff.1 HG.out.1).1).trans cx)).mono (fun e w' h => And.intro h.1 (drewN_belowP h.2))
      obtain ⟨t, et⟩ : ∃ t : Bool, t = (btw 0 64 p.a4) := ⟨_, rfl⟩
      rw [← et] at CV
      have HV : Hid _ := And.intro CV (And.intro et (B1 (.cells #[.int .i64 8, .func (.func 73) #[] #[.pointer (some ⟨b, 0, none⟩), .pointer (some ⟨(b + 1), 0, none⟩), .pointer (some ⟨(b + 2), 0, none⟩)], .func (.func 74) #[] #[], .func (.func 75) #[] #[.pointer (some ⟨b, 0, none⟩)], .func (.func 76) #[] #[.pointer (some ⟨b, 0, none⟩)]] 78)))
      clear CV et hc hz hE B1 h0 u0 l0 h1 u1 l1 h2 u2 l2 cx
      cases t
      · go_wp2_with (go_at_call 73; refine HV.out.1.mono ?_; rintro e w2 ⟨rfl, b2⟩)
        go_ret
        refine ⟨?_, (H1.out.2.1.trans (HN.out.2.mono H1.out.2.1.size)).trans ((HV.out.2.2.trans (b2.mono HV.out.2.2.size)).mono (Nat.le_trans H1.out.2.1.size HN.out.2.size))⟩
        rw [H0.out.2.2.2.2.1, pok_false p s 6 HV.out.2.1.symm]
        rfl
      · go_wp2_with (go_at_call 73; refine HV.out.1.mono ?_; rintro e w2 ⟨rfl, b2⟩)
        go_roundg (13 - (6 + 1))
        case measure => omega
        case rel =>
          refine ⟨7, by omega, rfl, by go_num, HN.out.2.trans ((HV.out.2.2.trans (b2.mono HV.out.2.2.size)).mono HN.out.2.size), fun j hj => ?_⟩
          by_cases hjk : j < 6
          · exact HN.out.1 j hjk
          · obtain rfl : j = 6 := by omega
            exact HV.out.2.1.symm
    · obtain ⟨cs, ⟨hz, hc⟩, hE⟩ := H1.out.1.e7
      obtain ⟨b, rfl, h0, u0, l0, h1, u1, l1, h2, u2, l2⟩ := NumE.below HN.out.2 hE
      have ht : T < w1.heap.size := H1.out.1.lt.2
      have t0 : wr.cell? ⟨T, 35, none⟩ = some (.int .i64 9) := (HN.out.2.cell (p := ⟨T, 35, none⟩) ht).trans (hc 0 (by decide))
      have t1 : wr.cell? ⟨T, 36, none⟩ = some (.func (.func 73) #[] #[.pointer (some ⟨b, 0, none⟩), .pointer (some ⟨(b + 1), 0, none⟩), .pointer (some ⟨(b + 2), 0, none⟩)]) := (HN.out.2.cell (p := ⟨T, 36, none⟩) ht).trans (hc 1 (by decide))
      have t2 : wr.cell? ⟨T, 37, none⟩ = some (.func (.func 74) #[] #[]) := (HN.out.2.cell (p := ⟨T, 37, none⟩) ht).trans (hc 2 (by decide))
      have t3 : wr.cell? ⟨T, 38, none⟩ = some (.func (.func 75) #[] #[.pointer (some ⟨b, 0, none⟩)]) := (HN.out.2.cell (p := ⟨T, 38, none⟩) ht).trans (hc 3 (by decide))
      have t4 : wr.cell? ⟨T, 39, none⟩ = some (.func (.func 76) #[] #[.pointer (some ⟨b, 0, none⟩)]) := (HN.out.2.cell (p := ⟨T, 39, none⟩) ht).trans (hc 4 (by decide))
      have cx : wr.cell? ⟨w.heap.size, 5, none⟩ = some (.int .i64 p.a5) := by rw [bk_cell HG.out.1]; rfl
      have B1 : ∀ o, Below wr.heap.size wr (wr.alloc o) := fun o => (Below.refl _ _).alloc (Nat.le_refl _) o
      have CV := (numV b w.heap.size 5 0 64 p.a5 (wr.alloc (.cells #[.int .i64 9, .func (.func 73) #[] #[.pointer (some ⟨b, 0, none⟩), .pointer (some ⟨(b + 1), 0, none⟩), .pointer (some ⟨(b + 2), 0, none⟩)], .func (.func 74) #[] #[], .func (.func 75) #[] #[.pointer (some ⟨b, 0, none⟩)], .func (.func 76) #[] #[.pointer (some ⟨b, 0, none⟩)]] 78)) (((B1 _).cell (p := ⟨b, 0, none⟩) l0).trans h0) (((B1 _).cell (p := ⟨b + 1, 0, none⟩) l1).trans h1) (((B1 _).cell (p := ⟨b + 2, 0, none⟩) l2).trans h2) (((B1 _).cell (p := ⟨w.heap.size, 5, none⟩) (Array.getElem?_eq_some_iff.1 HG.out.1).1).trans cx)).mono (fun e w' h => And.intro h.1 (drewN_belowP h.2))
      obtain ⟨t, et⟩ : ∃ t : Bool, t = (btw 0 64 p.a5) := ⟨_, rfl⟩
      rw [← et] at CV
      have HV : Hid _ := And.intro CV (And.intro et (B1 (.cells #[.int .i64 9, .func (.func 73) #[] #[.pointer (some ⟨b, 0, none⟩), .pointer (some ⟨(b + 1), 0, none⟩), .pointer (some ⟨(b + 2), 0, none⟩)], .func (.func 74) #[] #[], .func (.func 75) #[] #[.pointer (some ⟨b, 0, none⟩)], .func (.func 76) #[] #[.pointer (some ⟨b, 0, none⟩)]] 78)))
      clear CV et hc hz hE B1 h0 u0 l0 h1 u1 l1 h2 u2 l2 cx
      cases t
      · go_wp2_with (go_at_call 73; refine HV.out.1.mono ?_; rintro e w2 ⟨rfl, b2⟩)
        go_ret
        refine ⟨?_, (H1.out.2.1.trans (HN.out.2.mono H1.out.2.1.size)).trans ((HV.out.2.2.trans (b2.mono HV.out.2.2.size)).mono (Nat.le_trans H1.out.2.1.size HN.out.2.size))⟩
        rw [H0.out.2.2.2.2.1, pok_false p s 7 HV.out.2.1.symm]
        rfl
      · go_wp2_with (go_at_call 73; refine HV.out.1.mono ?_; rintro e w2 ⟨rfl, b2⟩)
        go_roundg (13 - (7 + 1))
        case measure => omega
        case rel =>
          refine ⟨8, by omega, rfl, by go_num, HN.out.2.trans ((HV.out.2.2.trans (b2.mono HV.out.2.2.size)).mono HN.out.2.size), fun j hj => ?_⟩
          by_cases hjk : j < 7
          · exact HN.out.1 j hjk
          · obtain rfl : j = 7 := by omega
            exact HV.out.2.1.symm
    · obtain ⟨cs, ⟨hz, hc⟩, hE⟩ := H1.out.1.e8
      obtain ⟨b, rfl, h0, u0, l0, h1, u1, l1, h2, u2, l2⟩ := NumE.below HN.out.2 hE
      have ht : T < w1.heap.size := H1.out.1.lt.2
      have t0 : wr.cell? ⟨T, 40, none⟩ = some (.int .i64 11) := (HN.out.2.cell (p := ⟨T, 40, none⟩) ht).trans (hc 0 (by decide))
      have t1 : wr.cell? ⟨T, 41, none⟩ = some (.func (.func 73) #[] #[.pointer (some ⟨b, 0, none⟩), .pointer (some ⟨(b + 1), 0, none⟩), .pointer (some ⟨(b + 2), 0, none⟩)]) := (HN.out.2.cell (p := ⟨T, 41, none⟩) ht).trans (hc 1 (by decide))
      have t2 : wr.cell? ⟨T, 42, none⟩ = some (.func (.func 74) #[] #[]) := (HN.out.2.cell (p := ⟨T, 42, none⟩) ht).trans (hc 2 (by decide))
      have t3 : wr.cell? ⟨T, 43, none⟩ = some (.func (.func 75) #[] #[.pointer (some ⟨b, 0, none⟩)]) := (HN.out.2.cell (p := ⟨T, 43, none⟩) ht).trans (hc 3 (by decide))
      have t4 : wr.cell? ⟨T, 44, none⟩ = some (.func (.func 76) #[] #[.pointer (some ⟨b, 0, none⟩)]) := (HN.out.2.cell (p := ⟨T, 44, none⟩) ht).trans (hc 4 (by decide))
      have cx : wr.cell? ⟨w.heap.size, 6, none⟩ = some (.int .i64 p.a6) := by rw [bk_cell HG.out.1]; rfl
      have B1 : ∀ o, Below wr.heap.size wr (wr.alloc o) := fun o => (Below.refl _ _).alloc (Nat.le_refl _) o
      have CV := (numV b w.heap.size 6 0 1000000 p.a6 (wr.alloc (.cells #[.int .i64 11, .func (.func 73) #[] #[.pointer (some ⟨b, 0, none⟩), .pointer (some ⟨(b + 1), 0, none⟩), .pointer (some ⟨(b + 2), 0, none⟩)], .func (.func 74) #[] #[], .func (.func 75) #[] #[.pointer (some ⟨b, 0, none⟩)], .func (.func 76) #[] #[.pointer (some ⟨b, 0, none⟩)]] 78)) (((B1 _).cell (p := ⟨b, 0, none⟩) l0).trans h0) (((B1 _).cell (p := ⟨b + 1, 0, none⟩) l1).trans h1) (((B1 _).cell (p := ⟨b + 2, 0, none⟩) l2).trans h2) (((B1 _).cell (p := ⟨w.heap.size, 6, none⟩) (Array.getElem?_eq_some_iff.1 HG.out.1).1).trans cx)).mono (fun e w' h => And.intro h.1 (drewN_belowP h.2))
      obtain ⟨t, et⟩ : ∃ t : Bool, t = (btw 0 1000000 p.a6) := ⟨_, rfl⟩
      rw [← et] at CV
      have HV : Hid _ := And.intro CV (And.intro et (B1 (.cells #[.int .i64 11, .func (.func 73) #[] #[.pointer (some ⟨b, 0, none⟩), .pointer (some ⟨(b + 1), 0, none⟩), .pointer (some ⟨(b + 2), 0, none⟩)], .func (.func 74) #[] #[], .func (.func 75) #[] #[.pointer (some ⟨b, 0, none⟩)], .func (.func 76) #[] #[.pointer (some ⟨b, 0, none⟩)]] 78)))
      clear CV et hc hz hE B1 h0 u0 l0 h1 u1 l1 h2 u2 l2 cx
      cases t
      · go_wp2_with (go_at_call 73; refine HV.out.1.mono ?_; rintro e w2 ⟨rfl, b2⟩)
        go_ret
        refine ⟨?_, (H1.out.2.1.trans (HN.out.2.mono H1.out.2.1.size)).trans ((HV.out.2.2.trans (b2.mono HV.out.2.2.size)).mono (Nat.le_trans H1.out.2.1.size HN.out.2.size))⟩
        rw [H0.out.2.2.2.2.1, pok_false p s 8 HV.out.2.1.symm]
        rfl
      · go_wp2_with (go_at_call 73; refine HV.out.1.mono ?_; rintro e w2 ⟨rfl, b2⟩)
        go_roundg (13 - (8 + 1))
        case measure => omega
        case rel =>
          refine ⟨9, by omega, rfl, by go_num, HN.out.2.trans ((HV.out.2.2.trans (b2.mono HV.out.2.2.size)).mono HN.out.2.size), fun j hj => ?_⟩
          by_cases hjk : j < 8
          · exact HN.out.1 j hjk
          · obtain rfl : j = 8 := by omega
            exact HV.out.2.1.symm
    · obtain ⟨cs, ⟨hz, hc⟩, hE⟩ := H1.out.1.e9
      obtain ⟨b, rfl, h0, u0, l0⟩ := FlgE.below HN.out.2 hE
      have ht : T < w1.heap.size := H1.out.1.lt.2
      have t0 : wr.cell? ⟨T, 45, none⟩ = some (.int .i64 12) := (HN.out.2.cell (p := ⟨T, 45, none⟩) ht).trans (hc 0 (by decide))
      have t1 : wr.cell? ⟨T, 46, none⟩ = some (.func (.func 74) #[] #[]) := (HN.out.2.cell (p := ⟨T, 46, none⟩) ht).trans (hc 1 (by decide))
      have t2 : wr.cell? ⟨T, 47, none⟩ = some (.func (.func 81) #[] #[.pointer (some ⟨b, 0, none⟩)]) := (HN.out.2.cell (p := ⟨T, 47, none⟩) ht).trans (hc 2 (by decide))
      have t3 : wr.cell? ⟨T, 48, none⟩ = some (.func (.func 82) #[] #[]) := (HN.out.2.cell (p := ⟨T, 48, none⟩) ht).trans (hc 3 (by decide))
      have t4 : wr.cell? ⟨T, 49, none⟩ = some (.func (.func 83) #[] #[.pointer (some ⟨b, 0, none⟩)]) := (HN.out.2.cell (p := ⟨T, 49, none⟩) ht).trans (hc 4 (by decide))
      have B1 : ∀ o, Below wr.heap.size wr (wr.alloc o) := fun o => (Below.refl _ _).alloc (Nat.le_refl _) o
      have CV := (alwaysC (wr.alloc (.cells #[.int .i64 12, .func (.func 74) #[] #[], .func (.func 81) #[] #[.pointer (some ⟨b, 0, none⟩)], .func (.func 82) #[] #[], .func (.func 83) #[] #[.pointer (some ⟨b, 0, none⟩)]] 78))).mono (fun e w' h => And.intro h.1 (eq_belowP h.2))
      have et : true = true := rfl
      have HV : Hid _ := And.intro CV (And.intro et (B1 (.cells #[.int .i64 12, .func (.func 74) #[] #[], .func (.func 81) #[] #[.pointer (some ⟨b, 0, none⟩)], .func (.func 82) #[] #[], .func (.func 83) #[] #[.pointer (some ⟨b, 0, none⟩)]] 78)))
      clear CV et hc hz hE B1 h0 u0 l0
      go_wp2_with (go_at_call 74; refine HV.out.1.mono ?_; rintro e w2 ⟨rfl, b2⟩)
      go_roundg (13 - (9 + 1))
      case measure => omega
      case rel =>
        refine ⟨10, by omega, rfl, by go_num, HN.out.2.trans ((HV.out.2.2.trans (b2.mono HV.out.2.2.size)).mono HN.out.2.size), fun j hj => ?_⟩
        by_cases hjk : j < 9
        · exact HN.out.1 j hjk
        · obtain rfl : j = 9 := by omega
          rfl
    · obtain ⟨cs, ⟨hz, hc⟩, hE⟩ := H1.out.1.e10
      obtain ⟨b, rfl, h0, u0, l0, h1, u1, l1, h2, u2, l2⟩ := NumE.below HN.out.2 hE
      have ht : T < w1.heap.size := H1.out.1.lt.2
      have t0 : wr.cell? ⟨T, 50, none⟩ = some (.int .i64 14) := (HN.out.2.cell (p := ⟨T, 50, none⟩) ht).trans (hc 0 (by decide))
      have t1 : wr.cell? ⟨T, 51, none⟩ = some (.func (.func 73) #[] #[.pointer (some ⟨b, 0, none⟩), .pointer (some ⟨(b + 1), 0, none⟩), .pointer (some ⟨(b + 2), 0, none⟩)]) := (HN.out.2.cell (p := ⟨T, 51, none⟩) ht).trans (hc 1 (by decide))
      have t2 : wr.cell? ⟨T, 52, none⟩ = some (.func (.func 74) #[] #[]) := (HN.out.2.cell (p := ⟨T, 52, none⟩) ht).trans (hc 2 (by decide))
      have t3 : wr.cell? ⟨T, 53, none⟩ = some (.func (.func 75) #[] #[.pointer (some ⟨b, 0, none⟩)]) := (HN.out.2.cell (p := ⟨T, 53, none⟩) ht).trans (hc 3 (by decide))
      have t4 : wr.cell? ⟨T, 54, none⟩ = some (.func (.func 76) #[] #[.pointer (some ⟨b, 0, none⟩)]) := (HN.out.2.cell (p := ⟨T, 54, none⟩) ht).trans (hc 4 (by decide))
      have cx : wr.cell? ⟨w.heap.size, 7, none⟩ = some (.int .i64 p.a7) := by rw [bk_cell HG.out.1]; rfl
      have B1 : ∀ o, Below wr.heap.size wr (wr.alloc o) := fun o => (Below.refl _ _).alloc (Nat.le_refl _) o
      have CV := (numV b w.heap.size 7 2 16 p.a7 (wr.alloc (.cells #[.int .i64 14, .func (.func 73) #[] #[.pointer (some ⟨b, 0, none⟩), .pointer (some ⟨(b + 1), 0, none⟩), .pointer (some ⟨(b + 2), 0, none⟩)], .func (.func 74) #[] #[], .func (.func 75) #[] #[.pointer (some ⟨b, 0, none⟩)], .func (.func 76) #[] #[.pointer (some ⟨b, 0, none⟩)]] 78)) (((B1 _).cell (p := ⟨b, 0, none⟩) l0).trans h0) (((B1 _).cell (p := ⟨b + 1, 0, none⟩) l1).trans h1) (((B1 _).cell (p := ⟨b + 2, 0, none⟩) l2).trans h2) (((B1 _).cell (p := ⟨w.heap.size, 7, none⟩) (Array.getElem?_eq_some_iff.1 HG.out.1).1).trans cx)).mono (fun e w' h => And.intro h.1 (drewN_belowP h.2))
      obtain ⟨t, et⟩ : ∃ t : Bool, t = (btw 2 16 p.a7) := ⟨_, rfl⟩
      rw [← et] at CV
      have HV : Hid _ := And.intro CV (And.intro et (B1 (.cells #[.int .i64 14, .func (.func 73) #[] #[.pointer (some ⟨b, 0, none⟩), .pointer (some ⟨(b + 1), 0, none⟩), .pointer (some ⟨(b + 2), 0, none⟩)], .func (.func 74) #[] #[], .func (.func 75) #[] #[.pointer (some ⟨b, 0, none⟩)], .func (.func 76) #[] #[.pointer (some ⟨b, 0, none⟩)]] 78)))
      clear CV et hc hz hE B1 h0 u0 l0 h1 u1 l1 h2 u2 l2 cx
      cases t
      · go_wp2_with (go_at_call 73; refine HV.out.1.mono ?_; rintro e w2 ⟨rfl, b2⟩)
        go_ret
        refine ⟨?_, (H1.out.2.1.trans (HN.out.2.mono H1.out.2.1.size)).trans ((HV.out.2.2.trans (b2.mono HV.out.2.2.size)).mono (Nat.le_trans H1.out.2.1.size HN.out.2.size))⟩
        rw [H0.out.2.2.2.2.1, pok_false p s 10 HV.out.2.1.symm]
        rfl
      · go_wp2_with (go_at_call 73; refine HV.out.1.mono ?_; rintro e w2 ⟨rfl, b2⟩)
        go_roundg (13 - (10 + 1))
        case measure => omega
        case rel =>
          refine ⟨11, by omega, rfl, by go_num, HN.out.2.trans ((HV.out.2.2.trans (b2.mono HV.out.2.2.size)).mono HN.out.2.size), fun j hj => ?_⟩
          by_cases hjk : j < 10
          · exact HN.out.1 j hjk
          · obtain rfl : j = 10 := by omega
            exact HV.out.2.1.symm
    · obtain ⟨cs, ⟨hz, hc⟩, hE⟩ := H1.out.1.e11
      obtain ⟨b, rfl, h0, u0, l0, h1, u1, l1⟩ := LstE.below HN.out.2 hE
      have ht : T < w1.heap.size := H1.out.1.lt.2
      have t0 : wr.cell? ⟨T, 55, none⟩ = some (.int .i64 15) := (HN.out.2.cell (p := ⟨T, 55, none⟩) ht).trans (hc 0 (by decide))
      have t1 : wr.cell? ⟨T, 56, none⟩ = some (.func (.func 86) #[] #[.pointer (some ⟨(b + 1), 0, none⟩), .pointer (some ⟨b, 0, none⟩)]) := (HN.out.2.cell (p := ⟨T, 56, none⟩) ht).trans (hc 1 (by decide))
      have t2 : wr.cell? ⟨T, 57, none⟩ = some (.func (.func 74) #[] #[]) := (HN.out.2.cell (p := ⟨T, 57, none⟩) ht).trans (hc 2 (by decide))
      have t3 : wr.cell? ⟨T, 58, none⟩ = some (.func (.func 87) #[] #[.pointer (some ⟨b, 0, none⟩)]) := (HN.out.2.cell (p := ⟨T, 58, none⟩) ht).trans (hc 3 (by decide))
      have t4 : wr.cell? ⟨T, 59, none⟩ = some (.func (.func 88) #[] #[.pointer (some ⟨b, 0, none⟩)]) := (HN.out.2.cell (p := ⟨T, 59, none⟩) ht).trans (hc 4 (by decide))
      have cx : wr.cell? ⟨w.heap.size, 12, none⟩ = some (.slice d4 p.f.length p4) := by rw [bk_cell HG.out.1]; rfl
      have B1 : ∀ o, Below wr.heap.size wr (wr.alloc o) := fun o => (Below.refl _ _).alloc (Nat.le_refl _) o
      have CV := fstV b w.heap.size 12 d4 p.f.length p4 (wr.alloc (.cells #[.int .i64 15, .func (.func 86) #[] #[.pointer (some ⟨(b + 1), 0, none⟩), .pointer (some ⟨b, 0, none⟩)], .func (.func 74) #[] #[], .func (.func 87) #[] #[.pointer (some ⟨b, 0, none⟩)], .func (.func 88) #[] #[.pointer (some ⟨b, 0, none⟩)]] 78)) H0.out.2.2.2.2.2.2.2.2 (((B1 _).cell (p := ⟨b, 0, none⟩) l0).trans h0) (((B1 _).cell (p := ⟨b + 1, 0, none⟩) l1).trans h1) (((B1 _).cell (p := ⟨w.heap.size, 12, none⟩) (Array.getElem?_eq_some_iff.1 HG.out.1).1).trans cx)
      obtain ⟨t, et⟩ : ∃ t : Bool, t = (decide (p.f.length ≤ 8)) := ⟨_, rfl⟩
      rw [← et] at CV
      have HV : Hid _ := And.intro CV (And.intro et (B1 (.cells #[.int .i64 15, .func (.func 86) #[] #[.pointer (some ⟨(b + 1), 0, none⟩), .pointer (some ⟨b, 0, none⟩)], .func (.func 74) #[] #[], .func (.func 87) #[] #[.pointer (some ⟨b, 0, none⟩)], .func (.func 88) #[] #[.pointer (some ⟨b, 0, none⟩)]] 78)))
      clear CV et hc hz hE B1 h0 u0 l0 h1 u1 l1 cx
      cases t
      · go_wp2_with (go_at_call 86; refine HV.out.1.mono ?_; rintro e w2 ⟨rfl, b2⟩)
        go_ret
        refine ⟨?_, (H1.out.2.1.trans (HN.out.2.mono H1.out.2.1.size)).trans ((HV.out.2.2.trans (b2.mono HV.out.2.2.size)).mono (Nat.le_trans H1.out.2.1.size HN.out.2.size))⟩
        rw [H0.out.2.2.2.2.1, pok_false p s 11 HV.out.2.1.symm]
        rfl
      · go_wp2_with (go_at_call 86; refine HV.out.1.mono ?_; rintro e w2 ⟨rfl, b2⟩)
        go_roundg (13 - (11 + 1))
        case measure => omega
        case rel =>
          refine ⟨12, by omega, rfl, by go_num, HN.out.2.trans ((HV.out.2.2.trans (b2.mono HV.out.2.2.size)).mono HN.out.2.size), fun j hj => ?_⟩
          by_cases hjk : j < 11
          · exact HN.out.1 j hjk
          · obtain rfl : j = 11 := by omega
            exact HV.out.2.1.symm
    · obtain ⟨cs, ⟨hz, hc⟩, hE⟩ := H1.out.1.e12
      obtain ⟨b, rfl, h0, u0, l0, h1, u1, l1, h2, u2, l2⟩ := NumE.below HN.out.2 hE
      have ht : T < w1.heap.size := H1.out.1.lt.2
      have t0 : wr.cell? ⟨T, 60, none⟩ = some (.int .i64 32) := (HN.out.2.cell (p := ⟨T, 60, none⟩) ht).trans (hc 0 (by decide))
      have t1 : wr.cell? ⟨T, 61, none⟩ = some (.func (.func 73) #[] #[.pointer (some ⟨b, 0, none⟩), .pointer (some ⟨(b + 1), 0, none⟩), .pointer (some ⟨(b + 2), 0, none⟩)]) := (HN.out.2.cell (p := ⟨T, 61, none⟩) ht).trans (hc 1 (by decide))
      have t2 : wr.cell? ⟨T, 62, none⟩ = some (.func (.func 74) #[] #[]) := (HN.out.2.cell (p := ⟨T, 62, none⟩) ht).trans (hc 2 (by decide))
      have t3 : wr.cell? ⟨T, 63, none⟩ = some (.func (.func 75) #[] #[.pointer (some ⟨b, 0, none⟩)]) := (HN.out.2.cell (p := ⟨T, 63, none⟩) ht).trans (hc 3 (by decide))
      have t4 : wr.cell? ⟨T, 64, none⟩ = some (.func (.func 76) #[] #[.pointer (some ⟨b, 0, none⟩)]) := (HN.out.2.cell (p := ⟨T, 64, none⟩) ht).trans (hc 4 (by decide))
      have cx : wr.cell? ⟨w.heap.size, 8, none⟩ = some (.int .i64 p.a8) := by rw [bk_cell HG.out.1]; rfl
      have B1 : ∀ o, Below wr.heap.size wr (wr.alloc o) := fun o => (Below.refl _ _).alloc (Nat.le_refl _) o
      have CV := (numV b w.heap.size 8 0 1500 p.a8 (wr.alloc (.cells #[.int .i64 32, .func (.func 73) #[] #[.pointer (some ⟨b, 0, none⟩), .pointer (some ⟨(b + 1), 0, none⟩), .pointer (some ⟨(b + 2), 0, none⟩)], .func (.func 74) #[] #[], .func (.func 75) #[] #[.pointer (some ⟨b, 0, none⟩)], .func (.func 76) #[] #[.pointer (some ⟨b, 0, none⟩)]] 78)) (((B1 _).cell (p := ⟨b, 0, none⟩) l0).trans h0) (((B1 _).cell (p := ⟨b + 1, 0, none⟩) l1).trans h1) (((B1 _).cell (p := ⟨b + 2, 0, none⟩) l2).trans h2) (((B1 _).cell (p := ⟨w.heap.size, 8, none⟩) (Array.getElem?_eq_some_iff.1 HG.out.1).1).trans cx)).mono (fun e w' h => And.intro h.1 (drewN_belowP h.2))
      obtain ⟨t, et⟩ : ∃ t : Bool, t = (btw 0 1500 p.a8) := ⟨_, rfl⟩
      rw [← et] at CV
      have HV : Hid _ := And.intro CV (And.intro et (B1 (.cells #[.int .i64 32, .func (.func 73) #[] #[.pointer (some ⟨b, 0, none⟩), .pointer (some ⟨(b + 1), 0, none⟩), .pointer (some ⟨(b + 2), 0, none⟩)], .func (.func 74) #[] #[], .func (.func 75) #[] #[.pointer (some ⟨b, 0, none⟩)], .func (.func 76) #[] #[.pointer (some ⟨b, 0, none⟩)]] 78)))
      clear CV et hc hz hE B1 h0 u0 l0 h1 u1 l1 h2 u2 l2 cx
      cases t
      · go_wp2_with (go_at_call 73; refine HV.out.1.mono ?_; rintro e w2 ⟨rfl, b2⟩)
        go_ret
        refine ⟨?_, (H1.out.2.1.trans (HN.out.2.mono H1.out.2.1.size)).trans ((HV.out.2.2.trans (b2.mono HV.out.2.2.size)).mono (Nat.le_trans H1.out.2.1.size HN.out.2.size))⟩
        rw [H0.out.2.2.2.2.1, pok_false p s 12 HV.out.2.1.symm]
        rfl
      · go_wp2_with (go_at_call 73; refine HV.out.1.mono ?_; rintro e w2 ⟨rfl, b2⟩)
        go_roundg (13 - (12 + 1))
        case measure => omega
        case rel =>
          refine ⟨13, by omega, rfl, by go_num, HN.out.2.trans ((HV.out.2.2.trans (b2.mono HV.out.2.2.size)).mono HN.out.2.size), fun j hj => ?_⟩
          by_cases hjk : j < 12
          · exact HN.out.1 j hjk
          · obtain rfl : j = 12 := by omega
            exact HV.out.2.1.symm
end Go.Proofs.YtcljchbceeiheaaDoor
