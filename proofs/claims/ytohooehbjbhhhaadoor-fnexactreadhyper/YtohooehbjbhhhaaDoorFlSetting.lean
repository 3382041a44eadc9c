import Derived.Test.YtohooehbjbhhhaaDoorFlat
namespace Go.Proofs.YtohooehbjbhhhaaDoor
open Go.RowKit
set_option linter.unusedVariables false

/-- Setting: its numbers. -/
structure SSetting where
  f0 : Int
  f1 : Int
instance : Inhabited SSetting := ⟨⟨0, 0⟩⟩
def SSetting.c (e : SSetting) : List Value := [.int .i64 e.f0, .int .i64 e.f1]
abbrev SSetting.L (L : List SSetting) : List (List Value) := L.map SSetting.c
theorem SSetting.at (L : List SSetting) (j : Nat) (h : j < L.length) : (SSetting.L L).getD j [] = (L.getD j default).c := map_at _ L default j h
theorem infoSetting : (Tryd.prog.info? 40).map (fun i => (i.zero, i.size, i.bytes)) = some (some (.agg #[.int .i64 0, .int .i64 0]), 2, 16) := by kernel_rfl
theorem eqSetting (x0 : Int) (x1 : Int) (w : World) : Calls Tryd.prog 40 #[(.agg #[.int .i64 x0, .int .i64 x1]), (.agg #[.int .i64 x0, .int .i64 x1])] w fun e w' => e = .returned (.bool true) ∧ Below w.heap.size w w' := by
  have h0 : (x0 != x0) = false := by simp
  have h1 : (x1 != x1) = false := by simp
  go_enter Tryd.func40, Tryd.ntmps40
  go_wp2
  go_ret
  exact ⟨rfl, ((Below.refl _ _).alloc (Nat.le_refl _) _).alloc (by simp) _⟩
theorem eqSettingS_nil (va vb : Value) (w : World) (ha : GRow 2 w va []) (hb : GRow 2 w vb []) :
    Calls Tryd.prog 24 #[va, vb] w fun e w' => e = .returned (.bool true) ∧ Below w.heap.size w w' := by
  obtain ⟨ao, ca, rfl⟩ := ha.form
  obtain ⟨bo, cb, rfl⟩ := hb.form
  clear ha hb
  go_enter Tryd.func24, Tryd.ntmps24
  go_wp2_with fail
  refine wp_loop_rounds 1 ?_
  rw [rounds_succ]
  go_wp2
  go_ret
  exact ⟨rfl, Below.refl _ _⟩
set_option maxRecDepth 20000 in
set_option maxHeartbeats 4000000 in
theorem eqSettingS_core (L : List SSetting) (m b off ca b' off' cb : Nat) (w : World) (hm : m ≤ 1048576) (hbl : b < w.heap.size) (hbl' : b' < w.heap.size)
    (hc : ∀ j, j < m → ∀ f, f < 2 → w.cell? ⟨b, off + (j * 2 + f), none⟩ = ((L.getD j default).c)[f]?) (hc' : ∀ j, j < m → ∀ f, f < 2 → w.cell? ⟨b', off' + (j * 2 + f), none⟩ = ((L.getD j default).c)[f]?) :
    Calls Tryd.prog 24 #[.slice (some ⟨b, off, none⟩) m ca, .slice (some ⟨b', off', none⟩) m cb] w fun e w' => e = .returned (.bool true) ∧ Below w.heap.size w w' := by
  have HH : Hid _ := And.intro hc hc'
  clear hc hc'
  have hmm : ((m : Int) != (m : Int)) = false := by simp
  go_enter Tryd.func24, Tryd.ntmps24
  go_wp2_with fail
  go_loopg [5] m (fun q i wr => ∃ k : Nat, k ≤ m ∧ q = m - k ∧ i = .int .i64 (k : Int) ∧ Below w.heap.size w wr)
  case atStart => exact ⟨0, by omega, by omega, rfl, Below.refl _ _⟩
  case round =>
    obtain ⟨k, hk, hq, rfl, bw⟩ := hrel
    by_cases hlt : k < m
    · have bd : Below w.heap.size w wr.drew := below_drewN bw 1
      obtain ⟨x0, ex0⟩ : ∃ x, x = (L.getD k default).f0 := ⟨_, rfl⟩
      obtain ⟨x1, ex1⟩ : ∃ x, x = (L.getD k default).f1 := ⟨_, rfl⟩
      have c0 : wr.drew.cell? ⟨b, off + k * 2, none⟩ = some (.int .i64 x0) := by have t := (bd.cell (p := ⟨b, off + (k * 2 + 0), none⟩) hbl).trans (HH.out.1 k hlt 0 (by omega)); rw [ex0]; exact t
      have d0 : wr.drew.cell? ⟨b', off' + k * 2, none⟩ = some (.int .i64 x0) := by have t := (bd.cell (p := ⟨b', off' + (k * 2 + 0), none⟩) hbl').trans (HH.out.2 k hlt 0 (by omega)); rw [ex0]; exact t
      have c1 : wr.drew.cell? ⟨b, off + k * 2 + 1, none⟩ = some (.int .i64 x1) := by have t := (bd.cell (p := ⟨b, off + (k * 2 + 1), none⟩) hbl).trans (HH.out.1 k hlt 1 (by omega)); rw [ex1]; exact t
      have d1 : wr.drew.cell? ⟨b', off' + k * 2 + 1, none⟩ = some (.int .i64 x1) := by have t := (bd.cell (p := ⟨b', off' + (k * 2 + 1), none⟩) hbl').trans (HH.out.2 k hlt 1 (by omega)); rw [ex1]; exact t
      have H4 : Hid _ := And.intro (eqSetting x0 x1 wr.drew) bd
      clear bd ex0 ex1
      go_upto_region 6 with fail
      go_cut [26] from 11 to 26 (fun cv wx => cv = .bool false ∧ Below w.heap.size w wx)
      case first =>
        go_region_with (go_at_call 40; refine H4.out.1.mono ?_; rintro e wz ⟨rfl, hz⟩)
        all_goals (go_wp2_with fail; go_meet; exact ⟨rfl, H4.out.2.trans (hz.mono H4.out.2.size)⟩)
      case rest =>
      obtain ⟨rfl, bc⟩ := hcut
      have H5 : Hid _ := And.intro bc True.intro
      clear bc bw c0 d0 c1 d1
      go_wp2
      go_roundg (m - (k + 1))
      case measure => omega
      case rel => exact ⟨k + 1, by omega, rfl, by go_num, H5.out.1⟩
    · have H4 : Hid _ := And.intro bw True.intro
      clear bw
      go_wp2
      go_ret
      exact ⟨rfl, H4.out.1⟩
theorem eqSettingS (va vb : Value) (L : List SSetting) (w : World) (ha : GRow 2 w va (SSetting.L L)) (hb : GRow 2 w vb (SSetting.L L)) (hm : L.length ≤ 1048576) :
    Calls Tryd.prog 24 #[va, vb] w fun e w' => e = .returned (.bool true) ∧ Below w.heap.size w w' := by
  by_cases h0 : 0 < L.length
  · obtain ⟨b, off, ca, rfl, hbl, hc⟩ := ha.at' (by rw [List.length_map]; exact h0)
    obtain ⟨b', off', cb, rfl, hbl', hc'⟩ := hb.at' (by rw [List.length_map]; exact h0)
    rw [List.length_map] at hc hc' ⊢
    exact eqSettingS_core L _ b off ca b' off' cb w hm hbl hbl' (fun j hj f hf => by rw [← SSetting.at L j hj]; exact hc j hj f hf) (fun j hj f hf => by rw [← SSetting.at L j hj]; exact hc' j hj f hf)
  · obtain rfl : L = [] := List.eq_nil_of_length_eq_zero (by omega)
    exact eqSettingS_nil va vb w ha hb
/-- What markSettingS writes. -/
def marksSetting (q : Int) (n : Nat) : List (List Value) := (List.range n).map fun (j : Nat) => [.int .i64 (q + 2 * (j : Int)), .int .i64 (q + 2 * (j : Int) + 1)]
theorem marksSetting_length (q : Int) (n : Nat) : (marksSetting q n).length = n := by simp [marksSetting]
theorem marksSetting_at (q : Int) (n j : Nat) (h : j < n) : (marksSetting q n).getD j [] = [.int .i64 (q + 2 * (j : Int)), .int .i64 (q + 2 * (j : Int) + 1)] := by simp [marksSetting, List.getD, h]
theorem markSettingS_nil (q : Int) (ao : Option Addr) (cp : Nat) (w : World) :
    Calls Tryd.prog 25 #[.slice ao 0 cp, .int .i64 q] w fun e w' => e = .returned (.int .i64 q) ∧ w' = w := by
  go_enter Tryd.func25, Tryd.ntmps25
  go_wp2
  refine wp_loop_rounds 1 ?_
  rw [rounds_succ]
  go_wp2
  go_ret
  exact ⟨rfl, rfl⟩
set_option maxRecDepth 20000 in
set_option maxHeartbeats 4000000 in
theorem markSettingS_core (q : Int) (n base g cap : Nat) (zs0 : List Value) (w : World) (hn : n ≤ 140737488355328) (hq0 : 0 ≤ q) (hq1 : q ≤ 140737488355328) (hg : base ≤ g)
    (hown0 : w.ownsRow base 40 2 (.slice (some ⟨g, 0, none⟩) n cap) n zs0) (hl0 : zs0.length = n * 2) :
    Calls Tryd.prog 25 #[.slice (some ⟨g, 0, none⟩) n cap, .int .i64 q] w fun e w' => e = .returned (.int .i64 (q + 2 * (n : Int))) ∧
      (∃ zs : List Value, (∀ j : Nat, j < n → ∀ f, f < 2 → zs[j * 2 + f]? = ([.int .i64 (q + 2 * (j : Int)), .int .i64 (q + 2 * (j : Int) + 1)] : List Value)[f]?) ∧ w'.ownsRow base 40 2 (.slice (some ⟨g, 0, none⟩) n cap) n zs) ∧ Below base w w' ∧ w'.heap.size = w.heap.size ∧ Only (some g) w w' := by
  have H0 : Hid _ := And.intro hown0 hl0
  clear hown0 hl0
  go_enter Tryd.func25, Tryd.ntmps25
  go_wp2
  go_loopw [1, 5] (fun s i wr => ∃ k : Nat, k ≤ n ∧ i = .int .i64 k ∧ s = .int .i64 (q + 2 * (k : Int)) ∧ ∃ zs : List Value, zs.length = n * 2 ∧ (∀ j : Nat, j < k → ∀ f, f < 2 → zs[j * 2 + f]? = ([.int .i64 (q + 2 * (j : Int)), .int .i64 (q + 2 * (j : Int) + 1)] : List Value)[f]?) ∧
      wr.ownsRow base 40 2 (.slice (some ⟨g, 0, none⟩) n cap) n zs ∧ Below base w wr ∧ wr.heap.size = w.heap.size ∧ Only (some g) w wr) (fun _ i _ => n - (intOf i).toNat)
  case atStart => exact ⟨0, Nat.zero_le _, rfl, by simp, zs0, H0.out.2, fun j h => by omega, H0.out.1, Below.refl _ _, rfl, Only.refl _ _⟩
  case round =>
    obtain ⟨k, hk, rfl, rfl, zs, hl, hm, hown, hb, hz, ho⟩ := hrel
    by_cases hlt : k < n
    · have hgl : g < wr.heap.size := (hown.lt g rfl).2
      have d0 : k * 2 < n * 2 := by omega
      obtain ⟨z0, hz0'⟩ : ∃ z, zs[k * 2]? = some z := ⟨zs[k * 2]'(by omega), by simp [hl, d0]⟩
      have r0 := hown.cellAt (k * 2) d0
      rw [hz0'] at r0
      have p0 := hown.frozenAt (k * 2)
      have d1 : k * 2 + 1 < n * 2 := by omega
      obtain ⟨z1, hz1'⟩ : ∃ z, zs[k * 2 + 1]? = some z := ⟨zs[k * 2 + 1]'(by omega), by simp [hl, d1]⟩
      have r1 := hown.cellAt (k * 2 + 1) d1
      rw [hz1'] at r1
      have p1 := hown.frozenAt (k * 2 + 1)
      obtain ⟨s, es⟩ : ∃ s, s = q + 2 * (k : Int) := ⟨_, rfl⟩
      have hs0 : 0 ≤ s := by omega
      rw [← es]
      have w1 : IntKind.i64.wrap (s + 1) = s + 1 := by rw [IntKind.wrap_i64]; omega
      have w2 : IntKind.i64.wrap (s + 1 + 1) = s + 1 + 1 := by rw [IntKind.wrap_i64]; omega
      have H2 : Hid _ := And.intro es (And.intro hl (And.intro hm (And.intro hown (And.intro hb (And.intro hz ho)))))
      clear es hl hm hown hb hz ho hz0' hz1'
      go_wp2
      go_roundw
      case rel =>
        obtain ⟨es, hl, hm, hown, hb, hz, ho⟩ := H2.out
        refine ⟨k + 1, by omega, by go_num, by rw [es]; congr 1; omega, ((zs.set (k * 2) (.int .i64 (s))).set (k * 2 + 1) (.int .i64 (s + 1))), by simp only [List.length_set]; exact hl, fun j hj f hf => ?_, ((hown.stored (k * 2) _).1.stored (k * 2 + 1) _).1, ((hb.setCell (p := ⟨g, k * 2, none⟩) hg _).setCell (p := ⟨g, k * 2 + 1, none⟩) hg _), by simp [World.setCell, hz], ((ho.trans (Only.setCell ⟨g, k * 2, none⟩ _)).trans (Only.setCell ⟨g, k * 2 + 1, none⟩ _))⟩
        by_cases hjk : j = k
        · subst hjk
          rw [← es]
          obtain rfl | rfl : f = 0 ∨ f = 1 := by omega
          · rw [show j * 2 + 0 = j * 2 from rfl, List.getElem?_set_ne (by omega), List.getElem?_set_self (by first | omega | (simp only [List.length_set]; omega))]; rfl
          · rw [List.getElem?_set_self (by first | omega | (simp only [List.length_set]; omega))]; simp <;> omega
        · have u := hm j (by omega) f hf
          rw [List.getElem?_set_ne (by omega), List.getElem?_set_ne (by omega)]; exact u
      case measure => simp [intOf]; omega
    · have HR : Hid _ := And.intro hm (And.intro hown (And.intro hb (And.intro hz ho)))
      clear hl hm hown hb hz ho
      go_wp2
      go_ret
      obtain rfl : k = n := by omega
      obtain ⟨r1, r2, r3, r4, r5⟩ := HR.out
      exact ⟨rfl, ⟨zs, r1, r2⟩, r3, r4, r5⟩
theorem markSettingS (q : Int) (base : Nat) (v : Value) (L : List (List Value)) (w : World) (hn : L.length ≤ 140737488355328) (hq0 : 0 ≤ q) (hq1 : q ≤ 140737488355328) (h : GOwns 40 2 w base v L) :
    Calls Tryd.prog 25 #[v, .int .i64 q] w fun e w' => e = .returned (.int .i64 (q + 2 * (L.length : Int))) ∧ GOwns 40 2 w' base v (marksSetting q L.length) ∧ Below base w w' ∧ w'.heap.size = w.heap.size ∧ Only v.ownBlock w w' := by
  obtain ⟨zs, ho, hz⟩ := id h
  have hl : zs.length = L.length * 2 := ho.1
  rcases ho.2 with ⟨rfl, h0⟩ | ⟨g, cap, cur, rfl, hg, hh, r⟩
  · have hR : L = [] := List.eq_nil_of_length_eq_zero h0
    subst hR
    refine (markSettingS_nil q _ _ w).mono ?_
    rintro e w' ⟨rfl, rfl⟩
    exact ⟨by simp, h, Below.refl _ _, rfl, Only.refl _ _⟩
  · refine (markSettingS_core q L.length base g cap zs w hn hq0 hq1 hg ho hl).mono ?_
    rintro e w' ⟨rfl, ⟨ys, hy, ho2⟩, hb, hz2, hon⟩
    refine ⟨rfl, ⟨ys, by rw [marksSetting_length]; exact ho2, fun j hj f hf => ?_⟩, hb, hz2, hon⟩
    rw [marksSetting_length] at hj
    rw [marksSetting_at _ _ _ hj]
    exact hy j hj f hf
theorem heldSettingS_nil (q : Int) (ao : Option Addr) (cp : Nat) (w : World) :
    Calls Tryd.prog 27 #[.slice ao 0 cp, .int .i64 q] w fun e w' => e = .returned (.int .i64 q) ∧ w' = w := by
  go_enter Tryd.func27, Tryd.ntmps27
  go_wp2
  refine wp_loop_rounds 1 ?_
  rw [rounds_succ]
  go_wp2
  go_ret
  exact ⟨rfl, rfl⟩
set_option maxRecDepth 20000 in
set_option maxHeartbeats 4000000 in
theorem heldSettingS_core (q : Int) (n : Nat) (b off ca : Nat) (w : World) (hn : n ≤ 140737488355328) (hq0 : 0 ≤ q) (hq1 : q ≤ 140737488355328)
    (hc : ∀ j : Nat, j < n → ∀ f, f < 2 → w.cell? ⟨b, off + (j * 2 + f), none⟩ = ([.int .i64 (q + 2 * (j : Int)), .int .i64 (q + 2 * (j : Int) + 1)] : List Value)[f]?) :
    Calls Tryd.prog 27 #[.slice (some ⟨b, off, none⟩) n ca, .int .i64 q] w fun e w' => e = .returned (.int .i64 (q + 2 * (n : Int))) ∧ w' = w := by
  have HC : Hid _ := And.intro hc True.intro
  clear hc
  go_enter Tryd.func27, Tryd.ntmps27
  go_wp2
  go_loop [1, 5] (fun s i => ∃ k : Nat, k ≤ n ∧ i = .int .i64 k ∧ s = .int .i64 (q + 2 * (k : Int))) (fun _ i => n - (intOf i).toNat)
  case atStart => exact ⟨0, Nat.zero_le _, rfl, by simp⟩
  case round =>
    obtain ⟨k, hk, rfl, rfl⟩ := hrel
    by_cases hlt : k < n
    · obtain ⟨s, es⟩ : ∃ s, s = q + 2 * (k : Int) := ⟨_, rfl⟩
      have hck := HC.out.1 k hlt
      have hs0 : 0 ≤ s := by omega
      rw [← es] at hck ⊢

      have c0 : w.cell? ⟨b, off + k * 2, none⟩ = some (.int .i64 (s)) := by have t := hck 0 (by omega); rw [show (off + (k * 2 + 0)) = off + k * 2 by omega] at t; rw [t]; simp <;> omega
      have h0 : (s != s) = false := by simp
      have c1 : w.cell? ⟨b, off + k * 2 + 1, none⟩ = some (.int .i64 (s + 1)) := by have t := hck 1 (by omega); rw [show (off + (k * 2 + 1)) = off + k * 2 + 1 by omega] at t; rw [t]; simp <;> omega
      have h1 : (s + 1 != s + 1) = false := by simp
      have w1 : IntKind.i64.wrap (s + 1) = s + 1 := by rw [IntKind.wrap_i64]; omega
      have w2 : IntKind.i64.wrap (s + 1 + 1) = s + 1 + 1 := by rw [IntKind.wrap_i64]; omega
      have ES : Hid _ := And.intro es True.intro
      clear es hck
      go_wp2
      go_round
      case rel => exact ⟨k + 1, by omega, by go_num, by rw [ES.out.1]; congr 1; omega⟩
      case measure => simp [intOf]; omega
    · go_wp2
      go_ret
      obtain rfl : k = n := by omega
      exact ⟨rfl, rfl⟩
theorem heldSettingS (q : Int) (n : Nat) (v : Value) (w : World) (h : GRow 2 w v (marksSetting q n)) (hn : n ≤ 140737488355328) (hq0 : 0 ≤ q) (hq1 : q ≤ 140737488355328) :
    Calls Tryd.prog 27 #[v, .int .i64 q] w fun e w' => e = .returned (.int .i64 (q + 2 * (n : Int))) ∧ w' = w := by
  by_cases h0 : 0 < n
  · obtain ⟨b, off, ca, rfl, _, hc⟩ := h.at' (by rw [marksSetting_length]; exact h0)
    rw [marksSetting_length] at hc ⊢
    exact heldSettingS_core q n b off ca w hn hq0 hq1 (fun j hj f hf => by rw [← marksSetting_at q n j hj]; exact hc j hj f hf)
  · obtain rfl : n = 0 := by omega
    obtain ⟨ao, cp, rfl⟩ := h.form
    have := heldSettingS_nil q ao cp w
    simpa [marksSetting] using this
end Go.Proofs.YtohooehbjbhhhaaDoor
