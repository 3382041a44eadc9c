import Derived.Test.YtiiefhpkkjocbalToBytes
import Derived.Test.YtiiefhpkkjocbalEqBytes
import Derived.Test.YtiiefhpkkjocbalSzKeys
import Derived.Test.YtiiefhpkkjocbalBlocks
import Derived.Deep.RegionWith
import Derived.Deep.CutRange
namespace Go.Proofs.Ytiiefhpkkjocbal
open Go.RowKit
set_option linter.unusedVariables false

/-- A list of lists of bytes, as a slice of slices holds it. -/
def SRow (w : World) (v : Value) (L : List (List Int)) : Prop :=
  (L = [] ∧ ∃ ao cap, v = .slice ao 0 cap) ∨
  (∃ b off cap, v = .slice (some ⟨b, off, none⟩) L.length cap ∧ b < w.heap.size ∧ ∀ j, j < L.length → ∃ u, w.cell? ⟨b, off + j, none⟩ = some u ∧ Row w .u8 u (L.getD j []))
theorem SRow.form {w : World} {v : Value} {L : List (List Int)} (h : SRow w v L) : ∃ ao cap, v = .slice ao L.length cap := by
  rcases h with ⟨rfl, ao, cap, rfl⟩ | ⟨b, off, cap, rfl, _⟩
  · exact ⟨ao, cap, rfl⟩
  · exact ⟨_, _, rfl⟩
theorem SRow.below {w w' : World} {v : Value} {L : List (List Int)} (h : SRow w v L) (hb : Below w.heap.size w w') : SRow w' v L := by
  rcases h with h | ⟨b, off, cap, rfl, hl, hc⟩
  · exact Or.inl h
  · refine Or.inr ⟨b, off, cap, rfl, by have := hb.size; omega, fun j hj => ?_⟩
    obtain ⟨u, hu, hr⟩ := hc j hj
    exact ⟨u, (hb.cell (p := ⟨b, off + j, none⟩) hl).trans hu, hr.below hb⟩
theorem SRow.at' {w : World} {v : Value} {L : List (List Int)} (h : SRow w v L) (h0 : 0 < L.length) : ∃ b off cap, v = .slice (some ⟨b, off, none⟩) L.length cap ∧ b < w.heap.size ∧ ∀ j, j < L.length → ∃ u, w.cell? ⟨b, off + j, none⟩ = some u ∧ Row w .u8 u (L.getD j []) := by
  rcases h with ⟨rfl, _⟩ | h
  · simp at h0
  · exact h
/-- The bytes of the first k lists. -/
def sumL (L : List (List Int)) (k : Nat) : Nat := (L.take k).flatten.length
theorem sumL_zero (L : List (List Int)) : sumL L 0 = 0 := by simp [sumL]
theorem sumL_succ (L : List (List Int)) (k : Nat) (h : k < L.length) : sumL L (k + 1) = sumL L k + (L.getD k []).length := by
  unfold sumL
  rw [List.take_add_one, List.flatten_append, List.length_append]
  simp [List.getD, h]
/-- What szByteSS takes off. -/
def sizeL (L : List (List Int)) : Nat := L.length + sumL L L.length
theorem sumL_mono (L : List (List Int)) (k : Nat) (h : k ≤ L.length) : sumL L k ≤ sumL L L.length := by
  unfold sumL
  rw [List.take_length]
  conv => rhs; rw [← List.take_append_drop k L]
  rw [List.flatten_append, List.length_append]
  omega

set_option maxRecDepth 20000 in
set_option maxHeartbeats 1000000 in
theorem szSS_fit (v : Value) (L : List (List Int)) (l : Int) (w : World) (h : SRow w v L) (hl1 : l ≤ 9223372036854775807) (hf : (sizeL L : Int) ≤ l) :
    Calls Try.prog 14 #[v, .int .i64 l] w fun e w' => e = .returned (.int .i64 (l - (sizeL L : Int))) ∧ w' = w := by
  obtain ⟨ao, cp, rfl⟩ := h.form
  have HH : Hid _ := And.intro h (And.intro hf (sumL_mono L))
  have hf0 : (L.length : Int) ≤ l := by unfold sizeL at hf; omega
  obtain ⟨m, em⟩ : ∃ m, m = L.length := ⟨_, rfl⟩
  have EM : Hid _ := And.intro em True.intro
  rw [← em] at hf0 ⊢
  clear h hf em
  go_enter Try.func14, Try.ntmps14
  go_wp2_with fail
  go_loopw [5, 1] (fun i c wr => ∃ k : Nat, k ≤ m ∧ i = .int .i64 (k : Int) ∧ c = .int .i64 (l - (m : Int) - (sumL L k : Int)) ∧ wr = w) (fun i _ _ => m - (intOf i).toNat)
  case atStart => exact ⟨0, by omega, rfl, by rw [sumL_zero]; simp, rfl⟩
  case round =>
    obtain ⟨k, hk, rfl, rfl, ewr⟩ := hrel
    subst wr
    by_cases hlt : k < m
    · obtain ⟨b, off, cap, ev, hbl, hc⟩ := HH.out.1.at' (by have := EM.out.1; omega)
      simp only [Value.slice.injEq] at ev
      obtain ⟨rfl, _, rfl⟩ := ev
      obtain ⟨u, hu, hr⟩ := hc k (by have := EM.out.1; omega)
      have hs := sumL_succ L k (by have := EM.out.1; omega)
      have hm := HH.out.2.2 (k + 1) (by have := EM.out.1; omega)
      have hle : ((L.getD k []).length : Int) ≤ l - (m : Int) - (sumL L k : Int) := by have h1 := HH.out.2.1; have h2 := EM.out.1; unfold sizeL at h1; omega
      have SZ := szBytes_fit u (L.getD k []) (l - (m : Int) - (sumL L k : Int)) w hr hle (by omega)
      have H4 : Hid _ := And.intro SZ (And.intro hs hle)
      obtain ⟨c, ec⟩ : ∃ c, c = l - (m : Int) - (sumL L k : Int) := ⟨_, rfl⟩
      obtain ⟨d, ed⟩ : ∃ d, d = l - (m : Int) - (sumL L k : Int) - ((L.getD k []).length : Int) := ⟨_, rfl⟩
      rw [← ed] at H4
      rw [← ec] at H4 ⊢
      have hd0 : 0 ≤ d := by omega
      have EC : Hid _ := And.intro ec ed
      clear hr hs hm hle SZ hc ec ed
      go_wp2_with (go_at_call 24; refine H4.out.1.mono ?_; rintro e w' ⟨rfl, hw⟩; subst w')
      go_roundw
      case rel => exact ⟨k + 1, by omega, by go_num, by rw [EC.out.2, H4.out.2.1]; simp; omega, by trivial⟩
      case measure => simp [intOf]; omega
    · obtain rfl : k = m := by omega
      have e1 : l - (k : Int) - (sumL L k : Int) = l - (sizeL L : Int) := by have h2 := EM.out.1; unfold sizeL; rw [← h2]; omega
      rw [e1]
      go_wp2
      go_ret
      exact ⟨rfl, by trivial⟩
set_option maxRecDepth 20000 in
set_option maxHeartbeats 1000000 in
theorem szSS_over (v : Value) (L : List (List Int)) (l : Int) (w : World) (h : SRow w v L) (hl0 : 0 ≤ l) (hl1 : l ≤ 9223372036854775807) (hL : L.length ≤ 9223372036854775807) (hs : ∀ j, (L.getD j []).length ≤ 9223372036854775807) (hf : l < (sizeL L : Int)) :
    Calls Try.prog 14 #[v, .int .i64 l] w fun e w' => e = .returned (.int .i64 (-1)) ∧ w' = w := by
  obtain ⟨ao, cp, rfl⟩ := h.form
  have HH : Hid _ := And.intro h (And.intro hf hs)
  obtain ⟨m, em⟩ : ∃ m, m = L.length := ⟨_, rfl⟩
  have EM : Hid _ := And.intro em True.intro
  rw [← em] at hL ⊢
  clear h hf em hs
  by_cases hf0 : (m : Int) ≤ l
  · go_enter Try.func14, Try.ntmps14
    go_wp2_with fail
    go_loopw [5, 1] (fun i c wr => ∃ k : Nat, k ≤ m ∧ i = .int .i64 (k : Int) ∧ c = .int .i64 (l - (m : Int) - (sumL L k : Int)) ∧ 0 ≤ l - (m : Int) - (sumL L k : Int) ∧ wr = w) (fun i _ _ => m - (intOf i).toNat)
    case atStart => exact ⟨0, by omega, rfl, by rw [sumL_zero]; simp, by rw [sumL_zero]; omega, rfl⟩
    case round =>
      obtain ⟨k, hk, rfl, rfl, hpos, ewr⟩ := hrel
      subst wr
      by_cases hlt : k < m
      · obtain ⟨b, off, cap, ev, hbl, hc⟩ := HH.out.1.at' (by have := EM.out.1; omega)
        simp only [Value.slice.injEq] at ev
        obtain ⟨rfl, _, rfl⟩ := ev
        obtain ⟨u, hu, hr⟩ := hc k (by have := EM.out.1; omega)
        have hs := sumL_succ L k (by have := EM.out.1; omega)
        obtain ⟨c, ec⟩ : ∃ c, c = l - (m : Int) - (sumL L k : Int) := ⟨_, rfl⟩
        rw [← ec] at hpos ⊢
        by_cases hle : ((L.getD k []).length : Int) ≤ c
        · have SZ := szBytes_fit u (L.getD k []) c w hr hle (by omega)
          obtain ⟨d, ed⟩ : ∃ d, d = c - ((L.getD k []).length : Int) := ⟨_, rfl⟩
          rw [← ed] at SZ
          have hd0 : 0 ≤ d := by omega
          have H4 : Hid _ := And.intro SZ (And.intro hs (And.intro ec ed))
          clear hr hs hle SZ hc ec ed
          go_wp2_with (go_at_call 24; refine H4.out.1.mono ?_; rintro e w' ⟨rfl, hw⟩; subst w')
          go_roundw
          case rel => exact ⟨k + 1, by omega, by go_num, by rw [H4.out.2.2.2, H4.out.2.2.1, H4.out.2.1]; simp; omega, by have h1 := H4.out.2.2.2; have h2 := H4.out.2.2.1; have h3 := H4.out.2.1; omega, by trivial⟩
          case measure => simp [intOf]; omega
        · have SZ := szBytes_over u (L.getD k []) c w hr (HH.out.2.2 k) (by omega) hpos
          have H4 : Hid _ := And.intro SZ True.intro
          clear hr hs hle SZ hc ec
          go_wp2_with (go_at_call 24; refine H4.out.1.mono ?_; rintro e w' ⟨rfl, hw⟩; subst w')
          go_ret
          exact ⟨rfl, by trivial⟩
      · exfalso
        obtain rfl : k = m := by omega
        have h1 := HH.out.2.1
        have h2 := EM.out.1
        unfold sizeL at h1
        rw [← h2] at h1
        omega
  · go_enter Try.func14, Try.ntmps14
    go_wp2
    go_ret
    exact ⟨rfl, rfl⟩
theorem ss_off {wx : World} {base g n i : Nat} {u v : Value} {xs : List Value} (ho : wx.ownsRow base 5 1 v n xs) (hb : g < base) : (wx.setCell ⟨g, i, none⟩ u).ownsRow base 5 1 v n xs :=
  (Only.setCell (w := wx) ⟨g, i, none⟩ u).owns ho (fun k hk e => by have := (ho.lt k hk).1; have := Option.some.inj e; simp only at this; omega)
theorem infoSl : (Try.prog.info? 22).map (fun i => (i.zero, i.size, i.bytes)) = some (some (.slice none 0 0), 1, 24) := by kernel_rfl
set_option maxRecDepth 20000 in
set_option maxHeartbeats 2000000 in
theorem toSS (v : Value) (L : List (List Int)) (w : World) (h : SRow w v L) (hL : L.length ≤ 1048576) (hs : ∀ j, (L.getD j []).length ≤ 1048576) :
    Calls Try.prog 16 #[v] w fun e w' => ∃ r, e = .returned r ∧ SRow w' r L ∧ Below w.heap.size w w' := by
  obtain ⟨ao, cp, rfl⟩ := h.form
  obtain ⟨i0, hi, hz0, hz1, hz2⟩ := info_parts infoSl
  have HH : Hid _ := And.intro h hs
  obtain ⟨m, em⟩ : ∃ m, m = L.length := ⟨_, rfl⟩
  have EM : Hid _ := And.intro em True.intro
  rw [← em] at hL ⊢
  clear h em hs
  go_enter Try.func16, Try.ntmps16
  go_wp2_with (at_make; refine wpList_make_full _ rfl _ _ 29 rfl w.heap.size 22 i0 (.slice none 0 0) 1 Try.underlying29 hi hz0 hz1 .i64 .i64 (m : Int) (m : Int) m rfl rfl rfl rfl (by rw [hz2]; omega) (by unfold maxLen; omega) (Nat.le_refl _) ?_; intro w1 hown hg)
  have H1 : Hid _ := And.intro hown ((Below.refl w.heap.size w).grown hg (Nat.le_refl _) (by intro k hk; cases hk))
  clear hown hg
  go_loopw [4] (fun i wr => ∃ k : Nat, k ≤ m ∧ i = .int .i64 k ∧ ∃ zs : List Value, zs.length = m ∧ wr.ownsRow w.heap.size 22 1 (.slice (some ⟨w.heap.size, 0, none⟩) m m) m zs ∧ (∀ j, j < k → ∃ u, zs[j]? = some u ∧ wr.ownsRow (w.heap.size + 1) 5 1 u (L.getD j []).length ((L.getD j []).map (Value.int .u8))) ∧ Below w.heap.size w wr) (fun i _ => m - (intOf i).toNat)
  case atStart => exact ⟨0, by omega, rfl, _, by have := H1.out.1.1; simpa using this, H1.out.1, fun j hj => by omega, H1.out.2⟩
  case round =>
    obtain ⟨k, hk, rfl, zs, hzl, ow, hu, hb⟩ := hrel
    by_cases hlt : k < m
    · obtain ⟨b, off, cap, ev, hbl, hc⟩ := HH.out.1.at' (by have := EM.out.1; omega)
      simp only [Value.slice.injEq] at ev
      obtain ⟨rfl, _, rfl⟩ := ev
      obtain ⟨u, huc, hr⟩ := hc k (by have := EM.out.1; omega)
      have c0 := (hb.cell (p := ⟨b, off + k, none⟩) hbl).trans huc
      have TB := toBytes u (L.getD k []) wr (hr.below hb) (by have := HH.out.2 k; omega)
      have hgl : w.heap.size < wr.heap.size := (ow.lt w.heap.size rfl).2
      have H2 : Hid _ := And.intro TB (And.intro ow (And.intro hu (And.intro hb (And.intro hzl hgl))))
      clear huc hr TB ow hu hb hc hzl
      go_wp2_with fail
      go_at_call 7
      refine H2.out.1.mono ?_
      rintro e w2 ⟨q, rfl, oq, bq⟩
      obtain ⟨aq, cq, eq⟩ := (row_of_owns oq).form
      subst eq
      have ow2 := owns_below H2.out.2.1 bq
      obtain ⟨z, hz⟩ : ∃ z, zs[k]? = some z := ⟨zs[k]'(by have := H2.out.2.2.2.2.1; omega), by simp [H2.out.2.2.2.2.1, hlt]⟩
      have c1 : w2.cell? ⟨w.heap.size, k, none⟩ = some z := by have := ow2.cellAt k (by omega); rw [this]; exact hz
      have f1 := ow2.frozenAt k
      have H3 : Hid _ := And.intro ow2 (And.intro oq bq)
      clear ow2 oq bq
      go_wp2
      go_roundw
      case rel =>
        refine ⟨k + 1, by omega, by go_num, zs.set k (.slice aq (L.getD k []).length cq), by rw [List.length_set]; exact H2.out.2.2.2.2.1, (H3.out.1.stored k _).1, fun j hj => ?_, (H2.out.2.2.2.1.trans (H3.out.2.2.mono H2.out.2.2.2.1.size)).setCell (Nat.le_refl _) _⟩
        by_cases hjk : j = k
        · subst hjk
          exact ⟨_, by rw [List.getElem?_set_self (by have := H2.out.2.2.2.2.1; omega)], ss_off (owns_mono H3.out.2.1 (by have := H2.out.2.2.2.2.2; omega)) (by omega)⟩
        · obtain ⟨u', hu', ou'⟩ := H2.out.2.2.1 j (by omega)
          exact ⟨u', by rw [List.getElem?_set_ne (by omega)]; exact hu', ss_off (owns_below ou' H3.out.2.2) (by omega)⟩
      case measure => simp [intOf]; omega
    · obtain rfl : k = m := by omega
      have H2 : Hid _ := And.intro ow (And.intro hu hb)
      clear ow hu hb
      go_wp2
      go_ret
      refine ⟨_, rfl, Or.inr ⟨w.heap.size, 0, k, by rw [← EM.out.1]; rfl, (H2.out.1.lt w.heap.size rfl).2, fun j hj => ?_⟩, H2.out.2.2⟩
      obtain ⟨u, hu, ou⟩ := H2.out.2.1 j (by have := EM.out.1; omega)
      refine ⟨u, ?_, row_of_owns ou⟩
      have := H2.out.1.cellAt j (by have := EM.out.1; omega)
      rw [Nat.zero_add, this]
      exact hu
end Go.Proofs.Ytiiefhpkkjocbal
