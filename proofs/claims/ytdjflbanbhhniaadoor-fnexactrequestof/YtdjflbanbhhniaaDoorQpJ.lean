import Derived.Test.YtdjflbanbhhniaaDoorQpI
import Derived.Test.YtdjflbanbhhniaaDoorTgB
namespace Go.Proofs.YtdjflbanbhhniaaDoor
open Go.RowKit
set_option linter.unusedVariables false

set_option maxRecDepth 20000 in
set_option maxHeartbeats 4000000 in
theorem clnI (v : Value) (L : List SField) (w : World) (h : GRow 2 w v (SField.L L)) (hR : L.length ≤ 4096) (ht : ∀ j, j < L.length → (L.getD j default).f0.size ≤ 1048576 ∧ (L.getD j default).f1.size ≤ 1048576) :
    Calls Tryd.prog 21 #[v] w fun e w' => ∃ r, e = .returned r ∧ GOwns 44 2 w' w.heap.size r (SField.L L) ∧ Below w.heap.size w w' := by
  obtain ⟨ao, cp, rfl⟩ := h.form
  obtain ⟨i0, hi, hz0, hz1, hz2⟩ := info_parts infoField
  have HH : Hid _ := And.intro h ht
  rw [List.length_map] at *
  obtain ⟨m, em⟩ : ∃ m, m = L.length := ⟨_, rfl⟩
  have EM : Hid _ := And.intro em True.intro
  have HL : Hid _ := And.intro (fun j hj => SField.at L j hj) True.intro
  rw [← em] at hR ⊢
  rw [← em] at HH
  clear h em ht
  go_enter Tryd.func21, Tryd.ntmps21
  go_wp2_with (at_make; refine wpList_make_full _ rfl _ _ 26 rfl w.heap.size 44 i0 (.agg #[.string ⟨#[]⟩, .string ⟨#[]⟩]) 2 Tryd.underlying26 hi hz0 hz1 .i64 .i64 (m : Int) (m : Int) m rfl rfl rfl rfl (by rw [hz2]; omega) (by unfold maxLen; omega) (Nat.le_refl _) ?_; intro w1 hown hg)
  have H1 : Hid _ := And.intro hown ((Below.refl w.heap.size w).grown hg (Nat.le_refl _) (by intro k hk; cases hk))
  clear hown hg
  go_loopw [11] (fun i wr => ∃ k : Nat, k ≤ m ∧ i = .int .i64 k ∧ ∃ zs : List Value, zs.length = m * 2 ∧ wr.ownsRow w.heap.size 44 2 (.slice (some ⟨w.heap.size, 0, none⟩) m m) m zs ∧ (∀ j, j < k → ∀ f, f < 2 → zs[j * 2 + f]? = ((L.getD j default).c)[f]?) ∧ Below w.heap.size w wr) (fun i _ => m - (intOf i).toNat)
  case atStart => exact ⟨0, by omega, rfl, _, by have := H1.out.1.1; simpa using this, H1.out.1, fun j hj => by omega, H1.out.2⟩
  case round =>
    obtain ⟨k, hk, rfl, zs, hzl, ow, hu, hb⟩ := hrel
    by_cases hlt : k < m
    · obtain ⟨b, off, cap, ev, hbl, hc⟩ := HH.out.1.at' (by rw [List.length_map]; have := EM.out.1; omega)
      simp only [Value.slice.injEq] at ev
      obtain ⟨rfl, em2, rfl⟩ := ev
      clear em2
      have hck := hc k (by rw [List.length_map]; have := EM.out.1; omega)
      rw [HL.out.1 k (by have := EM.out.1; omega)] at hck
      have hgl : w.heap.size < wr.heap.size := (ow.lt w.heap.size rfl).2
      have hsz := HH.out.2 k (by have := EM.out.1; omega)
      obtain ⟨x0, ex0⟩ : ∃ x, x = (L.getD k default).f0 := ⟨_, rfl⟩
      obtain ⟨x1, ex1⟩ : ∃ x, x = (L.getD k default).f1 := ⟨_, rfl⟩
      rw [← ex0, ← ex1] at hsz
      have c0 : wr.cell? ⟨b, off + k * 2, none⟩ = some (.string x0) := by have t := (hb.cell (p := ⟨b, off + (k * 2 + 0), none⟩) hbl).trans (hck 0 (by omega)); rw [ex0]; exact t
      have c1 : wr.cell? ⟨b, off + k * 2 + 1, none⟩ = some (.string x1) := by have t := (hb.cell (p := ⟨b, off + (k * 2 + 1), none⟩) hbl).trans (hck 1 (by omega)); rw [ex1]; exact t
      have bA : Below wr.heap.size wr (wr.alloc (.cells #[.string x0, .string x1] 44)) := (Below.refl _ _).alloc (Nat.le_refl _) _
      have CF := cloneF x0 x1 (wr.alloc (.cells #[.string x0, .string x1] 44)) hsz.1 hsz.2
      have H2 : Hid _ := And.intro (And.intro ex0 (And.intro ex1 (True.intro))) (And.intro (owns_below ow bA) (And.intro hu (And.intro (hb.trans (bA.mono hb.size)) (And.intro hzl (And.intro hgl CF)))))
      clear ow hu hb hc hck hzl ex0 ex1 bA CF hsz
      go_wp2_with fail
      go_at_call 39
      refine H2.out.2.2.2.2.2.2.mono ?_
      rintro e w2 ⟨rfl, bq⟩
      have ow2 := owns_below H2.out.2.1 bq
      have d0 : k * 2 < m * 2 := by omega
      have s0 : w2.cell? ⟨w.heap.size, k * 2, none⟩ = zs[k * 2]? := ow2.cellAt (k * 2) d0
      obtain ⟨z0, hz0'⟩ : ∃ z, zs[k * 2]? = some z := ⟨zs[k * 2]'(by have := H2.out.2.2.2.2.1; omega), by simp [H2.out.2.2.2.2.1, d0]⟩
      rw [hz0'] at s0
      have f0 := ow2.frozenAt (k * 2)
      have d1 : k * 2 + 1 < m * 2 := by omega
      have s1 : w2.cell? ⟨w.heap.size, k * 2 + 1, none⟩ = zs[k * 2 + 1]? := ow2.cellAt (k * 2 + 1) d1
      obtain ⟨z1, hz1'⟩ : ∃ z, zs[k * 2 + 1]? = some z := ⟨zs[k * 2 + 1]'(by have := H2.out.2.2.2.2.1; omega), by simp [H2.out.2.2.2.2.1, d1]⟩
      rw [hz1'] at s1
      have f1 := ow2.frozenAt (k * 2 + 1)
      have H3 : Hid _ := And.intro ow2 bq
      clear ow2 bq hz0' hz1'
      go_wp2
      go_roundw
      case rel =>
        refine ⟨k + 1, by omega, by go_num, ((zs.set (k * 2) (.string x0)).set (k * 2 + 1) (.string x1)), by simp only [List.length_set]; exact H2.out.2.2.2.2.1, ((H3.out.1.stored (k * 2) _).1.stored (k * 2 + 1) _).1, fun j hj f hf => ?_, (((H2.out.2.2.2.1.trans (H3.out.2.mono H2.out.2.2.2.1.size)).setCell (Nat.le_refl _) _).setCell (Nat.le_refl _) _)⟩
        have hl2 : zs.length = m * 2 := H2.out.2.2.2.2.1
        by_cases hjk : j = k
        · subst hjk
          obtain ⟨ey0, ey1, -⟩ := H2.out.1
          unfold SField.c
          rw [← ey0, ← ey1]
          obtain rfl | rfl : f = 0 ∨ f = 1 := by omega
          · rw [show j * 2 + 0 = j * 2 from rfl, List.getElem?_set_ne (by omega), List.getElem?_set_self (by first | omega | (simp only [List.length_set]; omega))]; rfl
          · rw [List.getElem?_set_self (by first | omega | (simp only [List.length_set]; omega))]; rfl
        · have u := H2.out.2.2.1 j (by omega) f hf
          rw [List.getElem?_set_ne (by omega), List.getElem?_set_ne (by omega)]; exact u
      case measure => simp [intOf]; omega
    · obtain rfl : k = m := by omega
      have H2 : Hid _ := And.intro ow (And.intro hu hb)
      clear ow hu hb
      go_wp2
      go_ret
      exact ⟨_, rfl, ⟨zs, by rw [List.length_map, ← EM.out.1]; exact H2.out.1, fun j hj f hf => by rw [List.length_map] at hj; rw [HL.out.1 j hj]; exact H2.out.2.1 j (by have := EM.out.1; omega) f hf⟩, H2.out.2.2⟩
end Go.Proofs.YtdjflbanbhhniaaDoor
