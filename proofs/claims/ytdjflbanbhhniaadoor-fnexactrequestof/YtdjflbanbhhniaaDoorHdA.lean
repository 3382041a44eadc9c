import Derived.Test.YtdjflbanbhhniaaDoorTbZ
import Derived.Test.YtdjflbanbhhniaaDoorFdA
import Derived.Test.YtdjflbanbhhniaaDoorLnD
namespace Go.Proofs.YtdjflbanbhhniaaDoor
open Go.RowKit
set_option linter.unusedVariables false

/-- A field whose name begins with a colon. -/
def isH (f : SField) : Bool := decide (0 < f.f0.size ∧ bt f.f0 0 = 58)
def hdN (L : List SField) : Nat := (L.takeWhile isH).length
theorem hd_of : ∀ (L : List SField) (k : Nat), k ≤ L.length → (∀ j, j < k → isH (L.getD j default) = true) → (k < L.length → isH (L.getD k default) = false) → hdN L = k
  | [], k, hk, _, _ => by simp at hk; simp [hdN, hk]
  | x :: r, 0, _, _, h => by
    have := h (by simp)
    simp only [List.getD, List.getElem?_cons_zero, Option.getD_some] at this
    simp [hdN, List.takeWhile, this]
  | x :: r, k + 1, hk, ha, h => by
    have h0 := ha 0 (by omega)
    simp only [List.getD, List.getElem?_cons_zero, Option.getD_some] at h0
    have ih := hd_of r k (by simpa using hk) (fun j hj => by have := ha (j + 1) (by omega); simpa [List.getD] using this) (fun hl => by have := h (by simpa using hl); simpa [List.getD] using this)
    unfold hdN at ih ⊢
    simp [List.takeWhile, h0, ih]
set_option maxHeartbeats 2000000 in
theorem headsS (v : Value) (L : List SField) (w : World) (h : GRow 2 w v (SField.L L)) (hR : L.length ≤ 1048576) (hf : fin L) :
    Calls Tryd.prog 25 #[v] w fun e w' => e = .returned (.int .i64 (hdN L : Int)) ∧ w' = w := by
  obtain ⟨N, eN⟩ : ∃ N, N = hdN L := ⟨_, rfl⟩
  rw [← eN]
  obtain ⟨ao, cp, rfl⟩ := frow_form h
  obtain ⟨n, en⟩ : ∃ n, n = L.length := ⟨_, rfl⟩
  rw [← en] at hR h ⊢
  have HH : Hid _ := And.intro h (And.intro en (And.intro eN hf))
  clear h en eN hf
  go_enter Tryd.func25, Tryd.ntmps25
  go_wp2_with fail
  go_loopg [3] n (fun q i wr => ∃ k : Nat, k ≤ n ∧ q = n - k ∧ i = .int .i64 (k : Int) ∧ (∀ j, j < k → isH (L.getD j default) = true) ∧ wr = w)
  case atStart => exact ⟨0, by omega, by omega, rfl, fun j hj => by omega, rfl⟩
  case round =>
    obtain ⟨k, hk, rfl, rfl, hA, rfl⟩ := hrel
    by_cases hlt : k < n
    · have hkL : k < L.length := by rw [← HH.out.2.1]; exact hlt
      obtain ⟨b, off, cap, ev, hb, hc⟩ := frow_at HH.out.1 (by omega)
      rw [← HH.out.2.1] at ev
      simp only [Value.slice.injEq] at ev
      obtain ⟨rfl, em2, rfl⟩ := ev
      clear em2
      obtain ⟨c0, c1⟩ := row_field hc k hkL
      have hfc := (HH.out.2.2.2 k hkL).1
      have HE : Hid (isH (L.getD k default) = false → N = k) := fun q => by rw [HH.out.2.2.1]; exact hd_of L k (by omega) hA (fun _ => q)
      have hQ : isH (L.getD k default) = decide (0 < (L.getD k default).f0.size ∧ bt (L.getD k default).f0 0 = 58) := rfl
      have HA : Hid (isH (L.getD k default) = true → ∀ j, j < k + 1 → isH (L.getD j default) = true) := fun q j hj => by
        by_cases e : j = k
        · rw [e]; exact q
        · exact hA j (by omega)
      obtain ⟨F, eF⟩ : ∃ F, F = L.getD k default := ⟨_, rfl⟩
      rw [← eF] at c0 c1 hfc HE hQ HA
      clear eF hA hc c1
      obtain ⟨a, c⟩ := F
      simp only at c0 hfc hQ
      by_cases h1 : 0 < a.size
      · have ix0 : ∀ u, (Instr.index 9 (.string a) (.int .i64 0)).run Tryd.prog u = .ok (.int .u8 (bt a 0)) u := fun u => ixC a 0 (by omega) u
        obtain ⟨x, ex⟩ : ∃ x, x = bt a 0 := ⟨_, rfl⟩
        rw [← ex] at ix0 hQ
        clear ex
        have h1' : (0 : Int) < (a.size : Int) := by omega
        by_cases hx : x = 58
        · have x0 : (x == 58) = true := by simp [hx]
          have HQ : Hid _ := HA.out (by rw [hQ]; simp [h1, hx])
          clear hQ hx
          go_wp2
          go_roundg (n - (k + 1))
          case measure => omega
          case rel => exact ⟨k + 1, by omega, rfl, by go_num, HQ.out, rfl⟩
        · have x0 : (x == 58) = false := by simp [hx]
          have HQ : Hid _ := HE.out (by rw [hQ]; simp [hx])
          clear hQ hx
          go_wp2
          go_ret
          exact ⟨by rw [HQ.out]; rfl, rfl⟩
      · have h1' : ¬ (0 : Int) < (a.size : Int) := by omega
        have HQ : Hid _ := HE.out (by rw [hQ]; simp [h1])
        clear hQ
        go_wp2
        go_ret
        exact ⟨by rw [HQ.out]; rfl, rfl⟩
    · obtain rfl : k = n := by omega
      have HQ : Hid (N = k) := by show N = k; rw [HH.out.2.2.1]; exact hd_of L k (by have := HH.out.2.1; omega) hA (fun q => by have := HH.out.2.1; omega)
      clear hA
      go_wp2
      go_ret
      exact ⟨by rw [HQ.out]; rfl, rfl⟩
end Go.Proofs.YtdjflbanbhhniaaDoor
