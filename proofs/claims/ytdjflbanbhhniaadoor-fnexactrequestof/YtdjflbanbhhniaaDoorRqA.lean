import Derived.Test.YtdjflbanbhhniaaDoorQpF
import Derived.Test.YtdjflbanbhhniaaDoorQpA
import Derived.Test.YtdjflbanbhhniaaDoorLnA
import Derived.Laws.EntriesVeiled
namespace Go.Proofs.YtdjflbanbhhniaaDoor
open Go.RowKit
set_option linter.unusedVariables false

/-- A valid request. -/
def rqOK (m s a p : ByteArray) (L : List SField) : Bool := spl m 16 65 90 && spl s 16 97 122 && vpl a && spl p 200 33 126 && decide (bt p 0 = 47) && mfOK L
theorem spl_one {s : ByteArray} {most lo hi : Int} (h : spl s most lo hi = true) : 0 < s.size := by
  unfold spl at h
  simp only [Bool.and_eq_true, decide_eq_true_eq] at h
  omega
theorem spl_le {s : ByteArray} {most lo hi : Int} (h : spl s most lo hi = true) : (s.size : Int) ≤ most := by
  unfold spl at h
  simp only [Bool.and_eq_true, decide_eq_true_eq] at h
  exact h.1.2
theorem cel5 {w u : World} {x0 x1 x2 x3 x4 : Value} {t : TypeId} (hb : Below (w.heap.size + 1) (w.alloc (.cells #[x0, x1, x2, x3, x4] t)) u) : u.cell? ⟨w.heap.size, 0, none⟩ = some x0 ∧ u.cell? ⟨w.heap.size, 1, none⟩ = some x1 ∧ u.cell? ⟨w.heap.size, 2, none⟩ = some x2 ∧ u.cell? ⟨w.heap.size, 3, none⟩ = some x3 ∧ u.cell? ⟨w.heap.size, 4, none⟩ = some x4 := by
  have k := (hb.block w.heap.size (by omega)).trans (MapKept.heap_alloc w (.cells #[x0, x1, x2, x3, x4] t)).1
  simp only [World.cell?, k]
  exact ⟨rfl, rfl, rfl, rfl, rfl⟩
set_option maxHeartbeats 1000000 in
theorem withinS (s : ByteArray) (most lo hi : Int) (w : World) (hm : s.size ≤ 9223372036854775807) : Calls Tryd.prog 30 #[.string s, .int .i64 most, .int .u8 lo, .int .u8 hi] w fun e w' => e = .returned (.bool (spl s most lo hi)) ∧ w' = w := by
  obtain ⟨N, eN⟩ : ∃ N, N = spl s most lo hi := ⟨_, rfl⟩
  rw [← eN]
  have HN : Hid (N = spl s most lo hi) := eN
  clear eN
  go_enter Tryd.func30, Tryd.ntmps30
  go_wp2
  go_loop [9] (fun i => ∃ k : Nat, k ≤ s.size ∧ i = .int .i64 (k : Int) ∧ inR s lo hi k = true) (fun i => s.size - (intOf i).toNat)
  case atStart => exact ⟨0, by omega, rfl, rfl⟩
  case round =>
    obtain ⟨k, hk, rfl, hA⟩ := hrel
    by_cases hlt : k < s.size
    · have hix := ixC s k hlt
      have hno := inR_no s lo hi s.size k hlt
      have hsu := inR_succ s lo hi k
      obtain ⟨x, ex⟩ : ∃ x, x = bt s k := ⟨_, rfl⟩
      rw [← ex] at hix hno hsu
      by_cases q1 : x < lo
      · have HF : Hid (N = false) := by show N = false; rw [HN.out]; unfold spl; rw [hno (by omega)]; simp
        clear hno hsu ex hA
        go_wp2
        go_ret
        exact ⟨by rw [HF.out]; rfl, rfl⟩
      by_cases q2 : hi < x
      · have HF : Hid (N = false) := by show N = false; rw [HN.out]; unfold spl; rw [hno (by omega)]; simp
        clear hno hsu ex hA
        go_wp2
        go_ret
        exact ⟨by rw [HF.out]; rfl, rfl⟩
      have HR : Hid (inR s lo hi (k + 1) = true) := by show inR s lo hi (k + 1) = true; rw [hsu, hA]; simp; omega
      clear hno hsu ex hA
      go_wp2
      go_round
      case rel => exact ⟨k + 1, by omega, by go_num, HR.out⟩
      case measure => simp [intOf]; omega
    · obtain rfl : k = s.size := by omega
      by_cases h1 : 1 ≤ s.size
      · by_cases h2 : (s.size : Int) ≤ most
        · have HF : Hid (N = true) := by show N = true; rw [HN.out]; unfold spl; rw [hA]; simp; omega
          clear hA
          go_wp2
          go_ret
          exact ⟨by rw [HF.out]; rfl, rfl⟩
        · have HF : Hid (N = false) := by show N = false; rw [HN.out]; unfold spl; rw [hA]; simp; omega
          clear hA
          go_wp2
          go_ret
          exact ⟨by rw [HF.out]; rfl, rfl⟩
      · have h0 : s.size = 0 := by omega
        have HF : Hid (N = false) := by show N = false; rw [HN.out]; unfold spl; rw [hA]; simp; omega
        clear hA
        go_wp2
        go_ret
        exact ⟨by rw [HF.out]; rfl, rfl⟩
set_option maxRecDepth 20000 in
set_option maxHeartbeats 4000000 in
theorem reqS (m s a p : ByteArray) (v : Value) (L : List SField) (w : World) (h : GRow 2 w v (SField.L L)) (hR : L.length ≤ 1048576) (hf : fin L) (zm : m.size ≤ 9223372036854775807) (zs : s.size ≤ 9223372036854775807) (za : a.size ≤ 9223372036854775807) (zp : p.size ≤ 9223372036854775807) :
    Calls Tryd.prog 19 #[.agg #[.string m, .string s, .string a, .string p, v]] w fun e w' => e = .returned (.bool (rqOK m s a p L)) ∧ Below w.heap.size w w' := by
  obtain ⟨N, eN⟩ : ∃ N, N = rqOK m s a p L := ⟨_, rfl⟩
  rw [← eN]
  unfold rqOK at eN
  have bA : ∀ u, Below (w.heap.size + 1) (w.alloc (.cells #[.string m, .string s, .string a, .string p, v] 30)) u → Below w.heap.size w u := fun u hu => ((Below.refl w.heap.size w).alloc (Nat.le_refl _) _).trans (hu.mono (by omega))
  have C1 : ∀ u, _ := fun u => withinS m 16 65 90 u zm
  have C2 : ∀ u, _ := fun u => withinS s 16 97 122 u zs
  have C3 : ∀ u, _ := fun u => valS a u za
  have C4 : ∀ u, _ := fun u => withinS p 200 33 126 u zp
  have C6 : ∀ u, Below (w.heap.size + 1) (w.alloc (.cells #[.string m, .string s, .string a, .string p, v] 30)) u → _ := fun u hu => mfS v L u (h.below (bA u hu)) hR hf
  have hix : spl p 200 33 126 = true → ∀ u, (Instr.index 9 (.string p) (.int .i64 0)).run Tryd.prog u = .ok (.int .u8 (bt p 0)) u := fun q => ixC p 0 (spl_one q)
  obtain ⟨ao, cp, rfl⟩ := frow_form h
  obtain ⟨n, en⟩ : ∃ n, n = L.length := ⟨_, rfl⟩
  rw [← en] at C6 bA ⊢
  obtain ⟨A, eA⟩ : ∃ A, A = spl m 16 65 90 := ⟨_, rfl⟩
  obtain ⟨B, eB⟩ : ∃ B, B = spl s 16 97 122 := ⟨_, rfl⟩
  obtain ⟨C, eC⟩ : ∃ C, C = vpl a := ⟨_, rfl⟩
  obtain ⟨D, eD⟩ : ∃ D, D = spl p 200 33 126 := ⟨_, rfl⟩
  obtain ⟨x, ex⟩ : ∃ x, x = bt p 0 := ⟨_, rfl⟩
  obtain ⟨M, eM⟩ : ∃ M, M = mfOK L := ⟨_, rfl⟩
  rw [← eA] at C1 eN
  rw [← eB] at C2 eN
  rw [← eC] at C3 eN
  rw [← eD] at C4 eN hix
  rw [← ex] at eN hix
  rw [← eM] at C6 eN
  have H : Hid _ := And.intro C1 (And.intro C2 (And.intro C3 (And.intro C4 (And.intro C6 (And.intro bA (And.intro eN hix))))))
  clear C1 C2 C3 C4 C6 bA eN hix h hR hf zm zs za zp en eA eB eC eD ex eM
  go_enter Tryd.func19, Tryd.ntmps19
  go_wp2_with fail
  go_at_call 30
  refine (H.out.1 _).mono ?_
  rintro e w1 ⟨rfl, rfl⟩
  cases A with
  | false =>
    go_wp2
    go_ret
    exact ⟨by rw [H.out.2.2.2.2.2.2.1]; rfl, H.out.2.2.2.2.2.1 _ (by simpa using Below.refl _ _)⟩
  | true =>
    go_wp2_with fail
    go_at_call 30
    refine (H.out.2.1 _).mono ?_
    rintro e w2 ⟨rfl, rfl⟩
    cases B with
    | false =>
      go_wp2
      go_ret
      exact ⟨by rw [H.out.2.2.2.2.2.2.1]; rfl, H.out.2.2.2.2.2.1 _ (by simpa using Below.refl _ _)⟩
    | true =>
      go_wp2_with fail
      go_at_call 31
      refine (H.out.2.2.1 _).mono ?_
      rintro e w3 ⟨rfl, b3⟩
      have A3 : Below (w.heap.size + 1) (w.alloc (.cells #[.string m, .string s, .string a, .string p, .slice ao n cp] 30)) w3 := by simpa using b3
      obtain ⟨y0, y1, y2, y3, y4⟩ := cel5 A3
      have H3 : Hid _ := A3
      clear b3 A3
      cases C with
      | false =>
        go_wp2
        go_ret
        exact ⟨by rw [H.out.2.2.2.2.2.2.1]; rfl, H.out.2.2.2.2.2.1 _ H3.out⟩
      | true =>
        go_wp2_with fail
        go_at_call 30
        refine (H.out.2.2.2.1 _).mono ?_
        rintro e w4 ⟨rfl, hw4⟩
        subst hw4
        cases D with
        | false =>
          go_wp2
          go_ret
          exact ⟨by rw [H.out.2.2.2.2.2.2.1]; rfl, H.out.2.2.2.2.2.1 _ H3.out⟩
        | true =>
          have hx := H.out.2.2.2.2.2.2.2 rfl
          by_cases q : x = 47
          · have qb : (x == 47) = true := by simp [q]
            have HQ : Hid (decide (x = 47) = true) := decide_eq_true q
            clear q
            go_wp2_with fail
            go_at_call 32
            refine (H.out.2.2.2.2.1 _ H3.out).mono ?_
            rintro e w5 ⟨rfl, b5⟩
            have H5 : Hid _ := H.out.2.2.2.2.2.1 _ (H3.out.trans (b5.mono (by have := H3.out.size; simpa using this)))
            clear b5
            go_wp2
            go_ret
            exact ⟨by rw [H.out.2.2.2.2.2.2.1, HQ.out]; rfl, H5.out⟩
          · have qb : (x == 47) = false := by simp [q]
            have HQ : Hid (decide (x = 47) = false) := decide_eq_false q
            clear q
            go_wp2
            go_ret
            exact ⟨by rw [H.out.2.2.2.2.2.2.1, HQ.out]; rfl, H.out.2.2.2.2.2.1 _ H3.out⟩
end Go.Proofs.YtdjflbanbhhniaaDoor
