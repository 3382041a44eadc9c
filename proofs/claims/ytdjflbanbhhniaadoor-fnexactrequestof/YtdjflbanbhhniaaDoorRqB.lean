import Derived.Test.YtdjflbanbhhniaaDoorRqA
import Derived.Test.YtdjflbanbhhniaaDoorQpE
namespace Go.Proofs.YtdjflbanbhhniaaDoor
open Go.RowKit
set_option linter.unusedVariables false

theorem vr_validMethod (m s a p : ByteArray) (v : Value) (w : World) (zz : m.size ≤ 9223372036854775807) : Calls Tryd.prog 34 #[.agg #[.string m, .string s, .string a, .string p, v]] w fun e w' => e = .returned (.bool (spl m 16 65 90)) ∧ Below w.heap.size w w' := by
  have b0 : Below w.heap.size w (w.alloc (.cells #[.string m, .string s, .string a, .string p, v] 30)) := (Below.refl _ _).alloc (Nat.le_refl _) _
  have C := fun u : World => (spelI m 16 65 90 u zz : _)
  generalize spl m 16 65 90 = N at *
  have H : Hid _ := And.intro b0 C
  clear b0 C zz
  go_enter Tryd.func34, Tryd.ntmps34
  go_wp2_with (go_at_call 45; refine (H.out.2 _).mono ?_; rintro e w1 ⟨rfl, rfl⟩)
  go_ret
  exact ⟨rfl, H.out.1⟩

theorem vr_validScheme (m s a p : ByteArray) (v : Value) (w : World) (zz : s.size ≤ 9223372036854775807) : Calls Tryd.prog 35 #[.agg #[.string m, .string s, .string a, .string p, v]] w fun e w' => e = .returned (.bool (spl s 16 97 122)) ∧ Below w.heap.size w w' := by
  have b0 : Below w.heap.size w (w.alloc (.cells #[.string m, .string s, .string a, .string p, v] 30)) := (Below.refl _ _).alloc (Nat.le_refl _) _
  have C := fun u : World => (spelI s 16 97 122 u zz : _)
  generalize spl s 16 97 122 = N at *
  have H : Hid _ := And.intro b0 C
  clear b0 C zz
  go_enter Tryd.func35, Tryd.ntmps35
  go_wp2_with (go_at_call 45; refine (H.out.2 _).mono ?_; rintro e w1 ⟨rfl, rfl⟩)
  go_ret
  exact ⟨rfl, H.out.1⟩

theorem vr_validAuthority (m s a p : ByteArray) (v : Value) (w : World) (zz : a.size ≤ 9223372036854775807) : Calls Tryd.prog 36 #[.agg #[.string m, .string s, .string a, .string p, v]] w fun e w' => e = .returned (.bool (vpl a)) ∧ Below w.heap.size w w' := by
  have b0 : Below w.heap.size w (w.alloc (.cells #[.string m, .string s, .string a, .string p, v] 30)) := (Below.refl _ _).alloc (Nat.le_refl _) _
  have C := fun u : World => (valI a u zz : _)
  generalize vpl a = N at *
  have H : Hid _ := And.intro b0 C
  clear b0 C zz
  go_enter Tryd.func36, Tryd.ntmps36
  go_wp2_with (go_at_call 46; refine (H.out.2 _).mono ?_; rintro e w1 ⟨rfl, rfl⟩)
  go_ret
  exact ⟨rfl, H.out.1⟩

theorem vr_validPath (m s a p : ByteArray) (v : Value) (w : World) (zz : p.size ≤ 9223372036854775807) : Calls Tryd.prog 37 #[.agg #[.string m, .string s, .string a, .string p, v]] w fun e w' => e = .returned (.bool (spl p 200 33 126 && decide (bt p 0 = 47))) ∧ Below w.heap.size w w' := by
  have b0 : Below w.heap.size w (w.alloc (.cells #[.string m, .string s, .string a, .string p, v] 30)) := (Below.refl _ _).alloc (Nat.le_refl _) _
  have C := fun u : World => (spelI p 200 33 126 u zz : _)
  have hix : spl p 200 33 126 = true → ∀ u, (Instr.index 9 (.string p) (.int .i64 0)).run Tryd.prog u = .ok (.int .u8 (bt p 0)) u := fun q => ixC p 0 (spl_one q)
  obtain ⟨D, eD⟩ : ∃ D, D = spl p 200 33 126 := ⟨_, rfl⟩
  obtain ⟨x, ex⟩ : ∃ x, x = bt p 0 := ⟨_, rfl⟩
  rw [← eD] at C hix ⊢
  rw [← ex] at hix ⊢
  have H : Hid _ := And.intro b0 C
  cases D with
  | false =>
    clear b0 C zz hix eD ex
    go_enter Tryd.func37, Tryd.ntmps37
    go_wp2_with (go_at_call 45; refine (H.out.2 _).mono ?_; rintro e w1 ⟨rfl, rfl⟩)
    go_ret
    exact ⟨rfl, H.out.1⟩
  | true =>
    have hx := hix rfl
    clear b0 C zz hix eD ex
    by_cases q : x = 47
    · have qb : (x == 47) = true := by simp [q]
      have HQ : Hid (decide (x = 47) = true) := decide_eq_true q
      clear q
      go_enter Tryd.func37, Tryd.ntmps37
      go_wp2_with (go_at_call 45; refine (H.out.2 _).mono ?_; rintro e w1 ⟨rfl, rfl⟩)
      go_ret
      exact ⟨by rw [HQ.out]; rfl, H.out.1⟩
    · have qb : (x == 47) = false := by simp [q]
      have HQ : Hid (decide (x = 47) = false) := decide_eq_false q
      clear q
      go_enter Tryd.func37, Tryd.ntmps37
      go_wp2_with (go_at_call 45; refine (H.out.2 _).mono ?_; rintro e w1 ⟨rfl, rfl⟩)
      go_ret
      exact ⟨by rw [HQ.out]; rfl, H.out.1⟩

set_option maxRecDepth 20000 in
set_option maxHeartbeats 4000000 in
theorem holdQ (g : Nat) (m s a p : ByteArray) (v : Value) (L : List SField) (w : World) (h : GRow 2 w v (SField.L L)) (hR : L.length ≤ 1048576) (hf : fin L) (zm : m.size ≤ 9223372036854775807) (zs : s.size ≤ 9223372036854775807) (za : a.size ≤ 9223372036854775807) (zp : p.size ≤ 9223372036854775807) (hg : g < w.heap.size)
    (c0 : w.cell? ⟨g, 0, none⟩ = some (.func (.func 34) #[.agg #[.string m, .string s, .string a, .string p, v]] #[])) (c1 : w.cell? ⟨g, 1, none⟩ = some (.func (.func 35) #[.agg #[.string m, .string s, .string a, .string p, v]] #[])) (c2 : w.cell? ⟨g, 2, none⟩ = some (.func (.func 36) #[.agg #[.string m, .string s, .string a, .string p, v]] #[])) (c3 : w.cell? ⟨g, 3, none⟩ = some (.func (.func 37) #[.agg #[.string m, .string s, .string a, .string p, v]] #[])) (c4 : w.cell? ⟨g, 4, none⟩ = some (.func (.func 38) #[v] #[])) :
    Calls Tryd.prog 33 #[.slice (some ⟨g, 0, none⟩) 5 5] w fun e w' => e = .returned (.bool (rqOK m s a p L)) ∧ Below w.heap.size w w' := by
  have C0 : ∀ u, _ := fun u => vr_validMethod m s a p v u zm
  have C1 : ∀ u, _ := fun u => vr_validScheme m s a p v u zs
  have C2 : ∀ u, _ := fun u => vr_validAuthority m s a p v u za
  have C3 : ∀ u, _ := fun u => vr_validPath m s a p v u zp
  have C4 : ∀ u, Below w.heap.size w u → _ := fun u hu => mfI v L u (h.below hu) hR hf
  have kk : ∀ u, Below w.heap.size w u → u.cell? ⟨g, 0, none⟩ = some (.func (.func 34) #[.agg #[.string m, .string s, .string a, .string p, v]] #[]) ∧ u.cell? ⟨g, 1, none⟩ = some (.func (.func 35) #[.agg #[.string m, .string s, .string a, .string p, v]] #[]) ∧ u.cell? ⟨g, 2, none⟩ = some (.func (.func 36) #[.agg #[.string m, .string s, .string a, .string p, v]] #[]) ∧ u.cell? ⟨g, 3, none⟩ = some (.func (.func 37) #[.agg #[.string m, .string s, .string a, .string p, v]] #[]) ∧ u.cell? ⟨g, 4, none⟩ = some (.func (.func 38) #[v] #[]) := fun u hu => ⟨(hu.cell (p := ⟨g, 0, none⟩) hg).trans c0, (hu.cell (p := ⟨g, 1, none⟩) hg).trans c1, (hu.cell (p := ⟨g, 2, none⟩) hg).trans c2, (hu.cell (p := ⟨g, 3, none⟩) hg).trans c3, (hu.cell (p := ⟨g, 4, none⟩) hg).trans c4⟩
  obtain ⟨N, eN⟩ : ∃ N, N = rqOK m s a p L := ⟨_, rfl⟩
  rw [← eN]
  unfold rqOK at eN
  rw [Bool.and_assoc (spl m 16 65 90 && spl s 16 97 122 && vpl a)] at eN
  obtain ⟨A, eA⟩ : ∃ A, A = spl m 16 65 90 := ⟨_, rfl⟩
  obtain ⟨B, eB⟩ : ∃ B, B = spl s 16 97 122 := ⟨_, rfl⟩
  obtain ⟨C, eC⟩ : ∃ C, C = vpl a := ⟨_, rfl⟩
  obtain ⟨D, eD⟩ : ∃ D, D = (spl p 200 33 126 && decide (bt p 0 = 47)) := ⟨_, rfl⟩
  obtain ⟨M, eM⟩ : ∃ M, M = mfOK L := ⟨_, rfl⟩
  rw [← eA] at C0 eN
  rw [← eB] at C1 eN
  rw [← eC] at C2 eN
  rw [← eD] at C3 eN
  rw [← eM] at C4 eN
  obtain ⟨ao, cp, rfl⟩ := frow_form h
  have H : Hid _ := And.intro C0 (And.intro C1 (And.intro C2 (And.intro C3 (And.intro C4 (And.intro kk eN)))))
  obtain ⟨n, en⟩ : ∃ n, n = L.length := ⟨_, rfl⟩
  rw [← en] at H c0 c1 c2 c3 c4
  clear C0 C1 C2 C3 C4 kk eN eA eB eC eD eM h hR hf en zm zs za zp
  go_enter Tryd.func33, Tryd.ntmps33
  go_wp2_with fail
  refine wp_loop_rounds 6 ?_
  rw [rounds_succ]
  go_wp2_with fail
  go_at_call 34
  refine (H.out.1 w).mono ?_
  rintro e w1 ⟨rfl, b1⟩
  have HB1 : Hid (Below w.heap.size w w1) := b1
  clear c0 c1 c2 c3 c4
  obtain ⟨d0, d1, d2, d3, d4⟩ := H.out.2.2.2.2.2.1 w1 HB1.out
  clear b1
  cases A with
  | false =>
    go_wp2
    go_ret
    exact ⟨by rw [H.out.2.2.2.2.2.2]; rfl, HB1.out⟩
  | true =>
    go_wp2_with fail
    rw [rounds_succ]
    go_wp2_with fail
    go_at_call 35
    refine (H.out.2.1 w1).mono ?_
    rintro e w2 ⟨rfl, b2⟩
    have HB2 : Hid (Below w.heap.size w w2) := HB1.out.trans (b2.mono HB1.out.size)
    clear d0 d1 d2 d3 d4
    obtain ⟨d0, d1, d2, d3, d4⟩ := H.out.2.2.2.2.2.1 w2 HB2.out
    clear b2
    cases B with
    | false =>
      go_wp2
      go_ret
      exact ⟨by rw [H.out.2.2.2.2.2.2]; rfl, HB2.out⟩
    | true =>
      go_wp2_with fail
      rw [rounds_succ]
      go_wp2_with fail
      go_at_call 36
      refine (H.out.2.2.1 w2).mono ?_
      rintro e w3 ⟨rfl, b3⟩
      have HB3 : Hid (Below w.heap.size w w3) := HB2.out.trans (b3.mono HB2.out.size)
      clear d0 d1 d2 d3 d4
      obtain ⟨d0, d1, d2, d3, d4⟩ := H.out.2.2.2.2.2.1 w3 HB3.out
      clear b3
      cases C with
      | false =>
        go_wp2
        go_ret
        exact ⟨by rw [H.out.2.2.2.2.2.2]; rfl, HB3.out⟩
      | true =>
        go_wp2_with fail
        rw [rounds_succ]
        go_wp2_with fail
        go_at_call 37
        refine (H.out.2.2.2.1 w3).mono ?_
        rintro e w4 ⟨rfl, b4⟩
        have HB4 : Hid (Below w.heap.size w w4) := HB3.out.trans (b4.mono HB3.out.size)
        clear d0 d1 d2 d3 d4
        obtain ⟨d0, d1, d2, d3, d4⟩ := H.out.2.2.2.2.2.1 w4 HB4.out
        clear b4
        cases D with
        | false =>
          go_wp2
          go_ret
          exact ⟨by rw [H.out.2.2.2.2.2.2]; rfl, HB4.out⟩
        | true =>
          go_wp2_with fail
          rw [rounds_succ]
          go_wp2_with fail
          go_at_call 38
          refine (H.out.2.2.2.2.1 w4 HB4.out).mono ?_
          rintro e w5 ⟨rfl, b5⟩
          have HB5 : Hid (Below w.heap.size w w5) := HB4.out.trans (b5.mono HB4.out.size)
          clear d0 d1 d2 d3 d4
          obtain ⟨d0, d1, d2, d3, d4⟩ := H.out.2.2.2.2.2.1 w5 HB5.out
          clear b5
          cases M with
          | false =>
            go_wp2
            go_ret
            exact ⟨by rw [H.out.2.2.2.2.2.2]; rfl, HB5.out⟩
          | true =>
            go_wp2_with fail
            rw [rounds_succ]
            go_wp2
            go_ret
            exact ⟨by rw [H.out.2.2.2.2.2.2]; rfl, HB5.out⟩
set_option maxRecDepth 20000 in
set_option maxHeartbeats 2000000 in
theorem reqI (m s a p : ByteArray) (v : Value) (L : List SField) (w : World) (h : GRow 2 w v (SField.L L)) (hR : L.length ≤ 1048576) (hf : fin L) (zm : m.size ≤ 9223372036854775807) (zs : s.size ≤ 9223372036854775807) (za : a.size ≤ 9223372036854775807) (zp : p.size ≤ 9223372036854775807) :
    Calls Tryd.prog 20 #[.agg #[.string m, .string s, .string a, .string p, v]] w fun e w' => e = .returned (.bool (rqOK m s a p L)) ∧ Below w.heap.size w w' := by
  have hmf : ∀ (fn : Fn) (first cap : Array Value) (w : World), (Instr.makeFunc fn first cap).run Tryd.prog w = .ok (.func fn first cap) w := fun _ _ _ _ => rfl
  have b0 : Below w.heap.size w ((w.alloc (.cells #[.string m, .string s, .string a, .string p, v] 30)).alloc (.cells #[.func (.func 34) #[.agg #[.string m, .string s, .string a, .string p, v]] #[], .func (.func 35) #[.agg #[.string m, .string s, .string a, .string p, v]] #[], .func (.func 36) #[.agg #[.string m, .string s, .string a, .string p, v]] #[], .func (.func 37) #[.agg #[.string m, .string s, .string a, .string p, v]] #[], .func (.func 38) #[v] #[]] 61)) := ((Below.refl _ _).alloc (Nat.le_refl _) _).alloc (by simp) _
  have k := (MapKept.heap_alloc (w.alloc (.cells #[.string m, .string s, .string a, .string p, v] 30)) (.cells #[.func (.func 34) #[.agg #[.string m, .string s, .string a, .string p, v]] #[], .func (.func 35) #[.agg #[.string m, .string s, .string a, .string p, v]] #[], .func (.func 36) #[.agg #[.string m, .string s, .string a, .string p, v]] #[], .func (.func 37) #[.agg #[.string m, .string s, .string a, .string p, v]] #[], .func (.func 38) #[v] #[]] 61)).1
  rw [show (w.alloc (.cells #[.string m, .string s, .string a, .string p, v] 30)).heap.size = w.heap.size + 1 by simp] at k
  have C := holdQ (w.heap.size + 1) m s a p v L _ (h.below b0) hR hf zm zs za zp (by simp) (by simp only [World.cell?, k]; rfl) (by simp only [World.cell?, k]; rfl) (by simp only [World.cell?, k]; rfl) (by simp only [World.cell?, k]; rfl) (by simp only [World.cell?, k]; rfl)
  obtain ⟨ao, cp, rfl⟩ := frow_form h
  obtain ⟨n, en⟩ : ∃ n, n = L.length := ⟨_, rfl⟩
  rw [← en] at C b0 ⊢
  generalize rqOK m s a p L = N at *
  have H : Hid _ := And.intro C b0
  clear C b0 h hR hf en k zm zs za zp
  go_enter Tryd.func20, Tryd.ntmps20
  go_wp2_with fail
  go_at_call 33
  refine H.out.1.mono ?_
  rintro e w1 ⟨rfl, b1⟩
  have H1 : Hid _ := And.intro (H.out.2.trans (b1.mono H.out.2.size)) True.intro
  clear b1
  go_wp2
  go_ret
  exact ⟨rfl, H1.out.1⟩
end Go.Proofs.YtdjflbanbhhniaaDoor
