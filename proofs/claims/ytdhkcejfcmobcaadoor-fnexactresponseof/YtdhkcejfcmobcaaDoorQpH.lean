import Derived.Test.YtdhkcejfcmobcaaDoorQpG
namespace Go.Proofs.YtdhkcejfcmobcaaDoor
open Go.RowKit
set_option linter.unusedVariables false

set_option maxRecDepth 20000 in
set_option maxHeartbeats 2000000 in
theorem holdR (g : Nat) (st : Int) (v : Value) (L : List SField) (w : World) (h : GRow 2 w v (SField.L L)) (hR : L.length ≤ 1048576) (hf : fin L) (hg : g < w.heap.size)
    (c0 : w.cell? ⟨g, 0, none⟩ = some (.func (.func 35) #[.agg #[.int .i64 st, v]] #[])) (c1 : w.cell? ⟨g, 1, none⟩ = some (.func (.func 36) #[v] #[])) :
    Calls Tryd.prog 34 #[.slice (some ⟨g, 0, none⟩) 2 2] w fun e w' => e = .returned (.bool (rsOK st L)) ∧ Below w.heap.size w w' := by
  have C0 := vstI st v w
  have C1 : ∀ u, Below w.heap.size w u → _ := fun u hu => mfI v L u (h.below hu) hR hf
  have k1 : ∀ u, Below w.heap.size w u → u.cell? ⟨g, 1, none⟩ = some (.func (.func 36) #[v] #[]) := fun u hu => (hu.cell (p := ⟨g, 1, none⟩) hg).trans c1
  obtain ⟨N, eN⟩ : ∃ N, N = rsOK st L := ⟨_, rfl⟩
  rw [← eN]
  unfold rsOK at eN
  obtain ⟨A, eA⟩ : ∃ A, A = decide (100 ≤ st ∧ st ≤ 599) := ⟨_, rfl⟩
  obtain ⟨M, eM⟩ : ∃ M, M = mfOK L := ⟨_, rfl⟩
  rw [← eA] at C0 eN
  rw [← eM] at C1 eN
  obtain ⟨ao, cp, rfl⟩ := frow_form h
  have H : Hid _ := And.intro C0 (And.intro C1 (And.intro k1 eN))
  obtain ⟨n, en⟩ : ∃ n, n = L.length := ⟨_, rfl⟩
  rw [← en] at H c0 c1
  clear C0 C1 k1 eN eA eM h hR hf en
  go_enter Tryd.func34, Tryd.ntmps34
  go_wp2_with fail
  refine wp_loop_rounds 3 ?_
  rw [rounds_succ]
  go_wp2_with fail
  go_at_call 35
  refine H.out.1.mono ?_
  rintro e w1 ⟨rfl, b1⟩
  have d1 := H.out.2.2.1 w1 b1
  have H1 : Hid _ := And.intro b1 True.intro
  clear b1 c0 c1
  cases A with
  | false =>
    go_wp2
    go_ret
    exact ⟨by rw [H.out.2.2.2]; rfl, H1.out.1⟩
  | true =>
    go_wp2_with fail
    rw [rounds_succ]
    go_wp2_with fail
    go_at_call 36
    refine (H.out.2.1 w1 H1.out.1).mono ?_
    rintro e w2 ⟨rfl, b2⟩
    have H2 : Hid _ := And.intro (H1.out.1.trans (b2.mono H1.out.1.size)) True.intro
    clear b2
    cases M with
    | false =>
      go_wp2
      go_ret
      exact ⟨by rw [H.out.2.2.2]; rfl, H2.out.1⟩
    | true =>
      go_wp2_with fail
      rw [rounds_succ]
      go_wp2
      go_ret
      exact ⟨by rw [H.out.2.2.2]; rfl, H2.out.1⟩
set_option maxHeartbeats 2000000 in
theorem rsI (st : Int) (v : Value) (L : List SField) (w : World) (h : GRow 2 w v (SField.L L)) (hR : L.length ≤ 1048576) (hf : fin L) :
    Calls Tryd.prog 21 #[.agg #[.int .i64 st, v]] w fun e w' => e = .returned (.bool (rsOK st L)) ∧ Below w.heap.size w w' := by
  have hmf : ∀ (fn : Fn) (first cap : Array Value) (w : World), (Instr.makeFunc fn first cap).run Tryd.prog w = .ok (.func fn first cap) w := fun _ _ _ _ => rfl
  have b0 : Below w.heap.size w ((w.alloc (.cells #[.int .i64 st, v] 30)).alloc (.cells #[.func (.func 35) #[.agg #[.int .i64 st, v]] #[], .func (.func 36) #[v] #[]] 63)) := ((Below.refl _ _).alloc (Nat.le_refl _) _).alloc (by simp) _
  have k := (MapKept.heap_alloc (w.alloc (.cells #[.int .i64 st, v] 30)) (.cells #[.func (.func 35) #[.agg #[.int .i64 st, v]] #[], .func (.func 36) #[v] #[]] 63)).1
  rw [show (w.alloc (.cells #[.int .i64 st, v] 30)).heap.size = w.heap.size + 1 by simp] at k
  have C := holdR (w.heap.size + 1) st v L _ (h.below b0) hR hf (by simp) (by simp only [World.cell?, k]; rfl) (by simp only [World.cell?, k]; rfl)
  obtain ⟨ao, cp, rfl⟩ := frow_form h
  obtain ⟨n, en⟩ : ∃ n, n = L.length := ⟨_, rfl⟩
  rw [← en] at C b0 ⊢
  generalize rsOK st L = N at *
  have H : Hid _ := And.intro C b0
  clear C b0 h hR hf en k
  go_enter Tryd.func21, Tryd.ntmps21
  go_wp2_with fail
  go_at_call 34
  refine H.out.1.mono ?_
  rintro e w1 ⟨rfl, b1⟩
  have H1 : Hid _ := And.intro (H.out.2.trans (b1.mono H.out.2.size)) True.intro
  clear b1
  go_wp2
  go_ret
  exact ⟨rfl, H1.out.1⟩
end Go.Proofs.YtdhkcejfcmobcaaDoor
