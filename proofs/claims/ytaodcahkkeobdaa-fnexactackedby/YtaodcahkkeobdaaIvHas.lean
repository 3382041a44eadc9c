import Derived.Test.YtaodcahkkeobdaaIvOf
import Derived.Test.YtaodcahkkeobdaaSrch
import Derived.Test.YtaodcahkkeobdaaRWrap
namespace Go.Proofs.Ytaodcahkkeobdaa
open Go.RowKit
set_option linter.unusedVariables false

theorem rsorted {R : List (Int × Int)} (hg : ∀ j, j < R.length → rgood R j) (i j : Nat) (hij : i < j) (hj : j < R.length) : rhi R i + 1 < rlo R j := by
  induction j with
  | zero => omega
  | succ j ih =>
    have h1 := (hg (j + 1) hj).2.2.2 (by omega)
    rw [Nat.add_sub_cancel] at h1
    by_cases e : i = j
    · rw [e]; exact h1
    · have h2 := ih (by omega) (by omega)
      have h3 := (hg j (by omega)).2.1
      omega
def rhasV (R : List (Int × Int)) (n : Int) : Bool := (List.range R.length).any fun j => decide (rlo R j ≤ n) && decide (n ≤ rhi R j)
theorem rhas_yes (R : List (Int × Int)) (n : Int) (k : Nat) (hk : k < R.length) (h1 : rlo R k ≤ n) (h2 : n ≤ rhi R k) : rhasV R n = true := by
  unfold rhasV
  rw [List.any_eq_true]
  exact ⟨k, List.mem_range.2 hk, by simp only [Bool.and_eq_true, decide_eq_true_eq]; exact ⟨h1, h2⟩⟩
theorem rhas_no (R : List (Int × Int)) (n : Int) (h : ∀ j, j < R.length → ¬ (rlo R j ≤ n ∧ n ≤ rhi R j)) : rhasV R n = false := by
  unfold rhasV
  rw [List.any_eq_false]
  intro j hj
  simp only [Bool.and_eq_true, decide_eq_true_eq]
  exact h j (List.mem_range.1 hj)
theorem box2_cells (w : World) (v n : Value) (t1 t2 : TypeId) : ((w.alloc (.cells #[v] t1)).alloc (.cells #[n] t2)).cell? ⟨w.heap.size, 0, none⟩ = some v ∧ ((w.alloc (.cells #[v] t1)).alloc (.cells #[n] t2)).cell? ⟨w.heap.size + 1, 0, none⟩ = some n := by
  constructor
  · refine cell_alloc ?_ (by simp)
    exact bk_cell (heap_alloc_new w _) 0
  · simp
theorem al2 (w : World) (a b : Obj) : Below w.heap.size w ((w.alloc a).alloc b) := ((Below.refl _ _).alloc (Nat.le_refl _) _).alloc (by simp) _
theorem al2_size (w : World) (a b : Obj) : ((w.alloc a).alloc b).heap.size = w.heap.size + 2 := by simp
set_option maxRecDepth 20000 in
set_option maxHeartbeats 2000000 in
theorem endFrom (v : Value) (R : List (Int × Int)) (n : Int) (w : World) (h : RRow w v R) (hR : R.length ≤ 1048576) (hg : ∀ j, j < R.length → rgood R j) :
    Calls Try.prog 42 #[v, .int .i64 n] w fun e w' => ∃ k : Nat, k ≤ R.length ∧ e = .returned (.int .i64 (k : Int)) ∧ (∀ j, j < k → rhi R j < n) ∧ (∀ j, k ≤ j → j < R.length → n ≤ rhi R j) ∧ Below w.heap.size w w' := by
  obtain ⟨ao, cp, rfl⟩ := h.form
  have b0 := al2 w (.cells #[.slice ao R.length cp] 62) (.cells #[.int .i64 n] 3)
  have cs := box2_cells w (.slice ao R.length cp) (.int .i64 n) 62 3
  have sz := al2_size w (.cells #[.slice ao R.length cp] 62) (.cells #[.int .i64 n] 3)
  have S := endSearch (fun i => decide (n ≤ rhi R i)) R.length hR (.pointer (some ⟨w.heap.size, 0, none⟩)) (.pointer (some ⟨w.heap.size + 1, 0, none⟩)) ((w.alloc (.cells #[.slice ao R.length cp] 62)).alloc (.cells #[.int .i64 n] 3)) (by
      intro i hi w' bw
      obtain ⟨b, off, cap, ev, hbl, hc⟩ := h.at' (by omega)
      simp only [Value.slice.injEq] at ev
      obtain ⟨rfl, em2, rfl⟩ := ev
      clear em2
      exact endClo w.heap.size (w.heap.size + 1) b off cp R.length R n i hi hR w' ((bw.cell (p := ⟨w.heap.size, 0, none⟩) (by rw [sz]; simp only; omega)).trans cs.1) ((bw.cell (p := ⟨w.heap.size + 1, 0, none⟩) (by rw [sz]; simp only; omega)).trans cs.2) ((bw.cell (p := ⟨b, off + i * 2 + 1, none⟩) (by rw [sz]; simp only; omega)).trans ((b0.cell (p := ⟨b, off + i * 2 + 1, none⟩) hbl).trans (hc i hi).2)))
    (by
      intro i j hij hj hi
      simp only [decide_eq_true_eq] at hi ⊢
      by_cases e : i = j
      · rw [← e]; exact hi
      · have := rsorted hg i j (by omega) hj
        have := (hg j hj).2.1
        omega)
  have HH : Hid _ := And.intro S (And.intro b0 hg)
  clear S b0 cs sz h hg
  go_enter Try.func42, Try.ntmps42
  go_wp2_with fail
  go_at_call 49
  refine HH.out.1.mono ?_
  rintro e w1 ⟨k, hk, rfl, hlo, hhi, b1⟩
  have H2 : Hid _ := And.intro hlo (And.intro hhi (HH.out.2.1.trans (b1.mono HH.out.2.1.size)))
  clear hlo hhi b1
  go_wp2
  go_ret
  exact ⟨k, hk, rfl, fun j hj => by have := H2.out.1 j hj; simp only [decide_eq_false_iff_not] at this; omega, fun j h1 h2 => by have := H2.out.2.1 j h1 h2; simpa using this, H2.out.2.2⟩
set_option maxRecDepth 20000 in
set_option maxHeartbeats 2000000 in
theorem hasI (v : Value) (R : List (Int × Int)) (n : Int) (w : World) (h : RRow w v R) (hR : R.length ≤ 1048576) (hg : ∀ j, j < R.length → rgood R j) :
    Calls Try.prog 38 #[v, .int .i64 n] w fun e w' => e = .returned (.bool (rhasV R n)) ∧ Below w.heap.size w w' := by
  have HH : Hid _ := And.intro (endFrom v R n w h hR hg) (And.intro h True.intro)
  have HG : Hid _ := And.intro hg True.intro
  obtain ⟨ao, cp, rfl⟩ := h.form
  clear h hg
  obtain ⟨m, em⟩ : ∃ m, m = R.length := ⟨_, rfl⟩
  rw [← em] at HH hR ⊢
  have EM : Hid _ := And.intro em True.intro
  clear em
  go_enter Try.func38, Try.ntmps38
  go_wp2_with fail
  go_at_call 42
  refine HH.out.1.mono ?_
  rintro e w1 ⟨k, hk, rfl, hlo, hhi, b1⟩
  by_cases hkm : k < m
  · obtain ⟨b, off, cap, ev, hbl, hc⟩ := HH.out.2.1.at' (by have := EM.out.1; omega)
    simp only [Value.slice.injEq] at ev
    obtain ⟨rfl, em2, rfl⟩ := ev
    clear em2
    obtain ⟨x, ex⟩ : ∃ x, x = rlo R k := ⟨_, rfl⟩
    have c0 := (b1.cell (p := ⟨b, off + k * 2, none⟩) hbl).trans (hc k (by have := EM.out.1; omega)).1
    rw [← ex] at c0
    have er : rhasV R n = decide (x ≤ n) := by
      by_cases hx : x ≤ n
      · rw [decide_eq_true hx]; exact rhas_yes R n k (by have := EM.out.1; omega) (by rw [← ex]; exact hx) (hhi k (Nat.le_refl _) (by omega))
      · rw [decide_eq_false hx]
        refine rhas_no R n fun j hj hh => ?_
        by_cases hjk : j < k
        · have := hlo j hjk; omega
        · by_cases e : j = k
          · rw [e, ← ex] at hh; omega
          · have := rsorted HG.out.1 k j (by omega) hj
            have := (HG.out.1 k (by have := EM.out.1; omega)).2.1
            omega
    have H2 : Hid _ := And.intro er b1
    clear er b1 hlo hhi hc ex
    go_wp2
    go_ret
    exact ⟨by rw [H2.out.1]; rfl, H2.out.2⟩
  · obtain rfl : k = m := by omega
    have er : rhasV R n = false := rhas_no R n fun j hj hh => by have := hlo j (by have := EM.out.1; omega); omega
    have H2 : Hid _ := And.intro er b1
    clear er b1 hlo hhi
    go_wp2
    go_ret
    exact ⟨by rw [H2.out.1]; rfl, H2.out.2⟩
set_option maxRecDepth 20000 in
set_option maxHeartbeats 2000000 in
theorem rangesHas_S (v : Value) (R : List (Int × Int)) (n : Int) (w : World) (h : RRow w v R) (hR : R.length ≤ 1048576) :
    Calls Try.prog 34 #[v, .int .i64 n] w fun e w' => e = .returned (.bool (rokV R && rhasV R n)) ∧ Below w.heap.size w w' := by
  have OK := rokS v R w h (Nat.le_trans hR (by decide))
  obtain ⟨ao, cp, ev⟩ := h.form
  cases hr : rokV R with
  | false =>
    rw [hr] at OK
    have HH : Hid _ := And.intro OK True.intro
    clear OK h
    subst ev
    go_enter Try.func34, Try.ntmps34
    go_wp2_with fail
    go_at_call 22
    refine HH.out.1.mono ?_
    rintro e w1 ⟨rfl, b1⟩
    go_wp2
    go_ret
    exact ⟨rfl, b1⟩
  | true =>
    rw [hr] at OK
    have HH : Hid _ := And.intro OK h
    clear OK h
    subst ev
    obtain ⟨m, em⟩ : ∃ m, m = R.length := ⟨_, rfl⟩
    rw [← em] at HH hR ⊢
    have EM : Hid _ := And.intro em True.intro
    clear em
    go_enter Try.func34, Try.ntmps34
    go_wp2_with fail
    go_at_call 22
    refine HH.out.1.mono ?_
    rintro e w1 ⟨rfl, b1⟩
    have H1 : Hid _ := And.intro b1 True.intro
    clear b1
    go_wp2_with fail
    go_loopg [5] m (fun q i wr => ∃ k : Nat, k ≤ m ∧ q = m - k ∧ i = .int .i64 (k : Int) ∧ wr = w1 ∧ ∀ j, j < k → ¬ (rlo R j ≤ n ∧ n ≤ rhi R j))
    case atStart => exact ⟨0, by omega, by omega, rfl, rfl, fun j hj => by omega⟩
    case round =>
      obtain ⟨k, hk, hq, rfl, ewr, hno⟩ := hrel
      subst wr
      by_cases hlt : k < m
      · obtain ⟨b, off, cap, ev, hbl, hc⟩ := HH.out.2.at' (by have := EM.out.1; omega)
        simp only [Value.slice.injEq] at ev
        obtain ⟨rfl, em2, rfl⟩ := ev
        clear em2
        obtain ⟨x, ex⟩ : ∃ x, x = rlo R k := ⟨_, rfl⟩
        obtain ⟨y, ey⟩ : ∃ y, y = rhi R k := ⟨_, rfl⟩
        have c0 := (H1.out.1.cell (p := ⟨b, off + k * 2, none⟩) hbl).trans (hc k (by have := EM.out.1; omega)).1
        have c1 := (H1.out.1.cell (p := ⟨b, off + k * 2 + 1, none⟩) hbl).trans (hc k (by have := EM.out.1; omega)).2
        rw [← ex] at c0
        rw [← ey] at c1
        have H2 : Hid _ := And.intro (And.intro ex ey) hno
        clear hc ex ey hno
        by_cases hx : x ≤ n
        · by_cases hy : n ≤ y
          · go_wp2
            go_ret
            rw [rhas_yes R n k (by have := EM.out.1; omega) (by rw [← H2.out.1.1]; exact hx) (by rw [← H2.out.1.2]; exact hy)]
            exact ⟨rfl, H1.out.1⟩
          · have d2 : decide (n ≤ y) = false := decide_eq_false hy
            go_wp2
            go_roundg (m - (k + 1))
            case measure => omega
            case rel => exact ⟨k + 1, by omega, rfl, by go_num, by trivial, fun j hj => by
              by_cases hjk : j = k
              · rw [hjk, ← H2.out.1.1, ← H2.out.1.2]; omega
              · exact H2.out.2 j (by omega)⟩
        · have d1 : decide (x ≤ n) = false := decide_eq_false hx
          go_wp2
          go_roundg (m - (k + 1))
          case measure => omega
          case rel => exact ⟨k + 1, by omega, rfl, by go_num, by trivial, fun j hj => by
            by_cases hjk : j = k
            · rw [hjk, ← H2.out.1.1, ← H2.out.1.2]; omega
            · exact H2.out.2 j (by omega)⟩
      · have er := rhas_no R n (fun j hj => hno j (by have := EM.out.1; omega))
        have H2 : Hid _ := And.intro er True.intro
        clear er hno
        go_wp2
        go_ret
        exact ⟨by rw [H2.out.1]; rfl, H1.out.1⟩
end Go.Proofs.Ytaodcahkkeobdaa
