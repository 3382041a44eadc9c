import Derived.Test.YtlmfgnjampeckaaAddS
namespace Go.Proofs.Ytlmfgnjampeckaa
open Go.RowKit
set_option linter.unusedVariables false

theorem first_is (p : Nat → Prop) [DecidablePred p] (m : Nat) : ∃ f, f ≤ m ∧ (∀ j, j < f → p j) ∧ (f < m → ¬ p f) := by
  induction m with
  | zero => exact ⟨0, Nat.le_refl _, fun j hj => by omega, fun h => by omega⟩
  | succ m ih =>
    obtain ⟨f, h1, h2, h3⟩ := ih
    by_cases hf : f < m
    · exact ⟨f, by omega, h2, fun _ => h3 hf⟩
    · obtain rfl : f = m := by omega
      by_cases hp : p f
      · exact ⟨f + 1, Nat.le_refl _, fun j hj => by by_cases e : j = f; exact e ▸ hp; exact h2 j (by omega), fun h => by omega⟩
      · exact ⟨f, by omega, h2, fun _ => hp⟩
theorem FB.ex (R : List (Int × Int)) (n : Int) : ∃ f b, FB R n f b := by
  obtain ⟨f, h1, h2, h3⟩ := first_is (fun j => rhi R j + 1 < n) R.length
  obtain ⟨b, k1, k2, k3⟩ := first_is (fun j => rlo R j ≤ n + 1) R.length
  exact ⟨f, b, h1, k1, h2, fun h => by have := h3 h; omega, k2, fun h => by have := k3 h; omega⟩
theorem FB.unique {R : List (Int × Int)} {n : Int} {f b f' b' : Nat} (h : FB R n f b) (h' : FB R n f' b') : f = f' ∧ b = b' := by
  constructor
  · rcases Nat.lt_trichotomy f f' with hl | he | hr
    · have := h'.f0 f hl; have := h.f1 (by have := h'.fm; omega); omega
    · exact he
    · have := h.f0 f' hr; have := h'.f1 (by have := h.fm; omega); omega
  · rcases Nat.lt_trichotomy b b' with hl | he | hr
    · have := h'.b0 b hl; have := h.b1 (by have := h'.bm; omega); omega
    · exact he
    · have := h.b0 b' hr; have := h'.b1 (by have := h.bm; omega); omega
def addV (A : List (Int × Int)) : List (Int × Int) := if 64 < A.length then A.drop 1 else A
theorem addL_length {R : List (Int × Int)} {n : Int} {f b : Nat} (hg : ∀ j, j < R.length → rgood R j) (h : FB R n f b) : (addL R n f b).length ≤ R.length + 1 := by
  have := h.le hg
  have := h.fm
  have := h.bm
  simp only [addL, List.length_append, List.length_take, List.length_drop, List.length_singleton]
  omega
theorem addV_length (A : List (Int × Int)) : (addV A).length ≤ A.length := by
  unfold addV
  split
  · rw [List.length_drop]; omega
  · exact Nat.le_refl _
theorem take_drop_succ (R : List (Int × Int)) (i k : Nat) (hik : i ≤ k) (hk : k < R.length) : (R.drop i).take (k + 1 - i) = (R.drop i).take (k - i) ++ [(rlo R k, rhi R k)] := by
  rw [show k + 1 - i = (k - i) + 1 by omega, take_succ_pair _ _ (by rw [List.length_drop]; omega), (pair_drop R i (k - i)).1, (pair_drop R i (k - i)).2, show i + (k - i) = k by omega]
/-- What stands in 'all' behind k rounds. -/
def InsAt (R : List (Int × Int)) (n : Int) (k : Nat) (put : Bool) (A : List (Int × Int)) : Prop :=
  (put = false ∧ A = R.take k ∧ ∀ j, j < k → rlo R j ≤ n) ∨ (put = true ∧ ∃ i, i < k ∧ A = R.take i ++ (n, n) :: (R.drop i).take (k - i) ∧ (∀ j, j < i → rlo R j ≤ n) ∧ n < rlo R i)
theorem InsAt.length {R : List (Int × Int)} {n : Int} {k : Nat} {put : Bool} {A : List (Int × Int)} (h : InsAt R n k put A) : A.length ≤ k + 1 := by
  rcases h with ⟨_, rfl, _⟩ | ⟨_, i, hi, rfl, _⟩
  · rw [List.length_take]; omega
  · simp only [List.length_append, List.length_take, List.length_cons, List.length_drop]; omega
theorem InsAt.zero (R : List (Int × Int)) (n : Int) : InsAt R n 0 false [] := Or.inl ⟨rfl, rfl, fun j hj => by omega⟩
theorem InsAt.put {R : List (Int × Int)} {n : Int} {k : Nat} {A : List (Int × Int)} (h : InsAt R n k false A) (hk : k < R.length) (hn : n < rlo R k) : InsAt R n (k + 1) true (A ++ [(n, n)] ++ [(rlo R k, rhi R k)]) := by
  rcases h with ⟨_, rfl, h⟩ | ⟨h, _⟩
  · refine Or.inr ⟨rfl, k, by omega, ?_, h, hn⟩
    rw [take_drop_succ R k k (Nat.le_refl _) hk, Nat.sub_self]
    simp
  · cases h
theorem InsAt.pass {R : List (Int × Int)} {n : Int} {k : Nat} {A : List (Int × Int)} (h : InsAt R n k false A) (hk : k < R.length) (hn : ¬ n < rlo R k) : InsAt R n (k + 1) false (A ++ [(rlo R k, rhi R k)]) := by
  rcases h with ⟨_, rfl, h⟩ | ⟨h, _⟩
  · refine Or.inl ⟨rfl, (take_succ_pair R k hk).symm, fun j hj => ?_⟩
    by_cases e : j = k
    · rw [e]; omega
    · exact h j (by omega)
  · cases h
theorem InsAt.go {R : List (Int × Int)} {n : Int} {k : Nat} {A : List (Int × Int)} (h : InsAt R n k true A) (hk : k < R.length) : InsAt R n (k + 1) true (A ++ [(rlo R k, rhi R k)]) := by
  rcases h with ⟨h, _⟩ | ⟨_, i, hi, rfl, h1, h2⟩
  · cases h
  · refine Or.inr ⟨rfl, i, by omega, ?_, h1, h2⟩
    rw [take_drop_succ R i k (by omega) hk]
    simp
/-- The list that is joined. -/
def Ins (R : List (Int × Int)) (n : Int) (A : List (Int × Int)) : Prop := ∃ i, i ≤ R.length ∧ A = R.take i ++ (n, n) :: R.drop i ∧ (∀ j, j < i → rlo R j ≤ n) ∧ (i < R.length → n < rlo R i)
theorem InsAt.endT {R : List (Int × Int)} {n : Int} {A : List (Int × Int)} (h : InsAt R n R.length true A) : Ins R n A := by
  rcases h with ⟨h, _⟩ | ⟨_, i, hi, rfl, h1, h2⟩
  · cases h
  · exact ⟨i, by omega, by rw [show (R.drop i).take (R.length - i) = R.drop i from List.take_of_length_le (by rw [List.length_drop]; omega)], h1, fun _ => h2⟩
theorem InsAt.endF {R : List (Int × Int)} {n : Int} {A : List (Int × Int)} (h : InsAt R n R.length false A) : Ins R n (A ++ [(n, n)]) := by
  rcases h with ⟨_, rfl, h⟩ | ⟨h, _⟩
  · exact ⟨R.length, Nat.le_refl _, by rw [List.drop_length], h, fun h => by omega⟩
  · cases h
theorem Ins.join {R : List (Int × Int)} {n : Int} {A : List (Int × Int)} {f b : Nat} (hg : ∀ j, j < R.length → rgood R j) (h : Ins R n A) (hfb : FB R n f b) : joinL A = addL R n f b := by
  obtain ⟨i, hi, rfl, h1, h2⟩ := h
  exact insert_join hg n i hi h1 h2 hfb
theorem Ins.ok {R : List (Int × Int)} {n : Int} {A : List (Int × Int)} (hg : ∀ j, j < R.length → rgood R j) (hn : 0 ≤ n ∧ n ≤ 4611686018427387903) (h : Ins R n A) : HiOK A ∧ A.length = R.length + 1 := by
  obtain ⟨i, hi, rfl, h1, h2⟩ := h
  have hR : ∀ p ∈ R, 0 ≤ p.2 ∧ p.2 ≤ 4611686018427387903 := fun p hp => by
    obtain ⟨j, hj, rfl⟩ := mem_pair hp
    have := hg j hj
    unfold rgood at this
    simp only
    omega
  constructor
  · rw [hiOK_mem]
    intro p hp
    rcases List.mem_append.1 hp with h | h
    · exact hR p (List.mem_of_mem_take h)
    · rcases List.mem_cons.1 h with h | h
      · rw [h]; exact hn
      · exact hR p (List.mem_of_mem_drop h)
  · simp only [List.length_append, List.length_take, List.length_cons, List.length_drop]; omega
theorem addS_badR (v : Value) (R : List (Int × Int)) (n : Int) (w : World) (h : RRow w v R) (hR : R.length ≤ 1048576) (hr : rokV R = false) :
    Calls Try.prog 13 #[v, .int .i64 n] w fun e w' => ∃ r, e = .returned (.tuple #[r, .int .i64 1]) ∧ POwns 36 w' w.heap.size r [] ∧ Below w.heap.size w w' := by
  have OK := rokS v R w h (Nat.le_trans hR (by decide))
  rw [hr] at OK
  have HH : Hid _ := And.intro OK True.intro
  obtain ⟨ao, cp, rfl⟩ := h.form
  clear OK h
  go_enter Try.func13, Try.ntmps13
  go_wp2_with fail
  go_at_call 23
  refine HH.out.1.mono ?_
  rintro e w1 ⟨rfl, b1⟩
  have H1 : Hid _ := And.intro b1 True.intro
  clear b1
  go_wp2
  go_ret2
  exact ⟨_, rfl, POwns.lit0 _ w1 w.heap.size H1.out.1.size, H1.out.1.alloc H1.out.1.size _⟩
theorem addS_badN (v : Value) (R : List (Int × Int)) (n : Int) (w : World) (h : RRow w v R) (hR : R.length ≤ 1048576) (hr : rokV R = true) (hn : vin n = false) :
    Calls Try.prog 13 #[v, .int .i64 n] w fun e w' => ∃ r, e = .returned (.tuple #[r, .int .i64 1]) ∧ POwns 36 w' w.heap.size r [] ∧ Below w.heap.size w w' := by
  have OK := rokS v R w h (Nat.le_trans hR (by decide))
  rw [hr] at OK
  have VN := fun w => vinS n w
  rw [hn] at VN
  have HH : Hid _ := And.intro OK VN
  obtain ⟨ao, cp, rfl⟩ := h.form
  clear OK h VN
  go_enter Try.func13, Try.ntmps13
  go_wp2_with fail
  go_at_call 23
  refine HH.out.1.mono ?_
  rintro e w1 ⟨rfl, b1⟩
  have H1 : Hid _ := And.intro b1 True.intro
  clear b1
  go_wp2_with (go_at_call 27; refine (HH.out.2 _).mono ?_; rintro e w2 ⟨rfl, hw⟩; subst w2)
  go_ret2
  exact ⟨_, rfl, POwns.lit0 _ w1 w.heap.size H1.out.1.size, H1.out.1.alloc H1.out.1.size _⟩
theorem push_pair {T : TypeId} {w wr w2 : World} {u v' : Value} {A S : List (Int × Int)} {o : Obj} (ow : POwns T wr w.heap.size u A) (bw : Below w.heap.size w wr) (g2 : (wr.alloc o).grownBy w2 u.ownBlock) : Below w.heap.size w w2 :=
  (bw.alloc bw.size o).grown g2 (bw.alloc bw.size o).size (fun q hq => (ow.lt q hq).1)
set_option maxRecDepth 20000 in
set_option maxHeartbeats 8000000 in
theorem addS_ok (v : Value) (R : List (Int × Int)) (n : Int) (f b : Nat) (w : World) (h : RRow w v R) (hR : R.length ≤ 1048576) (hr : rokV R = true) (hn : vin n = true) (hfb : FB R n f b) :
    Calls Try.prog 13 #[v, .int .i64 n] w fun e w' => ∃ r, e = .returned (.tuple #[r, .int .i64 0]) ∧ POwns 36 w' w.heap.size r (addV (addL R n f b)) ∧ Below w.heap.size w w' := by
  have OK := rokS v R w h (Nat.le_trans hR (by decide))
  rw [hr] at OK
  have VN := fun w => vinS n w
  rw [hn] at VN
  have hg := ((rok_iff R).1 hr).2
  have hv := vin_true hn
  obtain ⟨ao, cp, rfl⟩ := h.form
  obtain ⟨m, em⟩ : ∃ m, m = R.length := ⟨_, rfl⟩
  have HH : Hid _ := And.intro OK (And.intro VN h)
  clear OK h VN
  have HG : Hid _ := And.intro em (And.intro hg (And.intro hfb hv))
  have HS4 : Hid _ := And.intro ((rok_iff R).1 hr).1 True.intro
  rw [← em] at HH hR ⊢
  clear em hg hfb hv
  go_enter Try.func13, Try.ntmps13
  go_wp2_with fail
  go_at_call 23
  refine HH.out.1.mono ?_
  rintro e w1 ⟨rfl, b1⟩
  have H1 : Hid _ := And.intro b1 True.intro
  clear b1
  go_wp2_with (go_at_call 27; refine (HH.out.2.1 _).mono ?_; rintro e w2 ⟨rfl, hw⟩; subst w2)
  go_loopg [6, 7, 8] m (fun q v p i wr => ∃ (k : Nat) (put : Bool) (A : List (Int × Int)), k ≤ m ∧ q = m - k ∧ i = .int .i64 (k : Int) ∧ p = .bool put ∧ InsAt R n k put A ∧ POwns 36 wr w.heap.size v A ∧ Below w.heap.size w wr)
  case atStart => exact ⟨0, false, [], by omega, by omega, rfl, rfl, InsAt.zero R n, POwns.lit0 _ w1 w.heap.size H1.out.1.size, H1.out.1.alloc H1.out.1.size _⟩
  case round =>
    obtain ⟨k, put, A, hk, hq, rfl, rfl, hins, ow, bw⟩ := hrel
    by_cases hlt : k < m
    · obtain ⟨b', off, cap, ev, hbl, hc⟩ := HH.out.2.2.at' (by have := HG.out.1; omega)
      simp only [Value.slice.injEq] at ev
      obtain ⟨rfl, em2, rfl⟩ := ev
      clear em2
      obtain ⟨x, ex⟩ : ∃ x, x = rlo R k := ⟨_, rfl⟩
      obtain ⟨y, ey⟩ : ∃ y, y = rhi R k := ⟨_, rfl⟩
      have c0 := (bw.cell (p := ⟨b', off + k * 2, none⟩) hbl).trans (hc k (by have := HG.out.1; omega)).1
      have c1 := (bw.cell (p := ⟨b', off + k * 2 + 1, none⟩) hbl).trans (hc k (by have := HG.out.1; omega)).2
      rw [← ex] at c0
      rw [← ey] at c1
      have hbr : b' < wr.heap.size := by have := bw.size; omega
      have hA := hins.length
      have H2 : Hid _ := And.intro (And.intro ex ey) (And.intro hins (And.intro ow (And.intro bw (show A.length + 4 ≤ 1099511627776 by omega))))
      clear ex ey hins ow bw hA
      cases put with
      | true =>
        have HC : Hid _ := And.intro hc True.intro
        clear hc
        go_wp2_with (at_builtin; refine wpList_append_pairs rfl (.tmp 42) (.tmp 47) 25 36 rfl Try.underlying25 infoRg' w.heap.size _ A rfl (H2.out.2.2.1.below ((Below.refl _ _).alloc (Nat.le_refl _) _)) (.slice (some ⟨wr.heap.size, 0, none⟩) 1 1) [(x, y)] rfl (lit_row wr x y _) (by have := H2.out.2.2.2.2; simp only [List.length_singleton]; omega) (H2.out.2.2.2.1.alloc H2.out.2.2.2.1.size _).size ?_; intro v' w2 o2 g2)
        have HR : Hid _ := And.intro o2 (push_pair (S := []) (v' := v') H2.out.2.2.1 H2.out.2.2.2.1 g2)
        clear o2 g2
        go_wp2
        go_roundg (m - (k + 1))
        case measure => omega
        case rel => exact ⟨k + 1, true, _, by omega, rfl, by go_num, rfl, by have := H2.out.2.1.go (by have := HG.out.1; omega); rw [← H2.out.1.1, ← H2.out.1.2] at this; exact this, HR.out.1, HR.out.2⟩
      | false =>
        by_cases hx : n < x
        · have HC : Hid _ := And.intro hc hbl
          clear hc
          go_wp2_with (first
            | (at_builtin; refine wpList_append_pairs rfl (.tmp 36) (.tmp 40) 25 36 rfl Try.underlying25 infoRg' w.heap.size _ A rfl (H2.out.2.2.1.below ((Below.refl _ _).alloc (Nat.le_refl _) _)) (.slice (some ⟨wr.heap.size, 0, none⟩) 1 1) [(n, n)] rfl (lit_row wr n n _) (by have := H2.out.2.2.2.2; simp only [List.length_singleton]; omega) (H2.out.2.2.2.1.alloc H2.out.2.2.2.1.size _).size ?_; intro v' w2 o2 g2; have HR : Hid _ := And.intro o2 (push_pair (S := []) (v' := v') H2.out.2.2.1 H2.out.2.2.2.1 g2); clear o2 g2; have c2 := (HR.out.2.cell (p := ⟨b', off + k * 2, none⟩) HC.out.2).trans (HC.out.1 k (by have := HG.out.1; omega)).1; have c3 := (HR.out.2.cell (p := ⟨b', off + k * 2 + 1, none⟩) HC.out.2).trans (HC.out.1 k (by have := HG.out.1; omega)).2; rw [← H2.out.1.1] at c2; rw [← H2.out.1.2] at c3; have hbr2 : b' < w2.heap.size := Nat.lt_of_lt_of_le HC.out.2 HR.out.2.size)
            | (at_builtin; refine wpList_append_pairs rfl (.tmp 42) (.tmp 47) 25 36 rfl Try.underlying25 infoRg' w.heap.size _ (A ++ [(n, n)]) rfl (HR.out.1.below ((Below.refl _ _).alloc (Nat.le_refl _) _)) (.slice (some ⟨w2.heap.size, 0, none⟩) 1 1) [(x, y)] rfl (lit_row w2 x y _) (by have := H2.out.2.2.2.2; simp only [List.length_singleton, List.length_append]; omega) (HR.out.2.alloc HR.out.2.size _).size ?_; intro v3 w3 o3 g3))
          have HS : Hid _ := And.intro o3 (push_pair (S := []) (v' := v3) HR.out.1 HR.out.2 g3)
          clear o3 g3
          go_wp2
          go_roundg (m - (k + 1))
          case measure => omega
          case rel => exact ⟨k + 1, true, _, by omega, rfl, by go_num, rfl, by have := H2.out.2.1.put (by have := HG.out.1; omega) (by rw [← H2.out.1.1]; exact hx); rw [← H2.out.1.1, ← H2.out.1.2] at this; exact this, HS.out.1, HS.out.2⟩
        · have dx : decide (n < x) = false := decide_eq_false hx
          clear hc
          go_wp2_with (at_builtin; refine wpList_append_pairs rfl (.tmp 42) (.tmp 47) 25 36 rfl Try.underlying25 infoRg' w.heap.size _ A rfl (H2.out.2.2.1.below ((Below.refl _ _).alloc (Nat.le_refl _) _)) (.slice (some ⟨wr.heap.size, 0, none⟩) 1 1) [(x, y)] rfl (lit_row wr x y _) (by have := H2.out.2.2.2.2; simp only [List.length_singleton]; omega) (H2.out.2.2.2.1.alloc H2.out.2.2.2.1.size _).size ?_; intro v' w2 o2 g2)
          have HR : Hid _ := And.intro o2 (push_pair (S := []) (v' := v') H2.out.2.2.1 H2.out.2.2.2.1 g2)
          clear o2 g2
          go_wp2
          go_roundg (m - (k + 1))
          case measure => omega
          case rel => exact ⟨k + 1, false, _, by omega, rfl, by go_num, rfl, by have := H2.out.2.1.pass (by have := HG.out.1; omega) (by rw [← H2.out.1.1]; omega); rw [← H2.out.1.1, ← H2.out.1.2] at this; exact this, HR.out.1, HR.out.2⟩
    · obtain rfl : k = m := by omega
      cases put with
      | true =>
        have hE : Ins R n A := InsAt.endT (by rw [← HG.out.1]; exact hins)
        have H2 : Hid _ := And.intro ow (And.intro bw hE)
        clear ow bw hE hins
        go_wp2_with fail
        go_at_call 28
        refine (joinS _ A wr H2.out.1.row (Nat.le_trans (Nat.le_of_eq (H2.out.2.2.ok HG.out.2.1 HG.out.2.2.2).2) (by have := HS4.out.1; omega)) (H2.out.2.2.ok HG.out.2.1 HG.out.2.2.2).1).mono ?_
        rintro e w5 ⟨r5, rfl, o5, b5⟩
        rw [H2.out.2.2.join HG.out.2.1 HG.out.2.2.1] at o5
        have b6 : Below w.heap.size w w5 := H2.out.2.1.trans (b5.mono H2.out.2.1.size)
        have hJ : 0 < (addL R n f b).length := by simp only [addL, List.length_append, List.length_singleton]; omega
        obtain ⟨g, cg, rfl, hbg, hgl, hgc, hcm, hcell⟩ := o5.parts hJ
        obtain ⟨l, el⟩ : ∃ l, l = (addL R n f b).length := ⟨_, rfl⟩
        have hl : l ≤ 1048578 := by have := addL_length HG.out.2.1 HG.out.2.2.1; have := HG.out.1; omega
        have h5 : Hid _ := And.intro o5 (And.intro b6 (And.intro el (And.intro hgl hcell)))
        rw [← el] at hgc hJ ⊢
        clear o5 b5 b6 el hcell
        have al : ∀ o : Obj, Below w.heap.size w (w5.alloc o) := fun o => h5.out.2.1.alloc h5.out.2.1.size o
        have AL : Hid _ := And.intro al (And.intro (show ([] : List (Int × Int)).length + (addL R n f b).length ≤ 1099511627776 by have := h5.out.2.2.1; simp only [List.length_nil]; omega) (show ([] : List (Int × Int)).length + ((addL R n f b).drop 1).length ≤ 1099511627776 by have := h5.out.2.2.1; simp only [List.length_nil, List.length_drop]; omega))
        clear al
        by_cases h64 : 64 < l
        · have hc1 : ¬ cg = 1 := by omega
          have h64' : (64 : Int) < (l : Int) := by omega
          have hcg : cg ≤ 9223372036854775807 := Nat.le_trans hcm (by decide)
          have RD : Hid (∀ o : Obj, RRow (w5.alloc o) (.slice (some ⟨g, 2, none⟩) (l - 1) (cg - 1)) ((addL R n f b).drop 1)) := fun o => cut_row (k := 1) h5.out.2.2.1.symm (by simp; omega) (by omega) (fun j hj => ⟨(((Below.refl _ _).alloc (Nat.le_refl _) o).cell (p := ⟨g, 0 + j * 2, none⟩) hgl).trans (h5.out.2.2.2.2 j hj).1, (((Below.refl _ _).alloc (Nat.le_refl _) o).cell (p := ⟨g, 0 + j * 2 + 1, none⟩) hgl).trans (h5.out.2.2.2.2 j hj).2⟩) _ _ (fun _ => rfl)
          clear hcm
          go_wp2_with (at_builtin; refine wpList_append_pairs rfl (.tmp 64) (.tmp 65) 25 36 rfl Try.underlying25 infoRg' w.heap.size (.slice (some ⟨w5.heap.size, 0, none⟩) 0 0) [] rfl (POwns.lit0 _ w5 w.heap.size h5.out.2.1.size) _ ((addL R n f b).drop 1) rfl (RD.out _) AL.out.2.2 (AL.out.1 _).size ?_; intro v7 w7 o7 g7)
          have H7 : Hid _ := And.intro o7 ((AL.out.1 _).grown g7 (AL.out.1 _).size (fun t ht => by
            have e : w5.heap.size = t := by simpa [Value.ownBlock] using ht
            have := h5.out.2.1.size
            omega))
          clear o7 g7
          go_wp2
          go_ret2
          exact ⟨_, rfl, by unfold addV; rw [if_pos (by rw [← h5.out.2.2.1]; exact h64)]; exact H7.out.1, H7.out.2⟩
        · have h64' : decide ((64 : Int) < (l : Int)) = false := decide_eq_false (by omega)
          clear hcm
          go_wp2_with (at_builtin; refine wpList_append_pairs rfl (.tmp 64) (.tmp 65) 25 36 rfl Try.underlying25 infoRg' w.heap.size (.slice (some ⟨w5.heap.size, 0, none⟩) 0 0) [] rfl (POwns.lit0 _ w5 w.heap.size h5.out.2.1.size) _ (addL R n f b) rfl ((h5.out.1.row.below ((Below.refl _ _).alloc (Nat.le_refl _) _) : RRow (w5.alloc _) (.slice (some ⟨g, 0, none⟩) (addL R n f b).length cg) (addL R n f b)) |> fun q => (by rw [← h5.out.2.2.1] at q; exact q)) AL.out.2.1 (AL.out.1 _).size ?_; intro v7 w7 o7 g7)
          have H7 : Hid _ := And.intro o7 ((AL.out.1 _).grown g7 (AL.out.1 _).size (fun t ht => by
            have e : w5.heap.size = t := by simpa [Value.ownBlock] using ht
            have := h5.out.2.1.size
            omega))
          clear o7 g7
          go_wp2
          go_ret2
          exact ⟨_, rfl, by unfold addV; rw [if_neg (by rw [← h5.out.2.2.1]; exact h64)]; exact H7.out.1, H7.out.2⟩
      | false =>
        have hE : Ins R n (A ++ [(n, n)]) := InsAt.endF (by rw [← HG.out.1]; exact hins)
        have hA := hins.length
        have H2 : Hid _ := And.intro ow (And.intro bw (And.intro hE (show A.length + 4 ≤ 1099511627776 by omega)))
        clear ow bw hE hins hA
        go_wp2_with (at_builtin; refine wpList_append_pairs rfl (.tmp 51) (.tmp 55) 25 36 rfl Try.underlying25 infoRg' w.heap.size _ A rfl (H2.out.1.below ((Below.refl _ _).alloc (Nat.le_refl _) _)) (.slice (some ⟨wr.heap.size, 0, none⟩) 1 1) [(n, n)] rfl (lit_row wr n n _) (by have := H2.out.2.2.2; simp only [List.length_singleton]; omega) (H2.out.2.1.alloc H2.out.2.1.size _).size ?_; intro v' w2 o2 g2)
        have HR : Hid _ := And.intro o2 (push_pair (S := []) (v' := v') H2.out.1 H2.out.2.1 g2)
        clear o2 g2
        go_wp2_with fail
        go_at_call 28
        refine (joinS _ (A ++ [(n, n)]) w2 HR.out.1.row (Nat.le_trans (Nat.le_of_eq (H2.out.2.2.1.ok HG.out.2.1 HG.out.2.2.2).2) (by have := HS4.out.1; omega)) (H2.out.2.2.1.ok HG.out.2.1 HG.out.2.2.2).1).mono ?_
        rintro e w5 ⟨r5, rfl, o5, b5⟩
        rw [H2.out.2.2.1.join HG.out.2.1 HG.out.2.2.1] at o5
        have b6 : Below w.heap.size w w5 := HR.out.2.trans (b5.mono HR.out.2.size)
        have hJ : 0 < (addL R n f b).length := by simp only [addL, List.length_append, List.length_singleton]; omega
        obtain ⟨g, cg, rfl, hbg, hgl, hgc, hcm, hcell⟩ := o5.parts hJ
        obtain ⟨l, el⟩ : ∃ l, l = (addL R n f b).length := ⟨_, rfl⟩
        have hl : l ≤ 1048578 := by have := addL_length HG.out.2.1 HG.out.2.2.1; have := HG.out.1; omega
        have h5 : Hid _ := And.intro o5 (And.intro b6 (And.intro el (And.intro hgl hcell)))
        rw [← el] at hgc hJ ⊢
        clear o5 b5 b6 el hcell
        have al : ∀ o : Obj, Below w.heap.size w (w5.alloc o) := fun o => h5.out.2.1.alloc h5.out.2.1.size o
        have AL : Hid _ := And.intro al (And.intro (show ([] : List (Int × Int)).length + (addL R n f b).length ≤ 1099511627776 by have := h5.out.2.2.1; simp only [List.length_nil]; omega) (show ([] : List (Int × Int)).length + ((addL R n f b).drop 1).length ≤ 1099511627776 by have := h5.out.2.2.1; simp only [List.length_nil, List.length_drop]; omega))
        clear al
        by_cases h64 : 64 < l
        · have hc1 : ¬ cg = 1 := by omega
          have h64' : (64 : Int) < (l : Int) := by omega
          have hcg : cg ≤ 9223372036854775807 := Nat.le_trans hcm (by decide)
          have RD : Hid (∀ o : Obj, RRow (w5.alloc o) (.slice (some ⟨g, 2, none⟩) (l - 1) (cg - 1)) ((addL R n f b).drop 1)) := fun o => cut_row (k := 1) h5.out.2.2.1.symm (by simp; omega) (by omega) (fun j hj => ⟨(((Below.refl _ _).alloc (Nat.le_refl _) o).cell (p := ⟨g, 0 + j * 2, none⟩) hgl).trans (h5.out.2.2.2.2 j hj).1, (((Below.refl _ _).alloc (Nat.le_refl _) o).cell (p := ⟨g, 0 + j * 2 + 1, none⟩) hgl).trans (h5.out.2.2.2.2 j hj).2⟩) _ _ (fun _ => rfl)
          clear hcm
          go_wp2_with (at_builtin; refine wpList_append_pairs rfl (.tmp 64) (.tmp 65) 25 36 rfl Try.underlying25 infoRg' w.heap.size (.slice (some ⟨w5.heap.size, 0, none⟩) 0 0) [] rfl (POwns.lit0 _ w5 w.heap.size h5.out.2.1.size) _ ((addL R n f b).drop 1) rfl (RD.out _) AL.out.2.2 (AL.out.1 _).size ?_; intro v7 w7 o7 g7)
          have H7 : Hid _ := And.intro o7 ((AL.out.1 _).grown g7 (AL.out.1 _).size (fun t ht => by
            have e : w5.heap.size = t := by simpa [Value.ownBlock] using ht
            have := h5.out.2.1.size
            omega))
          clear o7 g7
          go_wp2
          go_ret2
          exact ⟨_, rfl, by unfold addV; rw [if_pos (by rw [← h5.out.2.2.1]; exact h64)]; exact H7.out.1, H7.out.2⟩
        · have h64' : decide ((64 : Int) < (l : Int)) = false := decide_eq_false (by omega)
          clear hcm
          go_wp2_with (at_builtin; refine wpList_append_pairs rfl (.tmp 64) (.tmp 65) 25 36 rfl Try.underlying25 infoRg' w.heap.size (.slice (some ⟨w5.heap.size, 0, none⟩) 0 0) [] rfl (POwns.lit0 _ w5 w.heap.size h5.out.2.1.size) _ (addL R n f b) rfl ((h5.out.1.row.below ((Below.refl _ _).alloc (Nat.le_refl _) _) : RRow (w5.alloc _) (.slice (some ⟨g, 0, none⟩) (addL R n f b).length cg) (addL R n f b)) |> fun q => (by rw [← h5.out.2.2.1] at q; exact q)) AL.out.2.1 (AL.out.1 _).size ?_; intro v7 w7 o7 g7)
          have H7 : Hid _ := And.intro o7 ((AL.out.1 _).grown g7 (AL.out.1 _).size (fun t ht => by
            have e : w5.heap.size = t := by simpa [Value.ownBlock] using ht
            have := h5.out.2.1.size
            omega))
          clear o7 g7
          go_wp2
          go_ret2
          exact ⟨_, rfl, by unfold addV; rw [if_neg (by rw [← h5.out.2.2.1]; exact h64)]; exact H7.out.1, H7.out.2⟩
end Go.Proofs.Ytlmfgnjampeckaa
