import Derived.Test.YtlmfgnjampeckaaFrA
namespace Go.Proofs.Ytlmfgnjampeckaa
open Go.RowKit
set_option linter.unusedVariables false

theorem POwns.parts {T : TypeId} {w : World} {base : Nat} {v : Value} {R : List (Int × Int)} (h : POwns T w base v R) (h0 : 0 < R.length) : ∃ g cap, v = .slice (some ⟨g, 0, none⟩) R.length cap ∧ base ≤ g ∧ g < w.heap.size ∧ R.length ≤ cap ∧ cap ≤ maxLen ∧ ∀ j, j < R.length → w.cell? ⟨g, 0 + j * 2, none⟩ = some (.int .i64 (rlo R j)) ∧ w.cell? ⟨g, 0 + j * 2 + 1, none⟩ = some (.int .i64 (rhi R j)) := by
  have hr := h.row
  obtain ⟨zs, ho, hz⟩ := h
  rcases ho.2 with ⟨_, h1⟩ | ⟨g, cap, cur, rfl, hb, hg, hn, hm, _⟩
  · omega
  · obtain ⟨b, off, cap', ev, hbl, hc⟩ := hr.at' h0
    simp only [Value.slice.injEq, Option.some.injEq, Addr.mk.injEq] at ev
    obtain ⟨⟨rfl, rfl, _⟩, _, rfl⟩ := ev
    exact ⟨g, cap, rfl, hb, hbl, hn, hm, hc⟩
theorem pair_drop (R : List (Int × Int)) (k j : Nat) : rlo (R.drop k) j = rlo R (k + j) ∧ rhi (R.drop k) j = rhi R (k + j) := by
  simp [rlo, rhi, List.getD]
/-- What stands behind the first k of a list. -/
theorem cut_row {w : World} {g m k : Nat} {R : List (Int × Int)} (hm : R.length = m) (hg : g < w.heap.size) (hk : k ≤ m) (hc : ∀ j, j < R.length → w.cell? ⟨g, 0 + j * 2, none⟩ = some (.int .i64 (rlo R j)) ∧ w.cell? ⟨g, 0 + j * 2 + 1, none⟩ = some (.int .i64 (rhi R j))) (ao : Option Addr) (cp : Nat) (ha : k < m → ao = some ⟨g, k * 2, none⟩) : RRow w (.slice ao (m - k) cp) (R.drop k) := by
  by_cases h : k < m
  · rw [ha h]
    refine Or.inr ⟨g, k * 2, cp, by rw [List.length_drop, hm], hg, fun j hj => ?_⟩
    rw [List.length_drop] at hj
    have := hc (k + j) (by omega)
    rw [(pair_drop R k j).1, (pair_drop R k j).2]
    have e : 0 + (k + j) * 2 = k * 2 + j * 2 := by omega
    rw [e] at this
    exact this
  · have e : R.drop k = [] := List.drop_eq_nil_of_le (by omega)
    rw [e]
    exact Or.inl ⟨rfl, ao, cp, by rw [show m - k = 0 by omega]⟩
theorem POwns.lit1 (T : TypeId) (w : World) (x y : Int) (base : Nat) (hb : base ≤ w.heap.size) : POwns T (w.alloc (.cells #[.int .i64 x, .int .i64 y] T)) base (.slice (some ⟨w.heap.size, 0, none⟩) 1 1) [(x, y)] := POwns.of (World.ownsRow_lit _ #[.int .i64 x, .int .i64 y] 1 hb (by decide) rfl)
theorem mem_pair {R : List (Int × Int)} {p : Int × Int} (h : p ∈ R) : ∃ j, j < R.length ∧ p = (rlo R j, rhi R j) := by
  obtain ⟨j, hj, e⟩ := List.mem_iff_getElem.1 h
  exact ⟨j, hj, by rw [← e]; simp [rlo, rhi, List.getD, hj]⟩
theorem fromL_low {R : List (Int × Int)} {n : Int} (k : Nat) (hk : k ≤ R.length) (hlo : ∀ j, j < k → rhi R j < n) : fromL n (R.take k) = [] := by
  induction k with
  | zero => rfl
  | succ k ih => rw [fromL_no n R k (by omega) (by have := hlo k (by omega); omega)]; exact ih (by omega) (fun j hj => hlo j (by omega))
theorem fromL_none {R : List (Int × Int)} {n : Int} (hlo : ∀ j, j < R.length → rhi R j < n) : fromL n R = [] := by
  have := fromL_low R.length (Nat.le_refl _) hlo
  rwa [List.take_length] at this
theorem fromL_high {R : List (Int × Int)} {n : Int} (h : ∀ j, j < R.length → n ≤ rlo R j ∧ n ≤ rhi R j) : fromL n R = R := by
  unfold fromL
  rw [List.filter_eq_self.2 (fun p hp => by obtain ⟨j, hj, rfl⟩ := mem_pair hp; simp only [decide_eq_true_eq]; exact (h j hj).2)]
  have : ∀ p ∈ R, (max n p.1, p.2) = p := fun p hp => by
    obtain ⟨j, hj, rfl⟩ := mem_pair hp
    have := (h j hj).1
    simp only [Prod.mk.injEq, and_true]
    omega
  rw [List.map_congr_left this, List.map_id']
theorem fromL_append (n : Int) (R S : List (Int × Int)) : fromL n (R ++ S) = fromL n R ++ fromL n S := by
  unfold fromL
  rw [List.filter_append, List.map_append]
theorem fromL_cut {R : List (Int × Int)} {n : Int} (hg : ∀ j, j < R.length → rgood R j) (k : Nat) (hk : k < R.length) (hlo : ∀ j, j < k → rhi R j < n) (hhi : n ≤ rhi R k) : fromL n R = (max n (rlo R k), rhi R k) :: R.drop (k + 1) := by
  have e : R = R.take (k + 1) ++ R.drop (k + 1) := (List.take_append_drop _ _).symm
  have e2 : fromL n R = fromL n (R.take (k + 1)) ++ fromL n (R.drop (k + 1)) := by rw [← fromL_append, ← e]
  rw [e2, fromL_yes n R k hk hhi, fromL_low k (by omega) hlo, fromL_high]
  · rfl
  · intro j hj
    rw [List.length_drop] at hj
    rw [(pair_drop R (k + 1) j).1, (pair_drop R (k + 1) j).2]
    have h1 := rsorted hg k (k + 1 + j) (by omega) (by omega)
    have h2 := (hg (k + 1 + j) (by omega)).2.1
    omega
set_option maxRecDepth 20000 in
set_option maxHeartbeats 4000000 in
theorem fromI (v : Value) (R : List (Int × Int)) (n : Int) (base : Nat) (w : World) (h : POwns 49 w base v R) (hR : R.length ≤ 1048576) (hg : ∀ j, j < R.length → rgood R j) :
    Calls Try.prog 34 #[v, .int .i64 n] w fun e w' => ∃ r, e = .returned r ∧ POwns 49 w' w.heap.size r (fromL n R) ∧ Below w.heap.size w w' := by
  have HH : Hid _ := And.intro (endFrom v R n w h.row hR hg) (And.intro h hg)
  obtain ⟨ao, cp, ev⟩ := h.row.form
  clear h hg
  obtain ⟨m, em⟩ : ∃ m, m = R.length := ⟨_, rfl⟩
  have HG : Hid _ := And.intro em HH.out.2.2
  rw [← em] at ev hR
  subst ev
  clear em
  go_enter Try.func34, Try.ntmps34
  go_wp2_with fail
  go_at_call 40
  refine HH.out.1.mono ?_
  rintro e w1 ⟨k, hk, rfl, hlo, hhi, b1⟩
  rw [← HG.out.1] at hk
  by_cases hkm : k = m
  · subst hkm
    have er : fromL n R = [] := fromL_none (fun j hj => hlo j (by have := HG.out.1; omega))
    have hee : ((k : Int) == (k : Int)) = true := by simp
    have H2 : Hid _ := And.intro er b1
    clear er b1 hlo hhi
    go_wp2
    go_ret
    exact ⟨_, rfl, by rw [H2.out.1]; exact POwns.nil _ _ _, H2.out.2⟩
  · have hne : ((k : Int) == (m : Int)) = false := by simp; omega
    obtain ⟨g, cap, ev, hbg, hgl, hmc, hcm, hc⟩ := HH.out.2.1.parts (by have := HG.out.1; omega)
    simp only [Value.slice.injEq] at ev
    obtain ⟨rfl, em2, rfl⟩ := ev
    clear em2
    obtain ⟨x, ex⟩ : ∃ x, x = rlo R k := ⟨_, rfl⟩
    obtain ⟨y, ey⟩ : ∃ y, y = rhi R k := ⟨_, rfl⟩
    have c0 := (b1.cell (p := ⟨g, 0 + k * 2, none⟩) hgl).trans (hc k (by have := HG.out.1; omega)).1
    have c1 := (b1.cell (p := ⟨g, 0 + k * 2 + 1, none⟩) hgl).trans (hc k (by have := HG.out.1; omega)).2
    rw [← ex, Nat.zero_add] at c0
    rw [← ey, Nat.zero_add] at c1
    have hg1 : g < w1.heap.size := by have := b1.size; omega
    have e0 : w1.drew.cell? ⟨g, k * 2, none⟩ = some (.int .i64 x) := c0
    have e1 : w1.drew.cell? ⟨g, k * 2 + 1, none⟩ = some (.int .i64 y) := c1
    have hgd : g < w1.drew.heap.size := hg1
    rw [← HG.out.1] at hmc
    obtain ⟨q, eq⟩ : ∃ q, q = k + 1 := ⟨_, rfl⟩
    have hw : IntKind.i64.wrap ((k : Int) + 1) = (q : Int) := by rw [IntKind.wrap_i64]; omega
    have hlt : q ≤ m := by omega
    have EQ : Hid _ := And.intro eq True.intro
    clear eq
    have hcap : cp ≤ 9223372036854775807 := Nat.le_trans hcm (by decide)
    have H2 : Hid _ := And.intro (And.intro ex ey) (And.intro b1 (And.intro hlo (And.intro hhi hc)))
    clear ex ey b1 hlo hhi hc hcm
    go_wp2_with fail
    have hmx : max n x = (if x < n then n else x) := by split <;> omega
    have HM : Hid _ := And.intro hmx True.intro
    clear hmx
    go_region
    all_goals
      generalize (if x < n then n else x) = z at HM ⊢
      have B2 : Below w1.heap.size w1 (w1.alloc (.cells #[.int .i64 z, .int .i64 y] 49)).drew := ((Below.refl _ _).alloc (Nat.le_refl _) _).drew
      have q0 : (w1.alloc (.cells #[.int .i64 z, .int .i64 y] 49)).drew.cell? ⟨w1.heap.size, 0, none⟩ = some (.int .i64 z) := bk_cell (heap_alloc_new w1 _) 0
      have q1 : (w1.alloc (.cells #[.int .i64 z, .int .i64 y] 49)).drew.cell? ⟨w1.heap.size, 1, none⟩ = some (.int .i64 y) := bk_cell (heap_alloc_new w1 _) 1
      have hz2 : w1.heap.size < (w1.alloc (.cells #[.int .i64 z, .int .i64 y] 49)).drew.heap.size := by simp
      generalize (w1.alloc (.cells #[.int .i64 z, .int .i64 y] 49)).drew = W2 at B2 q0 q1 hz2 ⊢
      have d0 : W2.drew.cell? ⟨w1.heap.size, 0, none⟩ = some (.int .i64 z) := q0
      have d1 : W2.drew.cell? ⟨w1.heap.size, 1, none⟩ = some (.int .i64 y) := q1
      have hz3 : w1.heap.size < W2.drew.heap.size := hz2
      have bA : ∀ o : Obj, Below w.heap.size w (W2.drew.alloc o) := fun o => ((H2.out.2.1.trans (B2.mono H2.out.2.1.size)).drew).alloc ((H2.out.2.1.trans (B2.mono H2.out.2.1.size)).drew).size o
      have rD : ∀ o : Obj, RRow (W2.drew.alloc o) (.slice (if cp = q then some ⟨g, 0, none⟩ else some ⟨g, q * 2, none⟩) (m - q) (cp - q)) (R.drop q) := fun o => cut_row (g := g) HG.out.1.symm (Nat.lt_of_lt_of_le hgl (bA o).size) hlt (fun j hj => ⟨((bA o).cell (p := ⟨g, 0 + j * 2, none⟩) hgl).trans (H2.out.2.2.2.2 j hj).1, ((bA o).cell (p := ⟨g, 0 + j * 2 + 1, none⟩) hgl).trans (H2.out.2.2.2.2 j hj).2⟩) _ _ (fun hqm => by rw [if_neg (by omega)])
      have hdl : 1 + (R.drop q).length ≤ 1099511627776 := by rw [List.length_drop]; have := HG.out.1; omega
      have H3 : Hid _ := And.intro bA (And.intro rD (And.intro hdl (H2.out.2.1.trans (B2.mono H2.out.2.1.size)).size))
      clear bA rD hdl B2
      go_wp2_with fail
      go_region_law (refine step_append_pairs rfl (.tmp 28) (.tmp 32) 44 49 rfl Try.underlying44 infoIv w.heap.size (.slice (some ⟨W2.heap.size, 0, none⟩) 1 1) [(z, y)] rfl (POwns.lit1 _ W2.drew z y w.heap.size H3.out.2.2.2) (.slice (if cp = q then some ⟨g, 0, none⟩ else some ⟨g, q * 2, none⟩) (m - q) (cp - q)) (R.drop q) rfl (H3.out.2.1 _) H3.out.2.2.1 (H3.out.1 _).size ?_; intro v' w3 o3 g3)
      all_goals
        have HR : Hid _ := And.intro o3 ((H3.out.1 _).grown g3 (H3.out.1 _).size (fun t ht => by
          have e : W2.heap.size = t := by simpa [Value.ownBlock] using ht
          have := H3.out.2.2.2
          omega))
        clear o3 g3
        generalize (if cp = q then some (⟨g, 0, none⟩ : Addr) else some ⟨g, q * 2, none⟩) = aq at H3 ⊢
        go_wp2
        go_ret
        refine ⟨_, rfl, ?_, HR.out.2⟩
        rw [fromL_cut HG.out.2 k (by have := HG.out.1; omega) H2.out.2.2.1 (H2.out.2.2.2.1 k (Nat.le_refl _) (by have := HG.out.1; omega)), ← H2.out.1.1, ← H2.out.1.2, HM.out.1, ← EQ.out.1]
        exact HR.out.1
theorem fromI_badR (v : Value) (R : List (Int × Int)) (n : Int) (w : World) (h : RRow w v R) (hR : R.length ≤ 1048576) (hr : rokV R = false) :
    Calls Try.prog 18 #[v, .int .i64 n] w fun e w' => ∃ r, e = .returned (.tuple #[r, .int .i64 1]) ∧ POwns 36 w' w.heap.size r [] ∧ Below w.heap.size w w' := by
  have OK := rangesOK_I v R w h (Nat.le_trans hR (by decide))
  rw [hr] at OK
  have HH : Hid _ := And.intro OK True.intro
  obtain ⟨ao, cp, rfl⟩ := h.form
  clear OK h
  go_enter Try.func18, Try.ntmps18
  go_wp2_with fail
  go_at_call 11
  refine HH.out.1.mono ?_
  rintro e w1 ⟨rfl, b1⟩
  have H1 : Hid _ := And.intro b1 True.intro
  clear b1
  go_wp2
  go_ret2
  exact ⟨_, rfl, POwns.nil _ _ _, H1.out.1⟩
theorem fromI_badN (v : Value) (R : List (Int × Int)) (n : Int) (w : World) (h : RRow w v R) (hR : R.length ≤ 1048576) (hr : rokV R = true) (hn : vin n = false) :
    Calls Try.prog 18 #[v, .int .i64 n] w fun e w' => ∃ r, e = .returned (.tuple #[r, .int .i64 1]) ∧ POwns 36 w' w.heap.size r [] ∧ Below w.heap.size w w' := by
  have OK := rangesOK_I v R w h (Nat.le_trans hR (by decide))
  rw [hr] at OK
  have VN := fun w => vinI n w
  rw [hn] at VN
  have HH : Hid _ := And.intro OK VN
  obtain ⟨ao, cp, rfl⟩ := h.form
  clear OK h VN
  go_enter Try.func18, Try.ntmps18
  go_wp2_with fail
  go_at_call 11
  refine HH.out.1.mono ?_
  rintro e w1 ⟨rfl, b1⟩
  have H1 : Hid _ := And.intro b1 True.intro
  clear b1
  go_wp2_with (go_at_call 29; refine (HH.out.2 _).mono ?_; rintro e w2 ⟨rfl, hw⟩; subst w2)
  go_ret2
  exact ⟨_, rfl, POwns.nil _ _ _, H1.out.1⟩
theorem fromI_ok (v : Value) (R : List (Int × Int)) (n : Int) (w : World) (h : RRow w v R) (hR : R.length ≤ 1048576) (hr : rokV R = true) (hn : vin n = true) :
    Calls Try.prog 18 #[v, .int .i64 n] w fun e w' => ∃ r, e = .returned (.tuple #[r, .int .i64 0]) ∧ POwns 36 w' w.heap.size r (fromL n R) ∧ Below w.heap.size w w' := by
  have OK := rangesOK_I v R w h (Nat.le_trans hR (by decide))
  rw [hr] at OK
  have VN := fun w => vinI n w
  rw [hn] at VN
  have hg := ((rok_iff R).1 hr).2
  have HH : Hid _ := And.intro OK (And.intro VN (And.intro h (And.intro hR hg)))
  obtain ⟨ao, cp, rfl⟩ := h.form
  clear OK h VN hR hg
  go_enter Try.func18, Try.ntmps18
  go_wp2_with fail
  go_at_call 11
  refine HH.out.1.mono ?_
  rintro e w1 ⟨rfl, b1⟩
  have H1 : Hid _ := And.intro b1 True.intro
  clear b1
  go_wp2_with (go_at_call 29; refine (HH.out.2.1 _).mono ?_; rintro e w2 ⟨rfl, hw⟩; subst w2)
  go_at_call 31
  refine (ivOf _ R w1 (HH.out.2.2.1.below H1.out.1) HH.out.2.2.2.1).mono ?_
  rintro e w2 ⟨r2, rfl, o2, b2⟩
  have H2 : Hid _ := And.intro o2 (H1.out.1.trans (b2.mono H1.out.1.size))
  clear o2 b2
  go_wp2_with fail
  go_at_call 34
  refine (fromI _ R n w1.heap.size w2 H2.out.1 HH.out.2.2.2.1 HH.out.2.2.2.2).mono ?_
  rintro e w3 ⟨r3, rfl, o3, b3⟩
  have H3 : Hid _ := And.intro o3.row (H2.out.2.trans (b3.mono H2.out.2.size))
  clear o3 b3
  go_wp2_with fail
  go_at_call 30
  refine (rgOf _ (fromL n R) w3 H3.out.1 (Nat.le_trans (fromL_length n R) HH.out.2.2.2.1)).mono ?_
  rintro e w4 ⟨r4, rfl, o4, b4⟩
  have H4 : Hid _ := And.intro (o4.mono H3.out.2.size) (H3.out.2.trans (b4.mono H3.out.2.size))
  clear o4 b4
  go_wp2
  go_ret2
  exact ⟨_, rfl, H4.out.1, H4.out.2⟩
end Go.Proofs.Ytlmfgnjampeckaa
