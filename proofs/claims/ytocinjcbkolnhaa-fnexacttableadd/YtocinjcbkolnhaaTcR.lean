import Derived.Test.YtocinjcbkolnhaaTcM
namespace Go.Proofs.Ytocinjcbkolnhaa
open Go.RowKit
set_option linter.unusedVariables false

theorem SField.c0 (e : SField) : e.c[0]? = some (.string e.f0) := rfl
theorem SField.c1 (e : SField) : e.c[1]? = some (.string e.f1) := rfl
theorem rcF_of (RL : List SField) (zs : List Value) (hl : zs.length = RL.length * 2) (hz : ∀ j, j < RL.length → ∀ f, f < 2 → zs[j * 2 + f]? = ((SField.L RL).getD j [])[f]?) : zs = rcF RL := by
  apply List.ext_getElem?
  intro i
  by_cases h : i < RL.length * 2
  · obtain ⟨j, hj⟩ : ∃ j, i = j * 2 ∨ i = j * 2 + 1 := ⟨i / 2, by omega⟩
    rcases hj with rfl | rfl
    · have := hz j (by omega) 0 (by decide)
      rw [SField.at RL j (by omega)] at this
      rw [rc_get0F _ j (by omega)]
      exact this
    · have := hz j (by omega) 1 (by decide)
      rw [SField.at RL j (by omega)] at this
      rw [rc_get1F _ j (by omega)]
      exact this
  · rw [List.getElem?_eq_none (by omega), List.getElem?_eq_none (by rw [rc_lengthF]; omega)]
theorem OT.rg {w : World} {G R base : Nat} {f mo ca ad cost : Int} {RL : List SField} (h : OT w G R base f mo ca ad cost RL) : rgBF w R RL := by
  obtain ⟨zs, ⟨hzl, ho⟩, hz⟩ := h.row
  rcases ho with ⟨e, _⟩ | ⟨g, cap, cur, e, hb, hh, hn, hm, hs, ht⟩
  · cases e
  · simp only [Value.slice.injEq, Option.some.injEq, Addr.mk.injEq, and_true] at e
    obtain ⟨rfl, _, rfl⟩ := e
    have hL : (SField.L RL).length = RL.length := List.length_map _
    rw [hL] at hzl ht hz
    rw [h.len] at ht
    have e1 : cur.toList = zs := by rw [← ht, List.take_of_length_le (by rw [Array.length_toList, hs]; omega)]
    have e2 := rcF_of RL zs hzl hz
    unfold rgBF
    rw [hh, ← e2, ← e1]
theorem gown_of_rg {w : World} {R base n : Nat} {RL : List SField} (h : rgBF w R RL) (hl : RL.length = n) (hb : base ≤ R) (hm : n ≤ 1000000) : GOwns 35 2 w base (.slice (some ⟨R, 0, none⟩) n n) (SField.L RL) := by
  subst hl
  have hL : (SField.L RL).length = RL.length := List.length_map _
  refine ⟨rcF RL, ⟨by rw [rc_lengthF, hL]; omega, Or.inr ⟨R, RL.length, (rcF RL).toArray, by rw [hL], hb, h, by omega, by unfold maxLen; omega, by simp [rc_lengthF]; omega, ?_⟩⟩, fun j hj q hq => ?_⟩
  · rw [hL, List.take_of_length_le (by simp [rc_lengthF]; omega)]
  · rw [hL] at hj
    rw [SField.at RL j hj]
    obtain rfl | rfl : q = 0 ∨ q = 1 := by omega
    · exact rc_get0F RL j hj
    · exact rc_get1F RL j hj
theorem OT.of_rg {w : World} {G R base : Nat} {f mo ca ad cost : Int} {RL : List SField} (hb : w.heap[G]? = some (.cells #[.slice (some ⟨R, 0, none⟩) 124 124, .int .i64 f, .int .i64 mo, .int .i64 ca, .int .i64 ad, .int .i64 cost] 58 (0, 0))) (h : rgBF w R RL) (hl : RL.length = 124) (hB : base ≤ R) (hne : R ≠ G) : OT w G R base f mo ca ad cost RL :=
  ⟨hb, gown_of_rg h hl hB (by decide), hl, hne⟩
theorem shO_is {RL L : List SField} {f n A : Nat} (h : RingHas RL f L n) (hl : RL.length = 124) (en : L.length = n) (hn : n ≤ 124) (hA : A ≤ n) : shOF RL (f % 124) A (min A (124 - f % 124)) = L.take A := by
  have hlen : (shOF RL (f % 124) A (min A (124 - f % 124))).length = A := by
    have hm := Nat.mod_lt f (show 0 < 124 by decide)
    unfold shOF
    rw [cpL_lengthF _ _ _ _ _ (by omega) (by rw [cpL_lengthF _ _ _ _ _ (by omega) (by simp; omega)]; simp; omega), cpL_lengthF _ _ _ _ _ (by omega) (by simp; omega)]
    simp
  apply List.ext_getElem?
  intro i
  by_cases hi : i < A
  · have h1 := shO_gF RL 124 f A i hl (by decide) (by omega) hi
    have h2 := h i (by omega)
    have h3 : gDF (shOF RL (f % 124) A (min A (124 - f % 124))) i = L.getD i default := h1.trans h2
    rw [List.getElem?_take_of_lt hi]
    have a1 : i < (shOF RL (f % 124) A (min A (124 - f % 124))).length := by omega
    have a2 : i < L.length := by omega
    simp only [gDF, List.getD, List.getElem?_eq_getElem a1, List.getElem?_eq_getElem a2, Option.getD_some] at h3
    rw [List.getElem?_eq_getElem a1, List.getElem?_eq_getElem a2, h3]
  · rw [List.getElem?_eq_none (by omega), List.getElem?_eq_none (by rw [List.length_take]; omega)]
theorem RingHas.shift {RL L : List SField} {f n A : Nat} (h : RingHas RL f L n) (hl : RL.length = 124) (hn : n ≤ 124) (hA : A ≤ n) : RingHas (shLF RL (f % 124) A (min A (124 - f % 124))) (f + A) (L.drop A) (n - A) := by
  intro j hj
  have h1 := shL_gF RL 124 f A ((f + A + j) % 124) hl (by decide) (by omega) (Nat.mod_lt _ (by decide))
  rw [if_neg (by rintro ⟨i, hi, he⟩; omega)] at h1
  have h2 := h (A + j) (by omega)
  rw [← Nat.add_assoc] at h2
  have h3 : (L.drop A).getD j default = L.getD (A + j) default := by simp [List.getD]
  rw [h3]
  exact h1.trans h2
set_option maxRecDepth 20000 in
set_option maxHeartbeats 4000000 in
theorem makeRoomI (G R base f n : Nat) (mo ca ad more : Int) (RL L : List SField) (w : World) (ot : OT w G R base f mo ca ad (csts L) RL) (hR : RingHas RL f L n) (en : L.length = n) (hn : n ≤ 124) (ht : txs L ≤ 1048576) (hf : (f : Int) + n ≤ 4611686018427387902) (hm0 : 0 ≤ more) (hm1 : more ≤ ca) (hca : ca ≤ 4096) :
    Calls Try.prog 32 #[.pointer (some ⟨G, 0, none⟩), .int .i64 more] w fun e w' => e = .returned (.tuple #[]) ∧ (∃ RL' A, A = gng (ca - more) L ∧ OT w' G R base ((f + A : Nat) : Int) mo ca ad (csts (L.drop A)) RL' ∧ RingHas RL' (f + A) (L.drop A) (n - A)) ∧ ChgF (K2F G R) w w' := by
  obtain ⟨A, eA⟩ : ∃ A, A = gng (ca - more) L := ⟨_, rfl⟩
  have hA : A ≤ n := by rw [eA, ← en]; exact gng_le _ L
  have GG := goingI G R base f n mo ca ad more RL L w.drew (ot.below (drew_below w)) hR en hn ht hf hm0 hm1 hca
  rw [← eA] at GG
  obtain ⟨gl, rl, bl⟩ := ot.lt
  have SS : ∀ u : World, Below w.heap.size w u → Calls Try.prog 39 #[.pointer (some ⟨G, 0, none⟩), .int .i64 (A : Int)] u fun e w' => e = .returned (.slice (some ⟨u.heap.size, 0, none⟩) A A) ∧ rgBF w' u.heap.size (L.take A) ∧ u.heap.size < w'.heap.size ∧ OT w' G R base ((f + A : Nat) : Int) mo ca ad (csts L) (shLF RL (f % 124) A (min A (124 - f % 124))) ∧ ChgF (K2F G R) u w' := by
    intro u hu
    have otu := ot.below hu
    obtain ⟨t0, t1, -⟩ := otu.cells
    refine (shiftIF G 0 R 124 f A (f % 124) (min A (124 - f % 124)) RL u t0 t1 (bk_free otu.blk 1) otu.rg otu.len (by decide) (by decide) (by omega) (by omega) otu.ne.symm otu.lt.1 rfl rfl).mono ?_
    rintro e w' ⟨rfl, h1, h2, h3, h4⟩
    refine ⟨rfl, ?_, (Array.getElem?_eq_some_iff.1 h1).1, ?_, h4⟩
    · rw [shO_is hR otu.len en hn hA] at h1; exact h1
    · refine OT.of_rg ?_ h2 (shL_lengthF RL 124 f A otu.len (by decide) (by omega)) otu.lt.2.2 otu.ne
      rw [h3, bk_set otu.blk 1 _]
      simp
  have hc0 : csts L ≤ 1000000000 := by rw [csts_txs, en]; omega
  have HR := hR.shift ot.len hn hA
  have HH : Hid _ := And.intro GG (And.intro SS (And.intro HR (And.intro en ht)))
  have HM : Hid _ := And.intro ot (And.intro hR eA)
  clear GG SS HR en ht ot hR eA
  go_enter Try.func32, Try.ntmps32
  go_upto_region 0 with fail
  go_region_with (first
    | (go_at_call 40; refine HH.out.1.mono ?_; rintro e w1 ⟨rfl, b1⟩; replace b1 := (drew_below w).trans b1)
    | (go_at_call 39; refine (HH.out.2.1 w1 b1).mono ?_; rintro e w2 ⟨rfl, r2, s2, o2, c2⟩))
  all_goals
    obtain ⟨C, eC⟩ : ∃ C, C = w1.heap.size := ⟨_, rfl⟩
    have hCG : C ≠ G ∧ C ≠ R := by have := b1.size; omega
    obtain ⟨hCG, hCR⟩ := hCG
    rw [← eC] at r2 s2 ⊢
    have OO : Hid _ := And.intro r2 (And.intro o2 ((ChgF.of_below b1).trans c2))
    clear r2 o2 c2 b1 eC
    go_simp
    go_wp2_with fail
    go_loopw [14] (fun i wr => ∃ k : Nat, k ≤ A ∧ i = .int .i64 (k : Int) ∧ OT wr G R base ((f + A : Nat) : Int) mo ca ad (csts (L.drop k)) (shLF RL (f % 124) A (min A (124 - f % 124))) ∧ rgBF wr C (L.take A) ∧ ChgF (K2F G R) w wr) (fun i _ => A - (intOf i).toNat)
    case atStart => exact ⟨0, by omega, rfl, OO.out.2.1, OO.out.1, OO.out.2.2⟩
    case round =>
      obtain ⟨k, hk, rfl, ot, hrg, cw⟩ := hrel
      by_cases hlt : k < A
      · have hkn : k < n := by omega
        have hkL : k < L.length := by rw [HH.out.2.2.2.1]; exact hkn
        have hs := csts_drop L k hkL
        have hnn := csts_nn (L.drop (k + 1))
        have hlo := cst_lo (L.getD k default)
        have hta := txs_at L k hkL
        have hdl : csts (L.drop k) ≤ 1000000000 := by
          have h := csts_app (L.take k) (L.drop k)
          rw [List.take_append_drop] at h
          have := csts_nn (L.take k)
          omega
        have hCl : C < wr.heap.size := (Array.getElem?_eq_some_iff.1 hrg).1
        have hTk : (L.take A).getD k default = L.getD k default := by simp [List.getD, List.getElem?_take_of_lt hlt]
        have hTl : k < (L.take A).length := by rw [List.length_take]; omega
        have c0 : wr.cell? ⟨C, k * 2, none⟩ = some (.string (L.getD k default).f0) := by rw [bk_cell hrg, List.getElem?_toArray, rc_get0F _ k hTl, hTk]
        have c1 : wr.cell? ⟨C, k * 2 + 1, none⟩ = some (.string (L.getD k default).f1) := by rw [bk_cell hrg, List.getElem?_toArray, rc_get1F _ k hTl, hTk]
        have CC : ∀ u, _ := fun u => costI (L.getD k default) u (by have := HH.out.2.2.2.2; omega)
        obtain ⟨F, eF⟩ : ∃ F, F = L.getD k default := ⟨_, rfl⟩
        rw [← eF] at hs c0 c1 CC hlo
        obtain ⟨a, c⟩ := F
        simp only at c0 c1 CC
        obtain ⟨D, eD⟩ : ∃ D, D = cst ⟨a, c⟩ := ⟨_, rfl⟩
        obtain ⟨S, eS⟩ : ∃ S, S = csts (L.drop k) := ⟨_, rfl⟩
        rw [← eD] at hs CC hlo
        rw [← eS] at hs hdl ot
        have eS1 : csts (L.drop (k + 1)) = S - D := by omega
        have s0 : 0 ≤ S - D := by omega
        have ba : Below wr.heap.size wr (wr.alloc (.cells #[.string a, .string c] 35)) := (Below.refl _ _).alloc (Nat.le_refl _) _
        have bd : Below wr.heap.size wr (wr.alloc (.cells #[.string a, .string c] 35)).drew := ba.trans ((drew_below _).mono ba.size)
        have otd := ot.below bd
        obtain ⟨yk, y0, y1, _, _⟩ := ((After.new wr (.cells #[.string a, .string c] 35)).next (drew_below _)).cells2
        obtain ⟨t0, t1, t2, t3, t4, t5⟩ := otd.cells
        have g5 : (wr.alloc (.cells #[.string a, .string c] 35)).drew.frozen? ⟨G, 5, none⟩ = false := bk_free otd.blk 5
        have H1 : Hid _ := And.intro CC (And.intro eS1 (And.intro otd (And.intro bd (And.intro hrg cw))))
        clear CC eS1 otd bd ba ot hrg cw eF eD eS hs hta hkL hTk hTl hnn yk
        go_upto_region 3 with fail
        go_region_with (go_at_call 31; refine (H1.out.1 (wr.alloc (.cells #[.string a, .string c] 35)).drew).mono ?_; rintro e wz ⟨rfl, bz⟩; have otz := H1.out.2.2.1.below bz; obtain ⟨_, _, _, _, _, t5'⟩ := otz.cells; have g5' : wz.frozen? ⟨G, 5, none⟩ = false := bk_free otz.blk 5; have HZ : Hid _ := And.intro otz (H1.out.2.2.2.1.trans (bz.mono H1.out.2.2.2.1.size)); clear otz bz)
        all_goals
          have e5 : IntKind.i64.wrap (S - D) = S - D := by rw [IntKind.wrap_i64]; omega
          rw [e5]
          have hrz : rgBF wz C (L.take A) := (HZ.out.2.block C hCl).trans H1.out.2.2.2.2.1
          have H3 : Hid _ := And.intro (HZ.out.1.setCost (S - D)) (And.intro (show rgBF (wz.setCell ⟨G, 5, none⟩ (.int .i64 (S - D))) C (L.take A) from (bk_other hCG _ _).trans hrz) ((H1.out.2.2.2.2.2.trans (ChgF.of_below HZ.out.2)).set' G 5 (.int .i64 (S - D)) (Or.inl rfl)))
          clear hrz t0 t1 t2 t3 t4 t5 t5' g5 g5' y0 y1 c0 c1
          go_wp2_with fail
          go_roundw
          case rel => exact ⟨k + 1, by omega, by go_num, by rw [H1.out.2.1]; exact H3.out.1, H3.out.2.1, H3.out.2.2⟩
          case measure => simp [intOf]; omega
      · obtain rfl : k = A := by omega
        have H1 : Hid _ := And.intro ot cw
        clear ot hrg cw
        go_wp2
        go_end0
        exact ⟨rfl, ⟨_, k, HM.out.2.2, H1.out.1, HH.out.2.2.1⟩, H1.out.2⟩
end Go.Proofs.Ytocinjcbkolnhaa
