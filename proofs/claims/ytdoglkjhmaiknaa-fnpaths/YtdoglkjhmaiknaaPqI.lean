import Derived.Test.YtdoglkjhmaiknaaPqD
import Derived.Deep.LoopGhost
import Derived.Deep.CutRange
import Derived.Deep.CutBlock
import Derived.Test.YtdoglkjhmaiknaaPqC
import Derived.Test.YtdoglkjhmaiknaaPqH
import Derived.Test.YtdoglkjhmaiknaaPqG
namespace Go.Proofs.Ytdoglkjhmaiknaa
open Go.RowKit
set_option linter.unusedVariables false
set_option linter.unusedSimpArgs false

/-- Amid the statement: what has come up holds what it should. -/
structure PJ (W0 : World) (g : Nat) (c : Value) (xs : List Int) (s : St) (p : Int) (ad kk nn : Int) (f : Nat → Bool) (w : World) (u9 u32 u33 u34 u35 u36 u37 u38 u39 u40 : Value) : Prop where
  x0 : f 0 = true → f 3 = false → ∃ b : Nat, u32 = .slice (some ⟨b, 0, none⟩) 7 7 ∧ w.heap[b]? = some (.cells tabY7 3 (0, 0)) ∧ g < b
  x1 : f 1 = true → u33 = .pointer (some ⟨g, 0, none⟩)
  x2 : f 2 = true → u34 = .int .i64 (nextV xs 7 s)
  x3 : f 3 = true → f 4 = false → ∃ b : Nat, u35 = .pointer (some ⟨b, (nextV xs 7 s).toNat, none⟩) ∧ w.heap[b]? = some (.cells tabY7 3 (0, 0)) ∧ g < b
  x4 : f 4 = true → u36 = .int .i64 kk
  x5 : f 5 = true → u37 = .int .i64 ad
  x6 : f 6 = true → u38 = .pointer (some ⟨g, 0, none⟩)
  x7 : f 7 = true → u39 = .int .i64 nn
  x8 : f 8 = true → u40 = .agg #[.int .i64 kk, .int .i64 nn, .int .i64 ad, .slice none 0 0]
  x9 : f 9 = true → ∃ b : Nat, u9 = .pointer (some ⟨b, 0, none⟩) ∧ g < b ∧ W0.heap.size ≤ b ∧ w.heap[b]? = some (.cells (if f 10 = true then #[.int .i64 kk, .int .i64 nn, .int .i64 ad, .slice none 0 0] else #[.int .i64 0, .int .i64 0, .int .i64 0, .slice none 0 0]) 34 (0, 0))
  dz : Dz w g c xs (if f 7 = true then nextS xs 600 (nextS xs 7 s) else if f 2 = true then nextS xs 7 s else s) (p + 3 * (((f 2).toNat + (f 7).toNat : Nat) : Int))
  gr : W0.grownBy w (some g)
  q : f 7 = true → f 2 = true
  late : f 10 = true → ∀ i, i < 10 → f i = true
theorem toNat_leY (b : Bool) : b.toNat ≤ 1 := by cases b <;> decide
set_option maxRecDepth 20000 in
set_option maxHeartbeats 8000000 in
theorem drawPR (v : Value) (xs : List Int) (w : World) (hrow : Row w .u8 v xs) (hB : Bytes xs) (hl : xs.length ≤ 1048576) :
    Calls Try.prog 4 #[v] w fun e w' => ∃ r U, e = .returned (.tuple #[.bool (prSrv xs), r]) ∧ OpP w' (w.heap.size + 1) r (dpr xs) U ∧ Below w.heap.size w w' := by
  have S0 := sourceC v xs w hrow hB hl
  have D0 := dz_new hrow hB hl
  have H0 : Hid _ := And.intro S0 (And.intro D0 ((Below.refl w.heap.size w).alloc (Nat.le_refl _) (.cells #[v, .int .i64 0, .int .i64 ((xs.length : Int) % 1000)] 53)))
  clear S0 D0 hrow hB hl
  go_enter Try.func4, Try.ntmps4
  go_wp2_with fail
  go_at_call 8
  refine H0.out.1.mono ?_
  rintro e w1 ⟨rfl, hw1⟩
  have H1 : Hid _ := And.intro (show Dz w1 w.heap.size v xs (stZ xs) 0 by rw [hw1]; exact H0.out.2.1) (And.intro (show Below w.heap.size w w1 by rw [hw1]; exact H0.out.2.2) (show w.heap.size + 1 ≤ w1.heap.size by rw [hw1]; simp))
  clear hw1 H0
  go_wp2_with fail
  go_at_call 9
  refine (nextZ w.heap.size v xs (stZ xs) 0 5 _ (H1.out.1.alloc _) (by decide) (by decide) (by decide)).mono ?_
  rintro e w2 ⟨z, sz, ez, esz, rfl, z0, z1, d2, g2⟩
  obtain ⟨srv, esrv⟩ : ∃ srv : Bool, srv = decide (0 < z) := ⟨_, rfl⟩
  have eS1 : prSrv xs = srv := by unfold prSrv; rw [← ez, esrv]
  have hz : decide (0 < z) = srv := esrv.symm
  have S2 : OpP w2 (w.heap.size + 1) (.slice (some ⟨w1.heap.size, 0, none⟩) 0 0) [] (fun _ => .slice none 0 0) := (opP0 w1 (w.heap.size + 1) H1.out.2.2).drawn g2 (by omega)
  have b2 : Below w.heap.size w w2 := (H1.out.2.1.alloc (by have := H1.out.2.2; omega) _).grown g2 (by have h2 := H1.out.2.2; simp; omega) (fun q hq => by have := Option.some.inj hq; omega)
  have H2 : Hid _ := And.intro d2 (And.intro S2 (And.intro b2 (And.intro eS1 esz)))
  clear d2 g2 H1 S2 b2 eS1 ez esz esrv
  go_wp2_with fail
  go_at_call 10
  refine (sizeZ w.heap.size v xs sz _ 70 _ H2.out.1 (by decide) (by decide)).mono ?_
  rintro e w3 ⟨k, ek, rfl, k0, k1, hw3⟩
  subst w3
  have HK : Hid _ := And.intro ek True.intro
  clear ek
  go_wp2_with fail
  go_at_call 9
  refine (nextZ w.heap.size v xs sz _ (k + 1) _ H2.out.1 (by decide) (by omega) (by omega)).mono ?_
  rintro e w3 ⟨n, s0, en, es0, rfl, n0, n1, d3, g3⟩
  obtain ⟨m, rfl⟩ := Int.eq_ofNat_of_zero_le n0
  have ek := HK.out.1
  have esz := H2.out.2.2.2.2
  have eN : pN xs = m + 1 := by unfold pN; rw [← ek, ← esz, ← en, Int.toNat_natCast]
  have eS : pS0 xs = s0 := by unfold pS0; rw [← ek, ← esz, ← es0]
  have S3 : OpP w3 (w.heap.size + 1) (.slice (some ⟨w1.heap.size, 0, none⟩) 0 0) [] (fun _ => .slice none 0 0) := H2.out.2.1.drawn g3 (by omega)
  have b3 : Below w.heap.size w w3 := H2.out.2.2.1.grown g3 H2.out.2.2.1.size (fun q hq => by have := Option.some.inj hq; omega)
  have H3 : Hid _ := And.intro d3 (And.intro S3 (And.intro b3 (And.intro eN (And.intro eS H2.out.2.2.2.1))))
  have hm : m ≤ 70 := by omega
  clear d3 g3 H2 n0 n1 k0 k1 eN eS en es0 ek HK S3 b3 esz
  go_wp2_with fail
  go_loopg [5, 7, 8, 9] (m + 1) (fun q ov av iv bv wr => ∃ (i : Nat) (ad : Int), i ≤ m + 1 ∧ q = m + 1 - i ∧ iv = .int .i64 ((m : Int) - i) ∧ av = .int .i64 ad ∧ ad = (pLp xs srv s0 i).2.1 ∧ (∃ U, OpP wr (w.heap.size + 1) ov (pLp xs srv s0 i).1 U) ∧ Dz wr w.heap.size v xs (pLp xs srv s0 i).2.2 (6 + 1100 * i) ∧ Below w.heap.size w wr)
  case atStart => exact ⟨0, 0, by omega, by omega, by simp, rfl, rfl, ⟨_, H3.out.2.1⟩, H3.out.1, H3.out.2.2.1⟩
  case round =>
    obtain ⟨i, ad, hi, hq, rfl, rfl, ea, ⟨U, hS⟩, hd, hb⟩ := hrel
    obtain ⟨s, es⟩ : ∃ s, s = (pLp xs srv s0 i).2.2 := ⟨_, rfl⟩
    rw [← es] at hd
    obtain ⟨ao, co, ev⟩ := hS.brow.form
    rw [pLp_len] at ev
    subst ev
    have hsz : w.heap.size < wr.heap.size := hd.lt
    have HR : Hid _ := And.intro hS (And.intro hd (And.intro hb (And.intro hq (And.intro ea es))))
    clear hS hd hb hq ea es
    by_cases hlt : i ≤ m
    · have hge : (0 : Int) ≤ (m : Int) - i := by omega
      go_upto_region 8 with fail
      go_cut [29] from 25 to 83 (fun v9 wx => ∃ (b : Bool) (s4 : St), v9 = .bool (b && srv) ∧ pA xs srv ad s = (if (b && srv) = true then (nextV xs 4 s4, nextS xs 4 s4) else (ad, s4)) ∧ Dz wx w.heap.size v xs s4 (6 + 1100 * i + 3) ∧ OpP wx (w.heap.size + 1) (.slice ao i co) (pLp xs srv s0 i).1 U ∧ Below w.heap.size w wx)
      case first =>
        go_wp2_with fail
        go_at_call 11
        refine (chanceZ w.heap.size v xs s _ 8 _ HR.out.2.1 (by omega) (by decide) (by decide)).mono ?_
        rintro e w4 ⟨b4, s4, eb4, es4, rfl, d4, g4⟩
        have S4 := HR.out.1.drawn g4 (by omega)
        have B4 := HR.out.2.2.1.grown g4 HR.out.2.2.1.size (fun q hq => by have := Option.some.inj hq; omega)
        have H4 : Hid _ := And.intro d4 (And.intro S4 (And.intro B4 (pA_if xs srv ad s s4 b4 eb4 es4)))
        clear d4 g4 S4 B4 eb4 es4
        cases b4
        · go_wp2_with fail
          go_meet
          exact ⟨false, s4, rfl, H4.out.2.2.2, H4.out.1, H4.out.2.1, H4.out.2.2.1⟩
        · go_wp2_with fail
          go_meet
          exact ⟨true, s4, rfl, H4.out.2.2.2, H4.out.1, H4.out.2.1, H4.out.2.2.1⟩
      case rest =>
      obtain ⟨b, s4, rfl, eA, d4, S4, B4⟩ := hcut
      obtain ⟨t, et⟩ : ∃ t, t = (b && srv) := ⟨_, rfl⟩
      rw [← et] at eA ⊢
      have H4 : Hid _ := And.intro d4 (And.intro S4 (And.intro B4 eA))
      clear d4 S4 B4 eA et
      go_upto_if 29 with fail
      go_cut [7] from 23 to 83 (fun v7 wx => v7 = .int .i64 (pA xs srv ad s).1 ∧ Dz wx w.heap.size v xs (pA xs srv ad s).2 (6 + 1100 * i + 6) ∧ OpP wx (w.heap.size + 1) (.slice ao i co) (pLp xs srv s0 i).1 U ∧ Below w.heap.size w wx)
      case first =>
        cases t
        · go_wp2_with fail
          go_meet
          rw [H4.out.2.2.2, if_neg (by decide)]
          exact ⟨rfl, H4.out.1.mono (by omega), H4.out.2.1, H4.out.2.2.1⟩
        · go_wp2_with fail
          go_at_call 9
          refine (nextZ w.heap.size v xs s4 _ 4 _ H4.out.1 (by omega) (by decide) (by decide)).mono ?_
          rintro e w5 ⟨x, s5, ex, es5, rfl, x0, x1, d5, g5⟩
          have H5 : Hid _ := And.intro d5 (And.intro (H4.out.2.1.drawn g5 (by omega)) (And.intro (H4.out.2.2.1.grown g5 H4.out.2.2.1.size (fun q hq => by have := Option.some.inj hq; omega)) (And.intro ex es5)))
          clear d5 g5 ex es5
          go_wp2_with fail
          go_meet
          rw [H4.out.2.2.2, if_pos True.intro]
          dsimp only
          rw [← H5.out.2.2.2.1, ← H5.out.2.2.2.2]
          exact ⟨rfl, H5.out.1.mono (by omega), H5.out.2.1, H5.out.2.2.1⟩
      case rest =>
      obtain ⟨rfl, d5, S5, B5⟩ := hcut
      obtain ⟨rA, eA⟩ : ∃ r, r = pA xs srv ad s := ⟨_, rfl⟩
      rw [← eA] at d5 ⊢
      obtain ⟨aA, sA⟩ := rA
      dsimp only at d5 ⊢
      have H5 : Hid _ := And.intro d5 (And.intro S5 (And.intro B5 eA))
      clear d5 S5 B5 eA H4
      go_upto_region 10 with fail
      obtain ⟨kk, ekk⟩ : ∃ kk, kk = k7.getD (nextV xs 7 sA).toNat 0 := ⟨_, rfl⟩
      obtain ⟨nn, enn⟩ : ∃ nn, nn = nextV xs 600 (nextS xs 7 sA) := ⟨_, rfl⟩
      have HKN : Hid _ := And.intro ekk enn
      clear ekk enn
      refine region_I (fun f a wx => ∃ u9 u32 u33 u34 u35 u36 u37 u38 u39 u40 : Value, a = { tmps := #[v, undef, .bool false, .slice none 0 0, .pointer (some ⟨w.heap.size, 0, none⟩), .slice ao i co, .bool srv, .int .i64 aA, .int .i64 ((m : Int) - i), u9, v, .pointer (some ⟨w.heap.size, 0, none⟩), .slice (some ⟨w1.heap.size, 0, none⟩) 0 0, .pointer (some ⟨w.heap.size, 0, none⟩), .int .i64 z, .bool srv, .pointer (some ⟨w.heap.size, 0, none⟩), .pointer (some ⟨w.heap.size, 0, none⟩), .int .i64 k, .int .i64 (k + 1), .int .i64 (m : Int), .int .i64 ((m : Int) - i), .bool true, u23, u24, u25, u26, u27, u28, u29, u30, u31, u32, u33, u34, u35, u36, u37, u38, u39, u40, u41, u42, u43, u44, u45, u46, u47, u48, u49, u50, u51, u52, u53, u54, u55, u56, u57, u58, u59, u60, u61, u62, u63, u64, u65, u66, u67, u68, u69, u70, u71, u72, u73, u74, u75, u76, u77, u78, u79, u80, u81, u82, u83, undef, undef], defers := [] } ∧ PJ wc w.heap.size v xs sA (6 + 1100 * i + 6) aA kk nn f wx u9 u32 u33 u34 u35 u36 u37 u38 u39 u40) (by kernel_rfl) (by kernel_rfl) ?step ?done ?start
      case start =>
        exact ⟨_, _, _, _, _, _, _, _, _, _, rfl, ⟨fun h => by simp at h, fun h => by simp at h, fun h => by simp at h, fun h => by simp at h, fun h => by simp at h, fun h => by simp at h, fun h => by simp at h, fun h => by simp at h, fun h => by simp at h, fun h => by simp at h, by simpa using (show Dz wc.drew w.heap.size v xs sA (6 + 1100 * i + 6) from H5.out.1.grown (r := none) ⟨rfl, rfl, rfl, Nat.le_refl _, fun _ _ _ => rfl⟩ (fun k hk => by cases hk)), ⟨rfl, rfl, rfl, Nat.le_refl _, fun _ _ _ => rfl⟩, fun h => by simp at h, fun h => by simp at h⟩⟩
      case step =>
        intro f a wx j op hInv hoj hfj hall K hK
        obtain ⟨u9, u32, u33, u34, u35, u36, u37, u38, u39, u40, rfl, hI⟩ := hInv
        have hgl : w.heap.size < wx.heap.size := hI.dz.lt
        have hj : j < 11 := (Array.getElem?_eq_some_iff.1 hoj).1
        have hp1 := toNat_leY (f 2)
        have hp2 := toNat_leY (f 7)
        have h7 := nextV_bd xs 7 sA (by decide)
        obtain rfl | rfl | rfl | rfl | rfl | rfl | rfl | rfl | rfl | rfl | rfl : j = 0 ∨ j = 1 ∨ j = 2 ∨ j = 3 ∨ j = 4 ∨ j = 5 ∨ j = 6 ∨ j = 7 ∨ j = 8 ∨ j = 9 ∨ j = 10 := by omega
        · obtain rfl := Option.some.inj hoj
          have h10 : f 10 = false := by
            cases h : f 10 with
            | false => rfl
            | true => exact absurd (hI.late h 0 (by omega)) (by rw [hfj]; simp)
          have HI2 : Hid _ := And.intro hI True.intro
          clear hI
          go_simp
          refine hK _ _ ?_
          refine ⟨_, _, _, _, _, _, _, _, _, _, rfl, ?_⟩
          have hI := HI2.out.1
          exact ⟨fun _ => fun _ => ⟨_, rfl, heap_alloc_new wx _, by omega⟩, fun h => hI.x1 (by simpa using h), fun h => hI.x2 (by simpa using h), fun h h3 => by obtain ⟨b, e, hb, hn⟩ := hI.x3 (by simpa using h) (by simpa using h3); exact ⟨b, e, al_oldY hb _, hn⟩, fun h => hI.x4 (by simpa using h), fun h => hI.x5 (by simpa using h), fun h => hI.x6 (by simpa using h), fun h => hI.x7 (by simpa using h), fun h => hI.x8 (by simpa using h), fun h => by obtain ⟨b, e, hn, hz, hb⟩ := hI.x9 (by simpa using h); exact ⟨b, e, hn, hz, by simpa using (al_oldY hb _)⟩, by simpa using hI.dz.alloc _, grown_trans hI.gr (World.grownBy_alloc wx _ _), fun h => by have := hI.q (by simpa using h); simp [this], fun h i hi => by have := hI.late (by simpa using h) i hi; simp [this]⟩
        · obtain rfl := Option.some.inj hoj
          have h10 : f 10 = false := by
            cases h : f 10 with
            | false => rfl
            | true => exact absurd (hI.late h 1 (by omega)) (by rw [hfj]; simp)
          have HI2 : Hid _ := And.intro hI True.intro
          clear hI
          go_simp
          refine hK _ _ ?_
          refine ⟨_, _, _, _, _, _, _, _, _, _, rfl, ?_⟩
          have hI := HI2.out.1
          exact ⟨fun h h3 => by obtain ⟨b, e, hb, hn⟩ := hI.x0 (by simpa using h) (by simpa using h3); exact ⟨b, e, hb, hn⟩, fun _ => rfl, fun h => hI.x2 (by simpa using h), fun h h3 => by obtain ⟨b, e, hb, hn⟩ := hI.x3 (by simpa using h) (by simpa using h3); exact ⟨b, e, hb, hn⟩, fun h => hI.x4 (by simpa using h), fun h => hI.x5 (by simpa using h), fun h => hI.x6 (by simpa using h), fun h => hI.x7 (by simpa using h), fun h => hI.x8 (by simpa using h), fun h => by obtain ⟨b, e, hn, hz, hb⟩ := hI.x9 (by simpa using h); exact ⟨b, e, hn, hz, by simpa using (hb)⟩, by simpa using hI.dz, hI.gr, fun h => by have := hI.q (by simpa using h); simp [this], fun h i hi => by have := hI.late (by simpa using h) i hi; simp [this]⟩
        · obtain rfl := Option.some.inj hoj
          have h1_ := hall ⟨1, .data⟩ (by simp) rfl
          have h10 : f 10 = false := by
            cases h : f 10 with
            | false => rfl
            | true => exact absurd (hI.late h 2 (by omega)) (by rw [hfj]; simp)
          obtain rfl := hI.x1 h1_
          have f7 : f 7 = false := by
            cases h : f 7 with
            | false => rfl
            | true => exact absurd (hI.q h) (by rw [hfj]; simp)
          have d0 : Dz wx w.heap.size v xs sA (6 + 1100 * i + 6) := by have := hI.dz; rw [f7, hfj] at this; simpa using this
          have HC := nextZ w.heap.size v xs _ _ 7 wx d0 (by omega) (by decide) (by decide)
          have HI2 : Hid _ := And.intro hI True.intro
          clear hI d0
          go_simp
          go_at_call 9
          refine HC.mono ?_
          rintro e w7 ⟨n, s2, en, rfl, rfl, a0, a1, d7, g7⟩
          subst en
          refine hK _ _ ?_
          refine ⟨_, _, _, _, _, _, _, _, _, _, rfl, ?_⟩
          have hI := HI2.out.1
          exact ⟨fun h h3 => by obtain ⟨b, e, hb, hn⟩ := hI.x0 (by simpa using h) (by simpa using h3); exact ⟨b, e, blk_drawnT hb g7 (by omega), hn⟩, fun h => hI.x1 (by simpa using h), fun _ => rfl, fun h h3 => by obtain ⟨b, e, hb, hn⟩ := hI.x3 (by simpa using h) (by simpa using h3); exact ⟨b, e, blk_drawnT hb g7 (by omega), hn⟩, fun h => hI.x4 (by simpa using h), fun h => hI.x5 (by simpa using h), fun h => hI.x6 (by simpa using h), fun h => hI.x7 (by simpa using h), fun h => hI.x8 (by simpa using h), fun h => by obtain ⟨b, e, hn, hz, hb⟩ := hI.x9 (by simpa using h); exact ⟨b, e, hn, hz, by simpa using (blk_drawnT hb g7 (by omega))⟩, by simpa [hfj, f7] using d7.mono (by omega), grown_trans hI.gr g7, fun _ => by simp, fun h i hi => by have := hI.late (by simpa using h) i hi; simp [this]⟩
        · obtain rfl := Option.some.inj hoj
          have h0_ := hall ⟨0, .data⟩ (by simp) rfl
          have h2_ := hall ⟨2, .data⟩ (by simp) rfl
          have h10 : f 10 = false := by
            cases h : f 10 with
            | false => rfl
            | true => exact absurd (hI.late h 3 (by omega)) (by rw [hfj]; simp)
          obtain ⟨b0, rfl, t0, n0⟩ := hI.x0 h0_ hfj
          obtain rfl := hI.x2 h2_
          have HI2 : Hid _ := And.intro hI True.intro
          clear hI
          go_simp
          refine hK _ _ ?_
          refine ⟨_, _, _, _, _, _, _, _, _, _, rfl, ?_⟩
          have hI := HI2.out.1
          exact ⟨fun h h3 => by simp at h3, fun h => hI.x1 (by simpa using h), fun h => hI.x2 (by simpa using h), fun _ => fun _ => ⟨b0, rfl, t0, n0⟩, fun h => hI.x4 (by simpa using h), fun h => hI.x5 (by simpa using h), fun h => hI.x6 (by simpa using h), fun h => hI.x7 (by simpa using h), fun h => hI.x8 (by simpa using h), fun h => by obtain ⟨b, e, hn, hz, hb⟩ := hI.x9 (by simpa using h); exact ⟨b, e, hn, hz, by simpa using (hb)⟩, by simpa using hI.dz, hI.gr, fun h => by have := hI.q (by simpa using h); simp [this], fun h i hi => by have := hI.late (by simpa using h) i hi; simp [this]⟩
        · obtain rfl := Option.some.inj hoj
          have h3_ := hall ⟨3, .data⟩ (by simp) rfl
          have h10 : f 10 = false := by
            cases h : f 10 with
            | false => rfl
            | true => exact absurd (hI.late h 4 (by omega)) (by rw [hfj]; simp)
          obtain ⟨b3, rfl, t3, n3⟩ := hI.x3 h3_ hfj
          have c3 : wx.cell? ⟨b3, (nextV xs 7 sA).toNat, none⟩ = some (.int .i64 kk) := by rw [HKN.out.1]; exact (bk_cell t3 _).trans (tabY7_at _ h7.1 h7.2)
          have HI2 : Hid _ := And.intro hI True.intro
          clear hI
          go_simp
          refine hK _ _ ?_
          refine ⟨_, _, _, _, _, _, _, _, _, _, rfl, ?_⟩
          have hI := HI2.out.1
          exact ⟨fun h h3 => by obtain ⟨b, e, hb, hn⟩ := hI.x0 (by simpa using h) (by simpa using h3); exact ⟨b, e, hb, hn⟩, fun h => hI.x1 (by simpa using h), fun h => hI.x2 (by simpa using h), fun h h3 => by simp at h3, fun _ => rfl, fun h => hI.x5 (by simpa using h), fun h => hI.x6 (by simpa using h), fun h => hI.x7 (by simpa using h), fun h => hI.x8 (by simpa using h), fun h => by obtain ⟨b, e, hn, hz, hb⟩ := hI.x9 (by simpa using h); exact ⟨b, e, hn, hz, by simpa using (hb)⟩, by simpa using hI.dz, hI.gr, fun h => by have := hI.q (by simpa using h); simp [this], fun h i hi => by have := hI.late (by simpa using h) i hi; simp [this]⟩
        · obtain rfl := Option.some.inj hoj
          have h10 : f 10 = false := by
            cases h : f 10 with
            | false => rfl
            | true => exact absurd (hI.late h 5 (by omega)) (by rw [hfj]; simp)
          have HI2 : Hid _ := And.intro hI True.intro
          clear hI
          go_simp
          refine hK _ _ ?_
          refine ⟨_, _, _, _, _, _, _, _, _, _, rfl, ?_⟩
          have hI := HI2.out.1
          exact ⟨fun h h3 => by obtain ⟨b, e, hb, hn⟩ := hI.x0 (by simpa using h) (by simpa using h3); exact ⟨b, e, hb, hn⟩, fun h => hI.x1 (by simpa using h), fun h => hI.x2 (by simpa using h), fun h h3 => by obtain ⟨b, e, hb, hn⟩ := hI.x3 (by simpa using h) (by simpa using h3); exact ⟨b, e, hb, hn⟩, fun h => hI.x4 (by simpa using h), fun _ => rfl, fun h => hI.x6 (by simpa using h), fun h => hI.x7 (by simpa using h), fun h => hI.x8 (by simpa using h), fun h => by obtain ⟨b, e, hn, hz, hb⟩ := hI.x9 (by simpa using h); exact ⟨b, e, hn, hz, by simpa using (hb)⟩, by simpa using hI.dz, hI.gr, fun h => by have := hI.q (by simpa using h); simp [this], fun h i hi => by have := hI.late (by simpa using h) i hi; simp [this]⟩
        · obtain rfl := Option.some.inj hoj
          have h10 : f 10 = false := by
            cases h : f 10 with
            | false => rfl
            | true => exact absurd (hI.late h 6 (by omega)) (by rw [hfj]; simp)
          have HI2 : Hid _ := And.intro hI True.intro
          clear hI
          go_simp
          refine hK _ _ ?_
          refine ⟨_, _, _, _, _, _, _, _, _, _, rfl, ?_⟩
          have hI := HI2.out.1
          exact ⟨fun h h3 => by obtain ⟨b, e, hb, hn⟩ := hI.x0 (by simpa using h) (by simpa using h3); exact ⟨b, e, hb, hn⟩, fun h => hI.x1 (by simpa using h), fun h => hI.x2 (by simpa using h), fun h h3 => by obtain ⟨b, e, hb, hn⟩ := hI.x3 (by simpa using h) (by simpa using h3); exact ⟨b, e, hb, hn⟩, fun h => hI.x4 (by simpa using h), fun h => hI.x5 (by simpa using h), fun _ => rfl, fun h => hI.x7 (by simpa using h), fun h => hI.x8 (by simpa using h), fun h => by obtain ⟨b, e, hn, hz, hb⟩ := hI.x9 (by simpa using h); exact ⟨b, e, hn, hz, by simpa using (hb)⟩, by simpa using hI.dz, hI.gr, fun h => by have := hI.q (by simpa using h); simp [this], fun h i hi => by have := hI.late (by simpa using h) i hi; simp [this]⟩
        · obtain rfl := Option.some.inj hoj
          have h6_ := hall ⟨6, .data⟩ (by simp) rfl
          have h2_ := hall ⟨2, .chain⟩ (by simp) rfl
          have h10 : f 10 = false := by
            cases h : f 10 with
            | false => rfl
            | true => exact absurd (hI.late h 7 (by omega)) (by rw [hfj]; simp)
          obtain rfl := hI.x6 h6_
          have d0 : Dz wx w.heap.size v xs (nextS xs 7 sA) (6 + 1100 * i + 9) := by have := hI.dz; rw [h2_, hfj] at this; exact (show Dz wx w.heap.size v xs (nextS xs 7 sA) _ by simpa using this).mono (by omega)
          have HC := nextZ w.heap.size v xs _ _ 600 wx d0 (by omega) (by decide) (by decide)
          have HI2 : Hid _ := And.intro hI True.intro
          clear hI d0
          go_simp
          go_at_call 9
          refine HC.mono ?_
          rintro e w7 ⟨n, s2, en, rfl, rfl, a0, a1, d7, g7⟩
          obtain rfl : n = nn := en.trans HKN.out.2.symm
          refine hK _ _ ?_
          refine ⟨_, _, _, _, _, _, _, _, _, _, rfl, ?_⟩
          have hI := HI2.out.1
          exact ⟨fun h h3 => by obtain ⟨b, e, hb, hn⟩ := hI.x0 (by simpa using h) (by simpa using h3); exact ⟨b, e, blk_drawnT hb g7 (by omega), hn⟩, fun h => hI.x1 (by simpa using h), fun h => hI.x2 (by simpa using h), fun h h3 => by obtain ⟨b, e, hb, hn⟩ := hI.x3 (by simpa using h) (by simpa using h3); exact ⟨b, e, blk_drawnT hb g7 (by omega), hn⟩, fun h => hI.x4 (by simpa using h), fun h => hI.x5 (by simpa using h), fun h => hI.x6 (by simpa using h), fun _ => rfl, fun h => hI.x8 (by simpa using h), fun h => by obtain ⟨b, e, hn, hz, hb⟩ := hI.x9 (by simpa using h); exact ⟨b, e, hn, hz, by simpa using (blk_drawnT hb g7 (by omega))⟩, by simpa [hfj, h2_] using d7.mono (by omega), grown_trans hI.gr g7, fun _ => by simp [h2_], fun h i hi => by have := hI.late (by simpa using h) i hi; simp [this]⟩
        · obtain rfl := Option.some.inj hoj
          have h4_ := hall ⟨4, .data⟩ (by simp) rfl
          have h5_ := hall ⟨5, .data⟩ (by simp) rfl
          have h7_ := hall ⟨7, .data⟩ (by simp) rfl
          have h10 : f 10 = false := by
            cases h : f 10 with
            | false => rfl
            | true => exact absurd (hI.late h 8 (by omega)) (by rw [hfj]; simp)
          obtain rfl := hI.x4 h4_
          obtain rfl := hI.x5 h5_
          obtain rfl := hI.x7 h7_
          have HI2 : Hid _ := And.intro hI True.intro
          clear hI
          go_simp
          refine hK _ _ ?_
          refine ⟨_, _, _, _, _, _, _, _, _, _, rfl, ?_⟩
          have hI := HI2.out.1
          exact ⟨fun h h3 => by obtain ⟨b, e, hb, hn⟩ := hI.x0 (by simpa using h) (by simpa using h3); exact ⟨b, e, hb, hn⟩, fun h => hI.x1 (by simpa using h), fun h => hI.x2 (by simpa using h), fun h h3 => by obtain ⟨b, e, hb, hn⟩ := hI.x3 (by simpa using h) (by simpa using h3); exact ⟨b, e, hb, hn⟩, fun h => hI.x4 (by simpa using h), fun h => hI.x5 (by simpa using h), fun h => hI.x6 (by simpa using h), fun h => hI.x7 (by simpa using h), fun _ => rfl, fun h => by obtain ⟨b, e, hn, hz, hb⟩ := hI.x9 (by simpa using h); exact ⟨b, e, hn, hz, by simpa using (hb)⟩, by simpa using hI.dz, hI.gr, fun h => by have := hI.q (by simpa using h); simp [this], fun h i hi => by have := hI.late (by simpa using h) i hi; simp [this]⟩
        · obtain rfl := Option.some.inj hoj
          have h10 : f 10 = false := by
            cases h : f 10 with
            | false => rfl
            | true => exact absurd (hI.late h 9 (by omega)) (by rw [hfj]; simp)
          have HI2 : Hid _ := And.intro hI True.intro
          clear hI
          go_simp
          refine hK _ _ ?_
          refine ⟨_, _, _, _, _, _, _, _, _, _, rfl, ?_⟩
          have hI := HI2.out.1
          exact ⟨fun h h3 => by obtain ⟨b, e, hb, hn⟩ := hI.x0 (by simpa using h) (by simpa using h3); exact ⟨b, e, al_oldY hb _, hn⟩, fun h => hI.x1 (by simpa using h), fun h => hI.x2 (by simpa using h), fun h h3 => by obtain ⟨b, e, hb, hn⟩ := hI.x3 (by simpa using h) (by simpa using h3); exact ⟨b, e, al_oldY hb _, hn⟩, fun h => hI.x4 (by simpa using h), fun h => hI.x5 (by simpa using h), fun h => hI.x6 (by simpa using h), fun h => hI.x7 (by simpa using h), fun h => hI.x8 (by simpa using h), fun _ => ⟨_, rfl, by omega, hI.gr.size, by simp only [show ((10 : Nat) == 9 || f 10) = false by rw [h10]; rfl]; exact heap_alloc_new wx _⟩, by simpa using hI.dz.alloc _, grown_trans hI.gr (World.grownBy_alloc wx _ _), fun h => by have := hI.q (by simpa using h); simp [this], fun h i hi => by have := hI.late (by simpa using h) i hi; simp [this]⟩
        · obtain rfl := Option.some.inj hoj
          have h9_ := hall ⟨9, .data⟩ (by simp) rfl
          have h8_ := hall ⟨8, .data⟩ (by simp) rfl
          obtain ⟨b9, rfl, n9, z9, t9⟩ := hI.x9 h9_
          obtain rfl := hI.x8 h8_
          rw [hfj] at t9
          simp only [Bool.false_eq_true, if_false] at t9
          have fz0 := bk_free t9 0
          have fz1 := bk_free t9 1
          have fz2 := bk_free t9 2
          have fz3 := bk_free t9 3
          have cz0 := bk_cell t9 0
          have cz1 := bk_cell t9 1
          have cz2 := bk_cell t9 2
          have cz3 := bk_cell t9 3
          have HI2 : Hid _ := And.intro hI True.intro
          clear hI
          go_simp
          refine hK _ _ ?_
          refine ⟨_, _, _, _, _, _, _, _, _, _, rfl, ?_⟩
          have hI := HI2.out.1
          have hAll : ∀ i, i < 10 → f i = true := by
            intro i hi
            obtain rfl | rfl | rfl | rfl | rfl | rfl | rfl | rfl | rfl | rfl : i = 0 ∨ i = 1 ∨ i = 2 ∨ i = 3 ∨ i = 4 ∨ i = 5 ∨ i = 6 ∨ i = 7 ∨ i = 8 ∨ i = 9 := by omega
            all_goals exact hall ⟨_, .phase⟩ (by simp) rfl
          have g1 := grown_setCell wx b9 0 (.int .i64 kk)
          have g2 := grown_trans g1 (grown_setCell _ b9 1 (.int .i64 nn))
          have g3 := grown_trans g2 (grown_setCell _ b9 2 (.int .i64 aA))
          have g4 := grown_trans g3 (grown_setCell _ b9 3 (.slice none 0 0))
          have t10 := bk_set (bk_set (bk_set (bk_set t9 0 (.int .i64 kk)) 1 (.int .i64 nn)) 2 (.int .i64 aA)) 3 (.slice none 0 0)
          exact ⟨fun h h3 => by simp [hAll 3 (by omega)] at h3, fun h => hI.x1 (by simpa using h), fun h => hI.x2 (by simpa using h), fun h h3 => by simp [hAll 4 (by omega)] at h3, fun h => hI.x4 (by simpa using h), fun h => hI.x5 (by simpa using h), fun h => hI.x6 (by simpa using h), fun h => hI.x7 (by simpa using h), fun h => hI.x8 (by simpa using h), fun _ => ⟨b9, rfl, n9, z9, by simpa using t10⟩, by simpa using hI.dz.grown g4 (fun k hk => by have := Option.some.inj hk; omega), grown_far hI.gr g4 z9, fun h => by have := hI.q (by simpa using h); simp [this], fun _ i hi => by have := hAll i hi; simp [this]⟩
      case done =>
        intro f a wx hInv hall
        obtain ⟨u9, u32, u33, u34, u35, u36, u37, u38, u39, u40, rfl, hI⟩ := hInv
        have H5g := hI.gr
        obtain ⟨b9, rfl, n9, z9, t9⟩ := hI.x9 (hall 9 (by decide))
        have t9' : wx.heap[b9]? = some (.cells #[.int .i64 kk, .int .i64 nn, .int .i64 aA, .slice none 0 0] 34 (0, 0)) := by rw [hall 10 (by decide)] at t9; simpa using t9
        obtain ⟨s2, es2⟩ : ∃ s2, s2 = nextS xs 600 (nextS xs 7 sA) := ⟨_, rfl⟩
        have d9 : Dz wx w.heap.size v xs s2 (6 + 1100 * i + 12) := by
          have := hI.dz
          rw [hall 7 (by decide), hall 2 (by decide)] at this
          rw [es2]
          exact (show Dz wx w.heap.size v xs (nextS xs 600 (nextS xs 7 sA)) _ by simpa using this).mono (by omega)
        have R9 : RP w wx v xs s2 (6 + 1100 * i + 12) (.slice ao i co) (pLp xs srv s0 i).1 b9 ⟨kk, nn, aA, []⟩ (.slice none 0 0) :=
          ⟨d9, ⟨U, H5.out.2.1.drawn H5g (by omega)⟩, fun e => by have := (H5.out.2.1.lt _ e).2; omega, t9', World.ownsRow_nil _ _ _ _, H5.out.2.2.1.grown H5g H5.out.2.2.1.size (fun q hq => by have := Option.some.inj hq; omega), n9⟩
        have eB := pB_if xs aA sA s2 kk nn HKN.out.1 HKN.out.2 es2
        have c0 := R9.f0
        have H9 : Hid _ := And.intro R9 eB
        clear d9 R9 eB es2 t9 t9' hI hall H5g HKN
        dsimp only
        go_upto_if 43 with fail
        go_cut [] from 41 to 83 (fun wx => ∃ ua un uc, RP w wx v xs (pB xs aA sA).2 (6 + 1100 * i + 15) (.slice ao i co) (pLp xs srv s0 i).1 b9 (pB xs aA sA).1 (.slice ua un uc))
        case first =>
          by_cases hk3 : 3 ≤ kk
          · go_wp2_with fail
            go_at_call 9
            refine (nextZ w.heap.size v xs s2 _ 5 _ H9.out.1.dz (by omega) (by decide) (by decide)).mono ?_
            rintro e w5 ⟨x, s5, ex, es5, rfl, x0, x1, d5, g5⟩
            have hw : IntKind.u8.wrap x = x := by rw [IntKind.wrap_u8]; omega
            have R5 := H9.out.1.draw d5 g5
            have R6 := R5.alloc (.cells #[.int .u8 x, .int .u8 0, .int .u8 0, .int .u8 0, .int .u8 0, .int .u8 0, .int .u8 0, .int .u8 1] 5)
            have o6 : (w5.alloc (.cells #[.int .u8 x, .int .u8 0, .int .u8 0, .int .u8 0, .int .u8 0, .int .u8 0, .int .u8 0, .int .u8 1] 5)).ownsRow (w.heap.size + 1) 5 1 (.slice (some ⟨w5.heap.size, 0, none⟩) 8 8) 8 (([x, 0, 0, 0, 0, 0, 0, 1] : List Int).map (Value.int .u8)) := World.ownsRow_lit w5 _ 8 R5.size.1 (by decide) rfl
            have f3 := R6.f3
            have fr := R6.free 3
            have R7 := R6.set 3 (.slice (some ⟨w5.heap.size, 0, none⟩) 8 8) ⟨kk, nn, aA, [x, 0, 0, 0, 0, 0, 0, 1]⟩ (.slice (some ⟨w5.heap.size, 0, none⟩) 8 8) rfl o6
            have H7 : Hid _ := And.intro R7 (And.intro ex es5)
            clear R5 R6 R7 o6 d5 g5 ex es5
            go_wp2_with fail
            go_meet
            rw [H9.out.2, if_pos (by omega), ← H7.out.2.1, ← H7.out.2.2]
            exact ⟨_, _, _, H7.out.1.mono (by omega)⟩
          · go_wp2_with fail
            go_meet
            rw [H9.out.2, if_neg (by omega)]
            exact ⟨_, _, _, H9.out.1.mono (by omega)⟩
        case rest =>
        obtain ⟨ua, un, uc, RB⟩ := hcut
        obtain ⟨rB, eB⟩ : ∃ r, r = pB xs aA sA := ⟨_, rfl⟩
        rw [← eB] at RB
        obtain ⟨oB, sB⟩ := rB
        dsimp only at RB
        have HB : Hid _ := And.intro RB eB
        clear RB eB H9 c0
        go_wp2_with fail
        go_at_call 9
        refine (nextZ w.heap.size v xs sB _ 60 _ HB.out.1.dz (by omega) (by decide) (by decide)).mono ?_
        rintro e w6 ⟨k60, s6, ek6, es6, rfl, k60a, k60b, d6, g6⟩
        have H6 : Hid _ := And.intro (HB.out.1.draw d6 g6) (pC_if xs oB sB s6 k60 ek6 es6)
        clear d6 g6 ek6 es6
        have z0 := H6.out.1.f0
        go_upto_block 2 with fail
        go_cut [] from 51 to 83 (fun wx => ∃ ua un uc, RP w wx v xs (pC xs oB sB).2 (6 + 1100 * i + 1060) (.slice ao i co) (pLp xs srv s0 i).1 b9 (pC xs oB sB).1 (.slice ua un uc))
        case first =>
          by_cases e0 : k60 = 0
          · subst e0
            have HP := H6.out.2
            rw [if_pos rfl] at HP
            have HQ : Hid _ := And.intro HP True.intro
            clear HP
            go_wp2_with fail
            go_at_call 9
            refine (nextZ w.heap.size v xs s6 _ 3 _ (H6.out.1.alloc _).dz (by omega) (by decide) (by decide)).mono ?_
            rintro e w7 ⟨x, s7, ex, es7, rfl, x0, x1, d7, g7⟩
            obtain ⟨xn, rfl⟩ := Int.eq_ofNat_of_zero_le x0
            have R7 := (H6.out.1.alloc _).draw d7 g7
            obtain ⟨X, eX⟩ : ∃ X, X = ([-1, 2000, 2001] : List Int).getD xn 0 := ⟨_, rfl⟩
            have ct : w7.cell? ⟨w6.heap.size, xn, none⟩ = some (.int .i64 X) := by rw [eX]; exact (tabY (by have := H6.out.1.size; omega) g7 xn).trans (tabY3 xn x0 x1)
            have c1 := R7.f1
            have fr := R7.free 1
            have R8 := R7.set 1 (.int .i64 X) ⟨oB.f0, X, oB.f2, oB.f3⟩ (.slice ua un uc) rfl R7.du
            have H8 : Hid _ := And.intro R8 (And.intro ex (And.intro es7 eX))
            clear R7 R8 d7 g7 ex es7 eX
            go_wp2_with fail
            go_meet
            rw [HQ.out.1, ← H8.out.2.1, ← H8.out.2.2.1, Int.toNat_natCast, ← H8.out.2.2.2]
            exact ⟨_, _, _, H8.out.1.mono (by omega)⟩
          by_cases e1 : k60 = 1
          · subst e1
            have HP := H6.out.2
            rw [if_neg (by decide), if_pos rfl] at HP
            have HQ : Hid _ := And.intro HP True.intro
            clear HP e0
            go_wp2_with fail
            go_at_call 9
            refine (nextZ w.heap.size v xs s6 _ 4 _ (H6.out.1.alloc _).dz (by omega) (by decide) (by decide)).mono ?_
            rintro e w7 ⟨x, s7, ex, es7, rfl, x0, x1, d7, g7⟩
            obtain ⟨xn, rfl⟩ := Int.eq_ofNat_of_zero_le x0
            have R7 := (H6.out.1.alloc _).draw d7 g7
            obtain ⟨X, eX⟩ : ∃ X, X = ([-1, 255, 256, 7] : List Int).getD xn 0 := ⟨_, rfl⟩
            have ct : w7.cell? ⟨w6.heap.size, xn, none⟩ = some (.int .i64 X) := by rw [eX]; exact (tabY (by have := H6.out.1.size; omega) g7 xn).trans (tabY4 xn x0 x1)
            have c1 := R7.f2
            have fr := R7.free 2
            have R8 := R7.set 2 (.int .i64 X) ⟨oB.f0, oB.f1, X, oB.f3⟩ (.slice ua un uc) rfl R7.du
            have H8 : Hid _ := And.intro R8 (And.intro ex (And.intro es7 eX))
            clear R7 R8 d7 g7 ex es7 eX
            go_wp2_with fail
            go_meet
            rw [HQ.out.1, ← H8.out.2.1, ← H8.out.2.2.1, Int.toNat_natCast, ← H8.out.2.2.2]
            exact ⟨_, _, _, H8.out.1.mono (by omega)⟩
          by_cases e2 : k60 = 2
          · subst e2
            have HP := H6.out.2
            rw [if_neg (by decide), if_neg (by decide), if_pos rfl] at HP
            have HQ : Hid _ := And.intro HP True.intro
            clear HP e0 e1
            go_wp2_with fail
            go_at_call 9
            refine (nextZ w.heap.size v xs s6 _ 10 _ H6.out.1.dz (by omega) (by decide) (by decide)).mono ?_
            rintro e w7 ⟨x, s7, ex, es7, rfl, x0, x1, d7, g7⟩
            obtain ⟨xn, rfl⟩ := Int.eq_ofNat_of_zero_le x0
            have R7 : Hid _ := And.intro (H6.out.1.draw d7 g7) (And.intro ex es7)
            clear d7 g7 ex es7
            go_wp2_with fail
            go_at_call 12
            refine (bytesZ w.heap.size v xs s7 _ xn _ R7.out.1.dz (by omega) (by omega)).mono ?_
            rintro e w8 ⟨r, ys, s8, eys, es8, rfl, hyl, hyb, o8, d8, g8⟩
            obtain ⟨ra, rc, er⟩ := own_form (show w8.ownsRow w7.heap.size 5 1 r ys.length (ys.map (Value.int .u8)) by rw [hyl]; exact o8)
            rw [hyl] at er
            subst er
            have R8 := R7.out.1.draw d8 g8
            have c1 := R8.f3
            have fr := R8.free 3
            have R9 := R8.set 3 (.slice ra xn rc) ⟨oB.f0, oB.f1, oB.f2, ys⟩ (.slice ra xn rc) rfl (by rw [hyl]; exact owns_mono o8 (by have := R7.out.1.size; omega))
            have H9 : Hid _ := And.intro R9 (And.intro eys es8)
            clear R8 R9 o8 d8 g8 eys es8 hyl hyb
            go_wp2_with fail
            go_meet
            rw [HQ.out.1, ← R7.out.2.1, ← R7.out.2.2, Int.toNat_natCast, ← H9.out.2.1, ← H9.out.2.2]
            exact ⟨_, _, _, H9.out.1.mono (by omega)⟩
          by_cases e3 : k60 = 3
          · subst e3
            have HP := H6.out.2
            rw [if_neg (by decide), if_neg (by decide), if_neg (by decide), if_pos rfl] at HP
            have HQ : Hid _ := And.intro HP True.intro
            clear HP e0 e1 e2
            go_wp2_with fail
            go_at_call 9
            refine (nextZ w.heap.size v xs s6 _ 7 _ H6.out.1.dz (by omega) (by decide) (by decide)).mono ?_
            rintro e w7 ⟨x, s7, ex, es7, rfl, x0, x1, d7, g7⟩
            have R7 := H6.out.1.draw d7 g7
            have c1 := R7.f0
            have fr := R7.free 0
            have R8 := R7.set 0 (.int .i64 (x - 1)) ⟨x - 1, oB.f1, oB.f2, oB.f3⟩ (.slice ua un uc) rfl R7.du
            have H8 : Hid _ := And.intro R8 (And.intro ex es7)
            clear R7 R8 d7 g7 ex es7
            go_wp2_with fail
            go_meet
            rw [HQ.out.1, ← H8.out.2.1, ← H8.out.2.2]
            exact ⟨_, _, _, H8.out.1.mono (by omega)⟩
          · have HP := H6.out.2
            rw [if_neg e0, if_neg e1, if_neg e2, if_neg e3] at HP
            have HQ : Hid _ := And.intro HP True.intro
            have q0 : (k60 == 0) = false := by simpa using e0
            have q1 : (k60 == 1) = false := by simpa using e1
            have q2 : (k60 == 2) = false := by simpa using e2
            have q3 : (k60 == 3) = false := by simpa using e3
            clear HP
            go_wp2_with fail
            go_meet
            rw [HQ.out.1]
            exact ⟨_, _, _, H6.out.1.mono (by omega)⟩
        case rest =>
        obtain ⟨va, vn, vc, RC⟩ := hcut
        obtain ⟨rC, eC⟩ : ∃ r, r = pC xs oB sB := ⟨_, rfl⟩
        rw [← eC] at RC
        obtain ⟨oC, sC⟩ := rC
        dsimp only at RC
        obtain ⟨U2, hS2⟩ := RC.so
        have y0 := RC.f0
        have y1 := RC.f1
        have y2 := RC.f2
        have y3 := RC.f3
        have hszc := RC.size
        have HC : Hid _ := And.intro RC (And.intro hS2 eC)
        clear RC hS2 eC H6 z0
        go_wp2_with (at_builtin; refine wpList_append_flat rfl (.tmp 80) (.tmp 82) 23 34 Try.underlying23 _ 4 48 infoPathOp rfl (by decide) (by decide) rfl (w.heap.size + 1) (.slice ao i co) (zl SPathOp.c (pLp xs srv s0 i).1 U2) HC.out.2.1.flat rfl (HC.out.2.1.ow.below ((Below.refl _ _).alloc (Nat.le_refl _) _)) _ [[.int .i64 oC.f0, .int .i64 oC.f1, .int .i64 oC.f2, .slice va vn vc]] (by intro y hy; obtain rfl : y = [.int .i64 oC.f0, .int .i64 oC.f1, .int .i64 oC.f2, .slice va vn vc] := (by simpa using hy); exact ⟨rfl, by intro u hu; simp only [List.mem_cons, List.not_mem_nil, or_false] at hu; rcases hu with rfl | rfl | rfl | rfl <;> rfl⟩) rfl (lit_flat _ [.int .i64 oC.f0, .int .i64 oC.f1, .int .i64 oC.f2, .slice va vn vc] _) (by rw [zl_length, pLp_len]; simp; omega) (by simp; omega) ?_; intro v6 w6 o6 g6; have H6 : Hid _ := And.intro o6 g6; clear o6 g6)
        go_roundg (m + 1 - (i + 1))
        case measure => (have := HR.out.2.2.2.1; omega)
        case rel =>
          have e1 := pLp_next xs srv s0 i ad aA s sA sB sC oB oC HR.out.2.2.2.2.1 HR.out.2.2.2.2.2 H5.out.2.2.2 HB.out.2 HC.out.2.2
          obtain ⟨⟨U3, P1⟩, P2, P3⟩ := HC.out.1.push HC.out.2.1 H6.out.1 H6.out.2
          exact ⟨i + 1, aA, by omega, rfl, by congr 1; omega, rfl, by rw [e1], ⟨U3, by rw [e1]; exact P1⟩, by rw [e1]; exact P2.mono (by omega), P3⟩
    · obtain rfl : i = m + 1 := by omega
      have hge : ¬ (0 : Int) ≤ (m : Int) - ((m + 1 : Nat) : Int) := by omega
      go_wp2_with fail
      go_ret2
      refine ⟨_, by rw [H3.out.2.2.2.2.2]; first | done | rfl, ⟨U, ?_⟩, HR.out.2.2.1⟩
      have e : dpr xs = (pLp xs srv s0 (m + 1)).1 := by unfold dpr; rw [H3.out.2.2.2.2.2, H3.out.2.2.2.1, H3.out.2.2.2.2.1]
      rw [e]
      exact HR.out.1
end Go.Proofs.Ytdoglkjhmaiknaa

namespace Go.Proofs.Ytdoglkjhmaiknaa
open Go.RowKit
set_option linter.unusedVariables false

/-- same as a Bool: what it tells of two rows that may differ. -/
theorem sameB (va vb : Value) (xs ys : List Int) (w : World) (ha : Row w .u8 va xs) (hb : Row w .u8 vb ys) (hx : Bytes xs) (hy : Bytes ys) :
    Calls Try.prog 7 #[va, vb] w fun e w' => e = .returned (.bool (decide (xs = ys))) ∧ w' = w := by
  by_cases h : xs = ys
  · subst h
    rw [decide_eq_true rfl]
    exact sameP va vb xs w ha hb
  · have c1 := conv_anyP (P := Try.prog) Try.underlying22 Try.underlying5 Try.underlying9 ha
    have c2 := conv_anyP (P := Try.prog) Try.underlying22 Try.underlying5 Try.underlying9 hb
    have ht := str_ne xs ys hx hy h
    rw [decide_eq_false h]
    clear ha hb hx hy h
    generalize strOfNums xs = s at c1 ht
    generalize strOfNums ys = t at c2 ht
    go_enter Try.func7, Try.ntmps7
    go_wp2
    go_ret
    exact ⟨rfl, rfl⟩
end Go.Proofs.Ytdoglkjhmaiknaa

namespace Go.Proofs.Ytdoglkjhmaiknaa
open Go.RowKit
set_option linter.unusedVariables false
set_option linter.unusedSimpArgs false

/-- Has one of the first k operations asked this? -/
def askB (srv : Bool) (R : List SPathOp) (D : List Int) : Nat → Bool
  | 0 => false
  | k + 1 => askB srv R D k || decide (AskedAt srv R D k)
theorem askB_hit (srv : Bool) (R : List SPathOp) (D : List Int) (q : Nat) (h : AskedAt srv R D q) : ∀ k, q < k → askB srv R D k = true
  | 0, hk => absurd hk (by omega)
  | k + 1, hk => by
    unfold askB
    by_cases e : q = k
    · subst e; simp [h]
    · rw [askB_hit srv R D q h k (by omega)]; rfl
theorem askB_all (srv : Bool) (R : List SPathOp) (D : List Int) (k : Nat) (h : askB srv R D k = true) : askB srv R D (k + 1) = true := by
  unfold askB; rw [h]; rfl
theorem askB_k (srv : Bool) (R : List SPathOp) (D : List Int) (k : Nat) (h : askB srv R D k = false) (hk : (R.getD k default).f0 ≠ 3) : askB srv R D (k + 1) = false := by
  unfold askB; rw [h, Bool.false_or]; exact decide_eq_false (fun q => hk q.1)
theorem askB_c (srv : Bool) (R : List SPathOp) (D : List Int) (k : Nat) (h : askB srv R D k = false) (hk : (pobsAt srv R k).f0 ≠ 0) : askB srv R D (k + 1) = false := by
  unfold askB; rw [h, Bool.false_or]; exact decide_eq_false (fun q => hk q.2.1)
theorem askB_d (srv : Bool) (R : List SPathOp) (D : List Int) (k : Nat) (h : askB srv R D k = false) (h1 : (R.getD k default).f0 = 3) (h2 : (pobsAt srv R k).f0 = 0) : askB srv R D (k + 1) = decide ((R.getD k default).f3 = D) := by
  unfold askB; rw [h, Bool.false_or]
  unfold AskedAt
  simp only [h1, h2, true_and]
/-- What was let in is of a known kind. -/
theorem pobs_kind (srv : Bool) (R : List SPathOp) (i : Nat) (h : (pobsAt srv R i).f0 = 0) : (R.getD i default).f0 = 1 ∨ (R.getD i default).f0 = 2 ∨ (R.getD i default).f0 = 3 ∨ (R.getD i default).f0 = 4 := by
  have h' : (pstep (prunP srv R i) (R.getD i default)).2.1 = 0 := h
  unfold pstep at h'
  by_cases c0 : (R.getD i default).f2 < 0 ∨ 255 < (R.getD i default).f2 ∨ (R.getD i default).f1 < 0 ∨ 2000 < (R.getD i default).f1
  · rw [if_pos c0] at h'; exact absurd h' (by simp)
  rw [if_neg c0] at h'
  by_cases c1 : (R.getD i default).f0 = 1
  · exact Or.inl c1
  by_cases c2 : (R.getD i default).f0 = 2
  · exact Or.inr (Or.inl c2)
  by_cases c3 : (R.getD i default).f0 = 3
  · exact Or.inr (Or.inr (Or.inl c3))
  by_cases c4 : (R.getD i default).f0 = 4
  · exact Or.inr (Or.inr (Or.inr c4))
  rw [if_neg c1, if_neg c2, if_neg c3, if_neg c4] at h'
  exact absurd h' (by simp)
theorem pobs_ad (srv : Bool) (R : List SPathOp) (hb : ∀ j, ∀ x ∈ (R.getD j default).f3, 0 ≤ x ∧ x < 256) (k : Nat) : ∃ a : Nat, (pobsAt srv R k).f1 = (a : Int) ∧ a < 256 :=
  ⟨(prunP srv R (k + 1)).ad, rfl, (prunP_inv srv R hb (k + 1)).ad⟩
theorem row_upd {α : Type} (f : Nat → α) (g : α → Value) (k : Nat) (x : α) : updF (fun j => g (f j)) k (g x) = fun j => g (updF f k x j) := by
  funext j
  unfold updF
  split <;> rfl
theorem Row256.grown {w w' : World} {c : Nat} {T : TypeId} {f : Nat → Value} {r : Option Nat} (h : Row256 w c T f) (g : w.grownBy w' r) (hr : r ≠ some c) : Row256 w' c T f := h.same (g.block c h.lt (fun e => hr e.symm))
theorem Row256.apart {w : World} {c b : Nat} {T S : TypeId} {f : Nat → Value} {A : Array Value} (h : Row256 w c T f) (hb : w.heap[b]? = some (.cells A S (0, 0))) (hne : T ≠ S) : c ≠ b := fun e => by
  obtain ⟨B, b1, _⟩ := h
  rw [e, hb] at b1
  have := Option.some.inj b1
  injection this with _ t
  exact hne t.symm
/-- The law's books, in memory. -/
structure LQ (w5 W : World) (c1 c2 c3 : Nat) (cm st : Nat → Int) (va : Nat → Bool) : Prop where
  r1 : Row256 W c1 3 (fun k => .int .i64 (cm k))
  r2 : Row256 W c2 3 (fun k => .int .i64 (st k))
  r3 : Row256 W c3 4 (fun k => .bool (va k))
  lo : w5.heap.size ≤ c1 ∧ w5.heap.size ≤ c2 ∧ w5.heap.size ≤ c3
  ne : c1 ≠ c2
  bw : Below w5.heap.size w5 W
/-- Amid a round: the books, and the box with the observation. -/
structure LY (w5 W : World) (c1 c2 c3 : Nat) (cm st : Nat → Int) (va : Nat → Bool) (bx : Nat) (o : SPathObs) : Prop where
  bo : LQ w5 W c1 c2 c3 cm st va
  bk : W.heap[bx]? = some (.cells #[.int .i64 o.f0, .int .i64 o.f1, .int .i64 o.f2, .bool o.f3, .bool o.f4] 32 (0, 0))
section
variable {w5 W : World} {c1 c2 c3 bx : Nat} {cm st : Nat → Int} {va : Nat → Bool} {o : SPathObs}
theorem LQ.x13 (h : LQ w5 W c1 c2 c3 cm st va) : c1 ≠ c3 ∧ c2 ≠ c3 := by
  obtain ⟨A, b, _⟩ := h.r3
  exact ⟨h.r1.apart b (by decide), h.r2.apart b (by decide)⟩
theorem LQ.alloc (h : LQ w5 W c1 c2 c3 cm st va) (ob : Obj) : LQ w5 (W.alloc ob) c1 c2 c3 cm st va :=
  ⟨h.r1.same (heap_alloc_old W ob h.r1.lt), h.r2.same (heap_alloc_old W ob h.r2.lt), h.r3.same (heap_alloc_old W ob h.r3.lt), h.lo, h.ne, h.bw.alloc h.bw.size ob⟩
theorem LQ.drewN (h : LQ w5 W c1 c2 c3 cm st va) (q : Nat) : LQ w5 (W.drewN q) c1 c2 c3 cm st va := ⟨h.r1, h.r2, h.r3, h.lo, h.ne, below_drewN h.bw q⟩
theorem LQ.set1 (h : LQ w5 W c1 c2 c3 cm st va) (k : Nat) (x : Int) : LQ w5 (W.setCell ⟨c1, k, none⟩ (.int .i64 x)) c1 c2 c3 (updF cm k x) st va := by
  have hg := grown_setCell W c1 k (.int .i64 x)
  refine ⟨?_, h.r2.grown hg (fun e => h.ne (Option.some.inj e)), h.r3.grown hg (fun e => h.x13.1 (Option.some.inj e)), h.lo, h.ne, h.bw.grown hg h.bw.size (fun q hq => by have := Option.some.inj hq; have := h.lo; omega)⟩
  rw [← row_upd cm (Value.int .i64) k x]
  exact h.r1.set k _
theorem LQ.set2 (h : LQ w5 W c1 c2 c3 cm st va) (k : Nat) (x : Int) : LQ w5 (W.setCell ⟨c2, k, none⟩ (.int .i64 x)) c1 c2 c3 cm (updF st k x) va := by
  have hg := grown_setCell W c2 k (.int .i64 x)
  refine ⟨h.r1.grown hg (fun e => h.ne (Option.some.inj e).symm), ?_, h.r3.grown hg (fun e => h.x13.2 (Option.some.inj e)), h.lo, h.ne, h.bw.grown hg h.bw.size (fun q hq => by have := Option.some.inj hq; have := h.lo; omega)⟩
  rw [← row_upd st (Value.int .i64) k x]
  exact h.r2.set k _
theorem LQ.set3 (h : LQ w5 W c1 c2 c3 cm st va) (k : Nat) (x : Bool) : LQ w5 (W.setCell ⟨c3, k, none⟩ (.bool x)) c1 c2 c3 cm st (updF va k x) := by
  have hg := grown_setCell W c3 k (.bool x)
  refine ⟨h.r1.grown hg (fun e => h.x13.1 (Option.some.inj e).symm), h.r2.grown hg (fun e => h.x13.2 (Option.some.inj e).symm), ?_, h.lo, h.ne, h.bw.grown hg h.bw.size (fun q hq => by have := Option.some.inj hq; have := h.lo; omega)⟩
  rw [← row_upd va Value.bool k x]
  exact h.r3.set k _
theorem LY.new (h : LQ w5 W c1 c2 c3 cm st va) (o : SPathObs) : LY w5 (W.alloc (.cells #[.int .i64 o.f0, .int .i64 o.f1, .int .i64 o.f2, .bool o.f3, .bool o.f4] 32)) c1 c2 c3 cm st va W.heap.size o := ⟨h.alloc _, heap_alloc_new W _⟩
theorem LY.drewN (h : LY w5 W c1 c2 c3 cm st va bx o) (q : Nat) : LY w5 (W.drewN q) c1 c2 c3 cm st va bx o := ⟨h.bo.drewN q, h.bk⟩
theorem LY.keep {W' : World} {c : Nat} {T : TypeId} {f : Nat → Value} (h : LY w5 W c1 c2 c3 cm st va bx o) (g : W.grownBy W' (some c)) (hr : Row256 W c T f) (hT : T ≠ 32) : W'.heap[bx]? = some (.cells #[.int .i64 o.f0, .int .i64 o.f1, .int .i64 o.f2, .bool o.f3, .bool o.f4] 32 (0, 0)) :=
  (g.block bx (Array.getElem?_eq_some_iff.1 h.bk).1 (fun e => hr.apart h.bk hT (Option.some.inj e).symm)).trans h.bk
theorem LY.set1 (h : LY w5 W c1 c2 c3 cm st va bx o) (k : Nat) (x : Int) : LY w5 (W.setCell ⟨c1, k, none⟩ (.int .i64 x)) c1 c2 c3 (updF cm k x) st va bx o := ⟨h.bo.set1 k x, h.keep (grown_setCell W c1 k _) h.bo.r1 (by decide)⟩
theorem LY.set2 (h : LY w5 W c1 c2 c3 cm st va bx o) (k : Nat) (x : Int) : LY w5 (W.setCell ⟨c2, k, none⟩ (.int .i64 x)) c1 c2 c3 cm (updF st k x) va bx o := ⟨h.bo.set2 k x, h.keep (grown_setCell W c2 k _) h.bo.r2 (by decide)⟩
theorem LY.set3 (h : LY w5 W c1 c2 c3 cm st va bx o) (k : Nat) (x : Bool) : LY w5 (W.setCell ⟨c3, k, none⟩ (.bool x)) c1 c2 c3 cm st (updF va k x) bx o := ⟨h.bo.set3 k x, h.keep (grown_setCell W c3 k _) h.bo.r3 (by decide)⟩
theorem LY.y (h : LY w5 W c1 c2 c3 cm st va bx o) : W.cell? ⟨bx, 0, none⟩ = some (.int .i64 o.f0) ∧ W.cell? ⟨bx, 1, none⟩ = some (.int .i64 o.f1) ∧ W.cell? ⟨bx, 2, none⟩ = some (.int .i64 o.f2) ∧ W.cell? ⟨bx, 3, none⟩ = some (.bool o.f3) ∧ W.cell? ⟨bx, 4, none⟩ = some (.bool o.f4) :=
  ⟨(bk_cell h.bk 0).trans rfl, (bk_cell h.bk 1).trans rfl, (bk_cell h.bk 2).trans rfl, (bk_cell h.bk 3).trans rfl, (bk_cell h.bk 4).trans rfl⟩
end
theorem lq0 {w5 W : World} {c1 c2 c3 : Nat} {srv : Bool} {MI MT : Array Value} (h1 : W.heap[c1]? = some (.cells MI 3 (0, 0))) (h2 : W.heap[c2]? = some (.cells MI 3 (0, 0))) (h3 : W.heap[c3]? = some (.cells (MT.setIfInBounds 0 (.bool !srv)) 4 (0, 0))) (sI : MI.size = 256) (aI : ∀ k, k < 256 → MI[k]? = some (.int .i64 0)) (sT : MT.size = 256) (aT : ∀ k, k < 256 → MT[k]? = some (.bool false)) (ne : c1 ≠ c2) (lo : w5.heap.size ≤ c1 ∧ w5.heap.size ≤ c2 ∧ w5.heap.size ≤ c3) (bw : Below w5.heap.size w5 W) :
    LQ w5 W c1 c2 c3 (fun _ => 0) (fun _ => 0) (updF (fun _ => false) 0 (!srv)) := by
  refine ⟨⟨MI, h1, sI, aI⟩, ⟨MI, h2, sI, aI⟩, ⟨_, h3, by simpa using sT, fun k hk => ?_⟩, lo, ne, bw⟩
  show _ = some (Value.bool (updF (fun _ => false) 0 (!srv) k))
  by_cases e : k = 0
  · subst e; rw [arr_set, if_pos ⟨rfl, by omega⟩, updF_at]
  · rw [arr_set, if_neg (by omega), updF_ne _ _ _ _ e]; exact aT k hk
theorem row_drewN {w : World} {k : IntKind} {v : Value} {xs : List Int} (h : Row w k v xs) (n : Nat) : Row (w.drewN n) k v xs := h
/-- What an answer's second loop writes. -/
theorem vUp_yes (srv : Bool) (R : List SPathOp) (D : List Int) (o : SPathObs) (v : Nat → Bool) (k a b : Nat) (h : AskedAt srv R D k) (ha : (pobsAt srv R k).f1 = (a : Int)) (hb : o.f1 = (b : Int)) : vUp srv R D o v (k + 1) = updF (vUp srv R D o v k) a (vUp srv R D o v k a || (o.f3 && decide (a = b)) || decide (a ≠ b)) := by
  have e1 : ((pobsAt srv R k).f1 = o.f1) = (a = b) := by rw [ha, hb]; exact propext ⟨fun h => by omega, fun h => by omega⟩
  have e2 : ((pobsAt srv R k).f1 ≠ o.f1) = (a ≠ b) := by rw [ne_eq, e1]
  rw [show vUp srv R D o v (k + 1) = if AskedAt srv R D k then updF (vUp srv R D o v k) (pobsAt srv R k).f1.toNat (vUp srv R D o v k (pobsAt srv R k).f1.toNat || (o.f3 && decide ((pobsAt srv R k).f1 = o.f1)) || decide ((pobsAt srv R k).f1 ≠ o.f1)) else vUp srv R D o v k from rfl, if_pos h]
  simp only [e1, e2]
  rw [ha, Int.toNat_natCast]
theorem vUp_no (srv : Bool) (R : List SPathOp) (D : List Int) (o : SPathObs) (v : Nat → Bool) (k : Nat) (h : ¬ AskedAt srv R D k) : vUp srv R D o v (k + 1) = vUp srv R D o v k := by
  rw [show vUp srv R D o v (k + 1) = if AskedAt srv R D k then updF (vUp srv R D o v k) (pobsAt srv R k).f1.toNat (vUp srv R D o v k (pobsAt srv R k).f1.toNat || (o.f3 && decide ((pobsAt srv R k).f1 = o.f1)) || decide ((pobsAt srv R k).f1 ≠ o.f1)) else vUp srv R D o v k from rfl, if_neg h]
end Go.Proofs.Ytdoglkjhmaiknaa
