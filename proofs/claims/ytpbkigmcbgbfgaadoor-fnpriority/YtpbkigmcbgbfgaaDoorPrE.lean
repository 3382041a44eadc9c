import Derived.Test.YtpbkigmcbgbfgaaDoorFtD
import Derived.Test.YtpbkigmcbgbfgaaDoorRkY
import Derived.Test.YtpbkigmcbgbfgaaDoorOrdI
import Derived.Test.YtpbkigmcbgbfgaaDoorPrF
import Derived.Deep.CutRange
namespace Go.Proofs.YtpbkigmcbgbfgaaDoor
open Go.RowKit
set_option linter.unusedVariables false

def tabP1 : Obj := .cells #[.string ⟨#[]⟩, .string ⟨#[32]⟩, .string ⟨#[32, 32]⟩] 9
def tabP2 : Obj := .cells #[.string ⟨#[117, 61, 48]⟩, .string ⟨#[117, 61, 55]⟩, .string ⟨#[117, 61, 56]⟩, .string ⟨#[117, 61]⟩, .string ⟨#[117, 61, 51, 51]⟩, .string ⟨#[105]⟩, .string ⟨#[105, 61, 63, 49]⟩, .string ⟨#[105, 61, 63, 48]⟩, .string ⟨#[105, 61, 49]⟩, .string ⟨#[120, 61, 53]⟩, .string ⟨#[85, 61, 49]⟩, .string ⟨#[117, 32, 61, 49]⟩] 9
def tabP3 : Obj := .cells #[.string ⟨#[]⟩, .string ⟨#[32]⟩] 9
theorem tabP1_at {w : World} {b : Nat} (h : w.heap[b]? = some tabP1) (i : Int) (h0 : 0 ≤ i) (h1 : i < 3) : ∃ s : ByteArray, w.cell? ⟨b, i.toNat, none⟩ = some (.string s) ∧ s.size ≤ 2 := by
  obtain rfl | rfl | rfl : i = 0 ∨ i = 1 ∨ i = 2 := by omega
  all_goals exact ⟨_, (bk_cell h _).trans rfl, by decide⟩
theorem tabP2_at {w : World} {b : Nat} (h : w.heap[b]? = some tabP2) (i : Int) (h0 : 0 ≤ i) (h1 : i < 12) : ∃ s : ByteArray, w.cell? ⟨b, i.toNat, none⟩ = some (.string s) ∧ s.size ≤ 4 := by
  obtain rfl | rfl | rfl | rfl | rfl | rfl | rfl | rfl | rfl | rfl | rfl | rfl : i = 0 ∨ i = 1 ∨ i = 2 ∨ i = 3 ∨ i = 4 ∨ i = 5 ∨ i = 6 ∨ i = 7 ∨ i = 8 ∨ i = 9 ∨ i = 10 ∨ i = 11 := by omega
  all_goals exact ⟨_, (bk_cell h _).trans rfl, by decide⟩
theorem tabP3_at {w : World} {b : Nat} (h : w.heap[b]? = some tabP3) (i : Int) (h0 : 0 ≤ i) (h1 : i < 2) : ∃ s : ByteArray, w.cell? ⟨b, i.toNat, none⟩ = some (.string s) ∧ s.size ≤ 1 := by
  obtain rfl | rfl : i = 0 ∨ i = 1 := by omega
  all_goals exact ⟨_, (bk_cell h _).trans rfl, by decide⟩
/-- Amid the statement: what has come up holds what it should. -/
structure PI (W0 : World) (g : Nat) (c : Value) (xs : List Int) (p : Int) (o : ByteArray) (f : Nat → Bool) (w : World) (u4 u14 u15 u16 u17 u18 u19 u20 u21 u22 u23 u24 u25 u26 u27 u28 u29 u30 u31 u32 : Value) : Prop where
  x0 : f 0 = true → u14 = .string o
  x1 : f 1 = true → ∃ b : Nat, u15 = .slice (some ⟨b, 0, none⟩) 3 3 ∧ w.heap[b]? = some tabP1 ∧ b ≠ g
  x2 : f 2 = true → u16 = .pointer (some ⟨g, 0, none⟩)
  x3 : f 3 = true → ∃ i : Int, u17 = .int .i64 i ∧ 0 ≤ i ∧ i < 3
  x4 : f 4 = true → ∃ (b : Nat) (i : Int), u18 = .pointer (some ⟨b, i.toNat, none⟩) ∧ w.heap[b]? = some tabP1 ∧ b ≠ g ∧ 0 ≤ i ∧ i < 3
  x5 : f 5 = true → ∃ s : ByteArray, u19 = .string s ∧ s.size ≤ 2
  x6 : f 6 = true → ∃ s : ByteArray, u20 = .string s ∧ s.size ≤ o.size + 2
  x7 : f 7 = true → ∃ b : Nat, u21 = .slice (some ⟨b, 0, none⟩) 12 12 ∧ w.heap[b]? = some tabP2 ∧ b ≠ g
  x8 : f 8 = true → u22 = .pointer (some ⟨g, 0, none⟩)
  x9 : f 9 = true → ∃ i : Int, u23 = .int .i64 i ∧ 0 ≤ i ∧ i < 12
  x10 : f 10 = true → ∃ (b : Nat) (i : Int), u24 = .pointer (some ⟨b, i.toNat, none⟩) ∧ w.heap[b]? = some tabP2 ∧ b ≠ g ∧ 0 ≤ i ∧ i < 12
  x11 : f 11 = true → ∃ s : ByteArray, u25 = .string s ∧ s.size ≤ 4
  x12 : f 12 = true → ∃ s : ByteArray, u26 = .string s ∧ s.size ≤ o.size + 6
  x13 : f 13 = true → ∃ b : Nat, u27 = .slice (some ⟨b, 0, none⟩) 2 2 ∧ w.heap[b]? = some tabP3 ∧ b ≠ g
  x14 : f 14 = true → u28 = .pointer (some ⟨g, 0, none⟩)
  x15 : f 15 = true → ∃ i : Int, u29 = .int .i64 i ∧ 0 ≤ i ∧ i < 2
  x16 : f 16 = true → ∃ (b : Nat) (i : Int), u30 = .pointer (some ⟨b, i.toNat, none⟩) ∧ w.heap[b]? = some tabP3 ∧ b ≠ g ∧ 0 ≤ i ∧ i < 2
  x17 : f 17 = true → ∃ s : ByteArray, u31 = .string s ∧ s.size ≤ 1
  x18 : f 18 = true → ∃ s : ByteArray, u32 = .string s ∧ s.size ≤ o.size + 7
  x19 : f 19 = true → ∃ s : ByteArray, u4 = .string s ∧ s.size ≤ o.size + 7
  z : f 19 = false → u4 = .string o
  dt : Dt w g c xs (p + 3 * (((f 3).toNat + (f 9).toNat + (f 15).toNat : Nat) : Int))
  gr : W0.grownBy w (some g)
  late : f 19 = true → ∀ i, i < 19 → f i = true
theorem toNat_le (b : Bool) : b.toNat ≤ 1 := by cases b <;> decide
set_option maxRecDepth 20000 in
set_option maxHeartbeats 4000000 in
theorem drawP (v : Value) (xs : List Int) (w : World) (hrow : Row w .u8 v xs) (hB : Bytes xs) (hl : xs.length ≤ 1048576) :
    Calls Tryd.prog 4 #[v] w fun e w' => ∃ s : ByteArray, e = .returned (.string s) ∧ s.size ≤ 4096 ∧ Below w.heap.size w w' := by
  have S0 := sourceC v xs w hrow hB hl
  have D0 := dt_new hrow hB hl
  have H0 : Hid _ := And.intro S0 (And.intro D0 ((Below.refl w.heap.size w).alloc (Nat.le_refl _) (.cells #[v, .int .i64 0, .int .i64 ((xs.length : Int) % 1000)] 40)))
  clear S0 D0 hrow hB hl
  go_enter Tryd.func4, Tryd.ntmps4
  go_wp2_with fail
  go_at_call 8
  refine H0.out.1.mono ?_
  rintro e w1 ⟨rfl, hw1⟩
  have H1 : Hid _ := And.intro (show Dt w1 w.heap.size v xs 0 by rw [hw1]; exact H0.out.2.1) (And.intro (show Below w.heap.size w w1 by rw [hw1]; exact H0.out.2.2) (show w.heap.size + 1 ≤ w1.heap.size by rw [hw1]; simp))
  clear hw1 H0
  go_wp2_with fail
  go_at_call 9
  refine (nextT w.heap.size v xs 0 6 _ H1.out.1 (by decide) (by decide) (by decide)).mono ?_
  rintro e w2 ⟨n, rfl, n0, n1, d2, g2⟩
  obtain ⟨m, rfl⟩ := Int.eq_ofNat_of_zero_le n0
  have H2 : Hid _ := And.intro d2 g2
  clear d2 g2
  go_wp2_with fail
  go_loopw [4, 5] (fun t i wr => ∃ (o : ByteArray) (q : Nat), t = .string o ∧ i = .int .i64 (q : Int) ∧ q ≤ 5 ∧ o.size + 8 * q ≤ 40 ∧ Dt wr w.heap.size v xs (3 + 12 * (5 - (q : Int))) ∧ w1.grownBy wr (some w.heap.size)) (fun _ i _ => (intOf i).toNat)
  case atStart => exact ⟨⟨#[]⟩, m, rfl, rfl, by omega, by show 0 + 8 * m ≤ 40; omega, H2.out.1.mono (by omega), H2.out.2⟩
  case round =>
    obtain ⟨o, q, rfl, rfl, hq, ho, hd, hg⟩ := hrel
    by_cases hlt : 0 < q
    · have hlt' : (0 : Int) < q := by omega
      have HI : Hid _ := And.intro ho (And.intro hd hg)
      clear ho hd hg
      go_upto_region 6 with fail
      refine region_I (fun f a wx => ∃ u4 u14 u15 u16 u17 u18 u19 u20 u21 u22 u23 u24 u25 u26 u27 u28 u29 u30 u31 u32 : Value, a = { tmps := #[v, undef, .string ⟨#[]⟩, .pointer (some ⟨w.heap.size, 0, none⟩), u4, .int .i64 (q : Int), v, .pointer (some ⟨w.heap.size, 0, none⟩), .pointer (some ⟨w.heap.size, 0, none⟩), .int .i64 (m : Int), .int .i64 (q : Int), .bool true, u12, u13, u14, u15, u16, u17, u18, u19, u20, u21, u22, u23, u24, u25, u26, u27, u28, u29, u30, u31, u32, u33, u34, u35, u36, u37, u38, u39, u40, undef, undef, undef, undef, undef, undef, undef, undef, undef, undef, undef, undef, undef, undef], defers := [] } ∧ PI wr w.heap.size v xs (3 + 12 * (5 - (q : Int))) o f wx u4 u14 u15 u16 u17 u18 u19 u20 u21 u22 u23 u24 u25 u26 u27 u28 u29 u30 u31 u32) (by kernel_rfl) (by kernel_rfl) ?step ?done ?start
      case start =>
        exact ⟨_, _, _, _, _, _, _, _, _, _, _, _, _, _, _, _, _, _, _, _, rfl, ⟨fun h => by simp at h, fun h => by simp at h, fun h => by simp at h, fun h => by simp at h, fun h => by simp at h, fun h => by simp at h, fun h => by simp at h, fun h => by simp at h, fun h => by simp at h, fun h => by simp at h, fun h => by simp at h, fun h => by simp at h, fun h => by simp at h, fun h => by simp at h, fun h => by simp at h, fun h => by simp at h, fun h => by simp at h, fun h => by simp at h, fun h => by simp at h, fun h => by simp at h, fun _ => rfl, (HI.out.2.1.kept ⟨rfl, rfl, rfl, Nat.le_refl _, fun _ _ => rfl⟩ : Dt wr.drew _ _ _ _).mono (by simp), ⟨rfl, rfl, rfl, Nat.le_refl _, fun _ _ _ => rfl⟩, fun h => by simp at h⟩⟩
      case step =>
        intro f a wx j op hInv hoj hfj hall K hK
        obtain ⟨u4, u14, u15, u16, u17, u18, u19, u20, u21, u22, u23, u24, u25, u26, u27, u28, u29, u30, u31, u32, rfl, hI⟩ := hInv
        have hgl : w.heap.size < wx.heap.size := hI.dt.lt
        have hj : j < 20 := (Array.getElem?_eq_some_iff.1 hoj).1
        have hp1 := toNat_le (f 3)
        have hp2 := toNat_le (f 9)
        have hp3 := toNat_le (f 15)
        obtain rfl | rfl | rfl | rfl | rfl | rfl | rfl | rfl | rfl | rfl | rfl | rfl | rfl | rfl | rfl | rfl | rfl | rfl | rfl | rfl : j = 0 ∨ j = 1 ∨ j = 2 ∨ j = 3 ∨ j = 4 ∨ j = 5 ∨ j = 6 ∨ j = 7 ∨ j = 8 ∨ j = 9 ∨ j = 10 ∨ j = 11 ∨ j = 12 ∨ j = 13 ∨ j = 14 ∨ j = 15 ∨ j = 16 ∨ j = 17 ∨ j = 18 ∨ j = 19 := by omega
        · obtain rfl := Option.some.inj hoj
          have h19 : f 19 = false := by
            cases h : f 19 with
            | false => rfl
            | true => exact absurd (hI.late h 0 (by omega)) (by rw [hfj]; simp)
          obtain rfl := hI.z h19
          have HI2 : Hid _ := And.intro hI True.intro
          clear hI
          go_simp
          refine hK _ _ ?_
          refine ⟨_, _, _, _, _, _, _, _, _, _, _, _, _, _, _, _, _, _, _, _, rfl, ?_⟩
          have hI := HI2.out.1
          exact ⟨fun _ => rfl, fun h => hI.x1 (by simpa using h), fun h => hI.x2 (by simpa using h), fun h => hI.x3 (by simpa using h), fun h => hI.x4 (by simpa using h), fun h => hI.x5 (by simpa using h), fun h => hI.x6 (by simpa using h), fun h => hI.x7 (by simpa using h), fun h => hI.x8 (by simpa using h), fun h => hI.x9 (by simpa using h), fun h => hI.x10 (by simpa using h), fun h => hI.x11 (by simpa using h), fun h => hI.x12 (by simpa using h), fun h => hI.x13 (by simpa using h), fun h => hI.x14 (by simpa using h), fun h => hI.x15 (by simpa using h), fun h => hI.x16 (by simpa using h), fun h => hI.x17 (by simpa using h), fun h => hI.x18 (by simpa using h), fun h => hI.x19 (by simpa using h), fun h => hI.z (by simpa using h), by simpa using hI.dt, hI.gr, fun h i hi => by have := hI.late (by simpa using h) i hi; simp [this]⟩
        · obtain rfl := Option.some.inj hoj
          have HI2 : Hid _ := And.intro hI True.intro
          clear hI
          go_simp
          refine hK _ _ ?_
          refine ⟨_, _, _, _, _, _, _, _, _, _, _, _, _, _, _, _, _, _, _, _, rfl, ?_⟩
          have hI := HI2.out.1
          exact ⟨fun h => hI.x0 (by simpa using h), fun _ => ⟨_, rfl, heap_alloc_new wx _, by omega⟩, fun h => hI.x2 (by simpa using h), fun h => hI.x3 (by simpa using h), fun h => by obtain ⟨b, i, e, hb, hn, h0, h1⟩ := hI.x4 (by simpa using h); exact ⟨b, i, e, al_old hb _, hn, h0, h1⟩, fun h => hI.x5 (by simpa using h), fun h => hI.x6 (by simpa using h), fun h => by obtain ⟨b, e, hb, hn⟩ := hI.x7 (by simpa using h); exact ⟨b, e, al_old hb _, hn⟩, fun h => hI.x8 (by simpa using h), fun h => hI.x9 (by simpa using h), fun h => by obtain ⟨b, i, e, hb, hn, h0, h1⟩ := hI.x10 (by simpa using h); exact ⟨b, i, e, al_old hb _, hn, h0, h1⟩, fun h => hI.x11 (by simpa using h), fun h => hI.x12 (by simpa using h), fun h => by obtain ⟨b, e, hb, hn⟩ := hI.x13 (by simpa using h); exact ⟨b, e, al_old hb _, hn⟩, fun h => hI.x14 (by simpa using h), fun h => hI.x15 (by simpa using h), fun h => by obtain ⟨b, i, e, hb, hn, h0, h1⟩ := hI.x16 (by simpa using h); exact ⟨b, i, e, al_old hb _, hn, h0, h1⟩, fun h => hI.x17 (by simpa using h), fun h => hI.x18 (by simpa using h), fun h => hI.x19 (by simpa using h), fun h => hI.z (by simpa using h), by simpa using hI.dt.alloc _, grown_trans hI.gr (World.grownBy_alloc wx _ _), fun h i hi => by have := hI.late (by simpa using h) i hi; simp [this]⟩
        · obtain rfl := Option.some.inj hoj
          have HI2 : Hid _ := And.intro hI True.intro
          clear hI
          go_simp
          refine hK _ _ ?_
          refine ⟨_, _, _, _, _, _, _, _, _, _, _, _, _, _, _, _, _, _, _, _, rfl, ?_⟩
          have hI := HI2.out.1
          exact ⟨fun h => hI.x0 (by simpa using h), fun h => hI.x1 (by simpa using h), fun _ => rfl, fun h => hI.x3 (by simpa using h), fun h => hI.x4 (by simpa using h), fun h => hI.x5 (by simpa using h), fun h => hI.x6 (by simpa using h), fun h => hI.x7 (by simpa using h), fun h => hI.x8 (by simpa using h), fun h => hI.x9 (by simpa using h), fun h => hI.x10 (by simpa using h), fun h => hI.x11 (by simpa using h), fun h => hI.x12 (by simpa using h), fun h => hI.x13 (by simpa using h), fun h => hI.x14 (by simpa using h), fun h => hI.x15 (by simpa using h), fun h => hI.x16 (by simpa using h), fun h => hI.x17 (by simpa using h), fun h => hI.x18 (by simpa using h), fun h => hI.x19 (by simpa using h), fun h => hI.z (by simpa using h), by simpa using hI.dt, hI.gr, fun h i hi => by have := hI.late (by simpa using h) i hi; simp [this]⟩
        · obtain rfl := Option.some.inj hoj
          have h2 := hall ⟨2, .data⟩ (by simp) rfl
          obtain rfl := hI.x2 h2
          have HI2 : Hid _ := And.intro hI True.intro
          have HC := nextT w.heap.size v xs _ 3 wx hI.dt (by omega) (by decide) (by decide)
          clear hI
          go_simp
          go_at_call 9
          refine HC.mono ?_
          rintro e w7 ⟨i, rfl, a0, a1, d7, g7⟩
          refine hK _ _ ?_
          refine ⟨_, _, _, _, _, _, _, _, _, _, _, _, _, _, _, _, _, _, _, _, rfl, ?_⟩
          have hI := HI2.out.1
          exact ⟨fun h => hI.x0 (by simpa using h), fun h => by obtain ⟨b, e, hb, hn⟩ := hI.x1 (by simpa using h); exact ⟨b, e, blk_drawnT hb g7 hn, hn⟩, fun h => hI.x2 (by simpa using h), fun _ => ⟨_, rfl, a0, a1⟩, fun h => by obtain ⟨b, i, e, hb, hn, h0, h1⟩ := hI.x4 (by simpa using h); exact ⟨b, i, e, blk_drawnT hb g7 hn, hn, h0, h1⟩, fun h => hI.x5 (by simpa using h), fun h => hI.x6 (by simpa using h), fun h => by obtain ⟨b, e, hb, hn⟩ := hI.x7 (by simpa using h); exact ⟨b, e, blk_drawnT hb g7 hn, hn⟩, fun h => hI.x8 (by simpa using h), fun h => hI.x9 (by simpa using h), fun h => by obtain ⟨b, i, e, hb, hn, h0, h1⟩ := hI.x10 (by simpa using h); exact ⟨b, i, e, blk_drawnT hb g7 hn, hn, h0, h1⟩, fun h => hI.x11 (by simpa using h), fun h => hI.x12 (by simpa using h), fun h => by obtain ⟨b, e, hb, hn⟩ := hI.x13 (by simpa using h); exact ⟨b, e, blk_drawnT hb g7 hn, hn⟩, fun h => hI.x14 (by simpa using h), fun h => hI.x15 (by simpa using h), fun h => by obtain ⟨b, i, e, hb, hn, h0, h1⟩ := hI.x16 (by simpa using h); exact ⟨b, i, e, blk_drawnT hb g7 hn, hn, h0, h1⟩, fun h => hI.x17 (by simpa using h), fun h => hI.x18 (by simpa using h), fun h => hI.x19 (by simpa using h), fun h => hI.z (by simpa using h), d7.mono (by simp [hfj]; omega), grown_trans hI.gr g7, fun h i hi => by have := hI.late (by simpa using h) i hi; simp [this]⟩
        · obtain rfl := Option.some.inj hoj
          have h1 := hall ⟨1, .data⟩ (by simp) rfl
          have h3 := hall ⟨3, .data⟩ (by simp) rfl
          obtain ⟨b1, rfl, t1, n1⟩ := hI.x1 h1
          obtain ⟨i3, rfl, l3, r3⟩ := hI.x3 h3
          have HI2 : Hid _ := And.intro hI True.intro
          clear hI
          go_simp
          refine hK _ _ ?_
          refine ⟨_, _, _, _, _, _, _, _, _, _, _, _, _, _, _, _, _, _, _, _, rfl, ?_⟩
          have hI := HI2.out.1
          exact ⟨fun h => hI.x0 (by simpa using h), fun h => hI.x1 (by simpa using h), fun h => hI.x2 (by simpa using h), fun h => hI.x3 (by simpa using h), fun _ => ⟨_, _, rfl, t1, n1, l3, r3⟩, fun h => hI.x5 (by simpa using h), fun h => hI.x6 (by simpa using h), fun h => hI.x7 (by simpa using h), fun h => hI.x8 (by simpa using h), fun h => hI.x9 (by simpa using h), fun h => hI.x10 (by simpa using h), fun h => hI.x11 (by simpa using h), fun h => hI.x12 (by simpa using h), fun h => hI.x13 (by simpa using h), fun h => hI.x14 (by simpa using h), fun h => hI.x15 (by simpa using h), fun h => hI.x16 (by simpa using h), fun h => hI.x17 (by simpa using h), fun h => hI.x18 (by simpa using h), fun h => hI.x19 (by simpa using h), fun h => hI.z (by simpa using h), by simpa using hI.dt, hI.gr, fun h i hi => by have := hI.late (by simpa using h) i hi; simp [this]⟩
        · obtain rfl := Option.some.inj hoj
          have h4 := hall ⟨4, .data⟩ (by simp) rfl
          obtain ⟨b4, i4, rfl, t4, n4, l4, r4⟩ := hI.x4 h4
          obtain ⟨s, hs, hz⟩ := tabP1_at t4 i4 l4 r4
          have HI2 : Hid _ := And.intro hI True.intro
          clear hI
          go_simp
          refine hK _ _ ?_
          refine ⟨_, _, _, _, _, _, _, _, _, _, _, _, _, _, _, _, _, _, _, _, rfl, ?_⟩
          have hI := HI2.out.1
          exact ⟨fun h => hI.x0 (by simpa using h), fun h => hI.x1 (by simpa using h), fun h => hI.x2 (by simpa using h), fun h => hI.x3 (by simpa using h), fun h => hI.x4 (by simpa using h), fun _ => ⟨_, rfl, hz⟩, fun h => hI.x6 (by simpa using h), fun h => hI.x7 (by simpa using h), fun h => hI.x8 (by simpa using h), fun h => hI.x9 (by simpa using h), fun h => hI.x10 (by simpa using h), fun h => hI.x11 (by simpa using h), fun h => hI.x12 (by simpa using h), fun h => hI.x13 (by simpa using h), fun h => hI.x14 (by simpa using h), fun h => hI.x15 (by simpa using h), fun h => hI.x16 (by simpa using h), fun h => hI.x17 (by simpa using h), fun h => hI.x18 (by simpa using h), fun h => hI.x19 (by simpa using h), fun h => hI.z (by simpa using h), by simpa using hI.dt, hI.gr, fun h i hi => by have := hI.late (by simpa using h) i hi; simp [this]⟩
        · obtain rfl := Option.some.inj hoj
          have h0 := hall ⟨0, .data⟩ (by simp) rfl
          have h5 := hall ⟨5, .data⟩ (by simp) rfl
          obtain rfl := hI.x0 h0
          obtain ⟨s5, rfl, q5⟩ := hI.x5 h5
          have hcat : ¬ 9223372036854775807 < o.size + s5.size := by have := HI.out.1; omega
          have HI2 : Hid _ := And.intro hI True.intro
          clear hI
          go_simp
          refine hK _ _ ?_
          refine ⟨_, _, _, _, _, _, _, _, _, _, _, _, _, _, _, _, _, _, _, _, rfl, ?_⟩
          have hI := HI2.out.1
          exact ⟨fun h => hI.x0 (by simpa using h), fun h => hI.x1 (by simpa using h), fun h => hI.x2 (by simpa using h), fun h => hI.x3 (by simpa using h), fun h => hI.x4 (by simpa using h), fun h => hI.x5 (by simpa using h), fun _ => ⟨_, rfl, by rw [ByteArray.size_append]; omega⟩, fun h => hI.x7 (by simpa using h), fun h => hI.x8 (by simpa using h), fun h => hI.x9 (by simpa using h), fun h => hI.x10 (by simpa using h), fun h => hI.x11 (by simpa using h), fun h => hI.x12 (by simpa using h), fun h => hI.x13 (by simpa using h), fun h => hI.x14 (by simpa using h), fun h => hI.x15 (by simpa using h), fun h => hI.x16 (by simpa using h), fun h => hI.x17 (by simpa using h), fun h => hI.x18 (by simpa using h), fun h => hI.x19 (by simpa using h), fun h => hI.z (by simpa using h), by simpa using hI.dt, hI.gr, fun h i hi => by have := hI.late (by simpa using h) i hi; simp [this]⟩
        · obtain rfl := Option.some.inj hoj
          have HI2 : Hid _ := And.intro hI True.intro
          clear hI
          go_simp
          refine hK _ _ ?_
          refine ⟨_, _, _, _, _, _, _, _, _, _, _, _, _, _, _, _, _, _, _, _, rfl, ?_⟩
          have hI := HI2.out.1
          exact ⟨fun h => hI.x0 (by simpa using h), fun h => by obtain ⟨b, e, hb, hn⟩ := hI.x1 (by simpa using h); exact ⟨b, e, al_old hb _, hn⟩, fun h => hI.x2 (by simpa using h), fun h => hI.x3 (by simpa using h), fun h => by obtain ⟨b, i, e, hb, hn, h0, h1⟩ := hI.x4 (by simpa using h); exact ⟨b, i, e, al_old hb _, hn, h0, h1⟩, fun h => hI.x5 (by simpa using h), fun h => hI.x6 (by simpa using h), fun _ => ⟨_, rfl, heap_alloc_new wx _, by omega⟩, fun h => hI.x8 (by simpa using h), fun h => hI.x9 (by simpa using h), fun h => by obtain ⟨b, i, e, hb, hn, h0, h1⟩ := hI.x10 (by simpa using h); exact ⟨b, i, e, al_old hb _, hn, h0, h1⟩, fun h => hI.x11 (by simpa using h), fun h => hI.x12 (by simpa using h), fun h => by obtain ⟨b, e, hb, hn⟩ := hI.x13 (by simpa using h); exact ⟨b, e, al_old hb _, hn⟩, fun h => hI.x14 (by simpa using h), fun h => hI.x15 (by simpa using h), fun h => by obtain ⟨b, i, e, hb, hn, h0, h1⟩ := hI.x16 (by simpa using h); exact ⟨b, i, e, al_old hb _, hn, h0, h1⟩, fun h => hI.x17 (by simpa using h), fun h => hI.x18 (by simpa using h), fun h => hI.x19 (by simpa using h), fun h => hI.z (by simpa using h), by simpa using hI.dt.alloc _, grown_trans hI.gr (World.grownBy_alloc wx _ _), fun h i hi => by have := hI.late (by simpa using h) i hi; simp [this]⟩
        · obtain rfl := Option.some.inj hoj
          have HI2 : Hid _ := And.intro hI True.intro
          clear hI
          go_simp
          refine hK _ _ ?_
          refine ⟨_, _, _, _, _, _, _, _, _, _, _, _, _, _, _, _, _, _, _, _, rfl, ?_⟩
          have hI := HI2.out.1
          exact ⟨fun h => hI.x0 (by simpa using h), fun h => hI.x1 (by simpa using h), fun h => hI.x2 (by simpa using h), fun h => hI.x3 (by simpa using h), fun h => hI.x4 (by simpa using h), fun h => hI.x5 (by simpa using h), fun h => hI.x6 (by simpa using h), fun h => hI.x7 (by simpa using h), fun _ => rfl, fun h => hI.x9 (by simpa using h), fun h => hI.x10 (by simpa using h), fun h => hI.x11 (by simpa using h), fun h => hI.x12 (by simpa using h), fun h => hI.x13 (by simpa using h), fun h => hI.x14 (by simpa using h), fun h => hI.x15 (by simpa using h), fun h => hI.x16 (by simpa using h), fun h => hI.x17 (by simpa using h), fun h => hI.x18 (by simpa using h), fun h => hI.x19 (by simpa using h), fun h => hI.z (by simpa using h), by simpa using hI.dt, hI.gr, fun h i hi => by have := hI.late (by simpa using h) i hi; simp [this]⟩
        · obtain rfl := Option.some.inj hoj
          have h8 := hall ⟨8, .data⟩ (by simp) rfl
          obtain rfl := hI.x8 h8
          have HI2 : Hid _ := And.intro hI True.intro
          have HC := nextT w.heap.size v xs _ 12 wx hI.dt (by omega) (by decide) (by decide)
          clear hI
          go_simp
          go_at_call 9
          refine HC.mono ?_
          rintro e w7 ⟨i, rfl, a0, a1, d7, g7⟩
          refine hK _ _ ?_
          refine ⟨_, _, _, _, _, _, _, _, _, _, _, _, _, _, _, _, _, _, _, _, rfl, ?_⟩
          have hI := HI2.out.1
          exact ⟨fun h => hI.x0 (by simpa using h), fun h => by obtain ⟨b, e, hb, hn⟩ := hI.x1 (by simpa using h); exact ⟨b, e, blk_drawnT hb g7 hn, hn⟩, fun h => hI.x2 (by simpa using h), fun h => hI.x3 (by simpa using h), fun h => by obtain ⟨b, i, e, hb, hn, h0, h1⟩ := hI.x4 (by simpa using h); exact ⟨b, i, e, blk_drawnT hb g7 hn, hn, h0, h1⟩, fun h => hI.x5 (by simpa using h), fun h => hI.x6 (by simpa using h), fun h => by obtain ⟨b, e, hb, hn⟩ := hI.x7 (by simpa using h); exact ⟨b, e, blk_drawnT hb g7 hn, hn⟩, fun h => hI.x8 (by simpa using h), fun _ => ⟨_, rfl, a0, a1⟩, fun h => by obtain ⟨b, i, e, hb, hn, h0, h1⟩ := hI.x10 (by simpa using h); exact ⟨b, i, e, blk_drawnT hb g7 hn, hn, h0, h1⟩, fun h => hI.x11 (by simpa using h), fun h => hI.x12 (by simpa using h), fun h => by obtain ⟨b, e, hb, hn⟩ := hI.x13 (by simpa using h); exact ⟨b, e, blk_drawnT hb g7 hn, hn⟩, fun h => hI.x14 (by simpa using h), fun h => hI.x15 (by simpa using h), fun h => by obtain ⟨b, i, e, hb, hn, h0, h1⟩ := hI.x16 (by simpa using h); exact ⟨b, i, e, blk_drawnT hb g7 hn, hn, h0, h1⟩, fun h => hI.x17 (by simpa using h), fun h => hI.x18 (by simpa using h), fun h => hI.x19 (by simpa using h), fun h => hI.z (by simpa using h), d7.mono (by simp [hfj]; omega), grown_trans hI.gr g7, fun h i hi => by have := hI.late (by simpa using h) i hi; simp [this]⟩
        · obtain rfl := Option.some.inj hoj
          have h7 := hall ⟨7, .data⟩ (by simp) rfl
          have h9 := hall ⟨9, .data⟩ (by simp) rfl
          obtain ⟨b7, rfl, t7, n7⟩ := hI.x7 h7
          obtain ⟨i9, rfl, l9, r9⟩ := hI.x9 h9
          have HI2 : Hid _ := And.intro hI True.intro
          clear hI
          go_simp
          refine hK _ _ ?_
          refine ⟨_, _, _, _, _, _, _, _, _, _, _, _, _, _, _, _, _, _, _, _, rfl, ?_⟩
          have hI := HI2.out.1
          exact ⟨fun h => hI.x0 (by simpa using h), fun h => hI.x1 (by simpa using h), fun h => hI.x2 (by simpa using h), fun h => hI.x3 (by simpa using h), fun h => hI.x4 (by simpa using h), fun h => hI.x5 (by simpa using h), fun h => hI.x6 (by simpa using h), fun h => hI.x7 (by simpa using h), fun h => hI.x8 (by simpa using h), fun h => hI.x9 (by simpa using h), fun _ => ⟨_, _, rfl, t7, n7, l9, r9⟩, fun h => hI.x11 (by simpa using h), fun h => hI.x12 (by simpa using h), fun h => hI.x13 (by simpa using h), fun h => hI.x14 (by simpa using h), fun h => hI.x15 (by simpa using h), fun h => hI.x16 (by simpa using h), fun h => hI.x17 (by simpa using h), fun h => hI.x18 (by simpa using h), fun h => hI.x19 (by simpa using h), fun h => hI.z (by simpa using h), by simpa using hI.dt, hI.gr, fun h i hi => by have := hI.late (by simpa using h) i hi; simp [this]⟩
        · obtain rfl := Option.some.inj hoj
          have h10 := hall ⟨10, .data⟩ (by simp) rfl
          obtain ⟨b10, i10, rfl, t10, n10, l10, r10⟩ := hI.x10 h10
          obtain ⟨s, hs, hz⟩ := tabP2_at t10 i10 l10 r10
          have HI2 : Hid _ := And.intro hI True.intro
          clear hI
          go_simp
          refine hK _ _ ?_
          refine ⟨_, _, _, _, _, _, _, _, _, _, _, _, _, _, _, _, _, _, _, _, rfl, ?_⟩
          have hI := HI2.out.1
          exact ⟨fun h => hI.x0 (by simpa using h), fun h => hI.x1 (by simpa using h), fun h => hI.x2 (by simpa using h), fun h => hI.x3 (by simpa using h), fun h => hI.x4 (by simpa using h), fun h => hI.x5 (by simpa using h), fun h => hI.x6 (by simpa using h), fun h => hI.x7 (by simpa using h), fun h => hI.x8 (by simpa using h), fun h => hI.x9 (by simpa using h), fun h => hI.x10 (by simpa using h), fun _ => ⟨_, rfl, hz⟩, fun h => hI.x12 (by simpa using h), fun h => hI.x13 (by simpa using h), fun h => hI.x14 (by simpa using h), fun h => hI.x15 (by simpa using h), fun h => hI.x16 (by simpa using h), fun h => hI.x17 (by simpa using h), fun h => hI.x18 (by simpa using h), fun h => hI.x19 (by simpa using h), fun h => hI.z (by simpa using h), by simpa using hI.dt, hI.gr, fun h i hi => by have := hI.late (by simpa using h) i hi; simp [this]⟩
        · obtain rfl := Option.some.inj hoj
          have h6 := hall ⟨6, .data⟩ (by simp) rfl
          have h11 := hall ⟨11, .data⟩ (by simp) rfl
          obtain ⟨s6, rfl, q6⟩ := hI.x6 h6
          obtain ⟨s11, rfl, q11⟩ := hI.x11 h11
          have hcat : ¬ 9223372036854775807 < s6.size + s11.size := by have := HI.out.1; omega
          have HI2 : Hid _ := And.intro hI True.intro
          clear hI
          go_simp
          refine hK _ _ ?_
          refine ⟨_, _, _, _, _, _, _, _, _, _, _, _, _, _, _, _, _, _, _, _, rfl, ?_⟩
          have hI := HI2.out.1
          exact ⟨fun h => hI.x0 (by simpa using h), fun h => hI.x1 (by simpa using h), fun h => hI.x2 (by simpa using h), fun h => hI.x3 (by simpa using h), fun h => hI.x4 (by simpa using h), fun h => hI.x5 (by simpa using h), fun h => hI.x6 (by simpa using h), fun h => hI.x7 (by simpa using h), fun h => hI.x8 (by simpa using h), fun h => hI.x9 (by simpa using h), fun h => hI.x10 (by simpa using h), fun h => hI.x11 (by simpa using h), fun _ => ⟨_, rfl, by rw [ByteArray.size_append]; omega⟩, fun h => hI.x13 (by simpa using h), fun h => hI.x14 (by simpa using h), fun h => hI.x15 (by simpa using h), fun h => hI.x16 (by simpa using h), fun h => hI.x17 (by simpa using h), fun h => hI.x18 (by simpa using h), fun h => hI.x19 (by simpa using h), fun h => hI.z (by simpa using h), by simpa using hI.dt, hI.gr, fun h i hi => by have := hI.late (by simpa using h) i hi; simp [this]⟩
        · obtain rfl := Option.some.inj hoj
          have HI2 : Hid _ := And.intro hI True.intro
          clear hI
          go_simp
          refine hK _ _ ?_
          refine ⟨_, _, _, _, _, _, _, _, _, _, _, _, _, _, _, _, _, _, _, _, rfl, ?_⟩
          have hI := HI2.out.1
          exact ⟨fun h => hI.x0 (by simpa using h), fun h => by obtain ⟨b, e, hb, hn⟩ := hI.x1 (by simpa using h); exact ⟨b, e, al_old hb _, hn⟩, fun h => hI.x2 (by simpa using h), fun h => hI.x3 (by simpa using h), fun h => by obtain ⟨b, i, e, hb, hn, h0, h1⟩ := hI.x4 (by simpa using h); exact ⟨b, i, e, al_old hb _, hn, h0, h1⟩, fun h => hI.x5 (by simpa using h), fun h => hI.x6 (by simpa using h), fun h => by obtain ⟨b, e, hb, hn⟩ := hI.x7 (by simpa using h); exact ⟨b, e, al_old hb _, hn⟩, fun h => hI.x8 (by simpa using h), fun h => hI.x9 (by simpa using h), fun h => by obtain ⟨b, i, e, hb, hn, h0, h1⟩ := hI.x10 (by simpa using h); exact ⟨b, i, e, al_old hb _, hn, h0, h1⟩, fun h => hI.x11 (by simpa using h), fun h => hI.x12 (by simpa using h), fun _ => ⟨_, rfl, heap_alloc_new wx _, by omega⟩, fun h => hI.x14 (by simpa using h), fun h => hI.x15 (by simpa using h), fun h => by obtain ⟨b, i, e, hb, hn, h0, h1⟩ := hI.x16 (by simpa using h); exact ⟨b, i, e, al_old hb _, hn, h0, h1⟩, fun h => hI.x17 (by simpa using h), fun h => hI.x18 (by simpa using h), fun h => hI.x19 (by simpa using h), fun h => hI.z (by simpa using h), by simpa using hI.dt.alloc _, grown_trans hI.gr (World.grownBy_alloc wx _ _), fun h i hi => by have := hI.late (by simpa using h) i hi; simp [this]⟩
        · obtain rfl := Option.some.inj hoj
          have HI2 : Hid _ := And.intro hI True.intro
          clear hI
          go_simp
          refine hK _ _ ?_
          refine ⟨_, _, _, _, _, _, _, _, _, _, _, _, _, _, _, _, _, _, _, _, rfl, ?_⟩
          have hI := HI2.out.1
          exact ⟨fun h => hI.x0 (by simpa using h), fun h => hI.x1 (by simpa using h), fun h => hI.x2 (by simpa using h), fun h => hI.x3 (by simpa using h), fun h => hI.x4 (by simpa using h), fun h => hI.x5 (by simpa using h), fun h => hI.x6 (by simpa using h), fun h => hI.x7 (by simpa using h), fun h => hI.x8 (by simpa using h), fun h => hI.x9 (by simpa using h), fun h => hI.x10 (by simpa using h), fun h => hI.x11 (by simpa using h), fun h => hI.x12 (by simpa using h), fun h => hI.x13 (by simpa using h), fun _ => rfl, fun h => hI.x15 (by simpa using h), fun h => hI.x16 (by simpa using h), fun h => hI.x17 (by simpa using h), fun h => hI.x18 (by simpa using h), fun h => hI.x19 (by simpa using h), fun h => hI.z (by simpa using h), by simpa using hI.dt, hI.gr, fun h i hi => by have := hI.late (by simpa using h) i hi; simp [this]⟩
        · obtain rfl := Option.some.inj hoj
          have h14 := hall ⟨14, .data⟩ (by simp) rfl
          obtain rfl := hI.x14 h14
          have HI2 : Hid _ := And.intro hI True.intro
          have HC := nextT w.heap.size v xs _ 2 wx hI.dt (by omega) (by decide) (by decide)
          clear hI
          go_simp
          go_at_call 9
          refine HC.mono ?_
          rintro e w7 ⟨i, rfl, a0, a1, d7, g7⟩
          refine hK _ _ ?_
          refine ⟨_, _, _, _, _, _, _, _, _, _, _, _, _, _, _, _, _, _, _, _, rfl, ?_⟩
          have hI := HI2.out.1
          exact ⟨fun h => hI.x0 (by simpa using h), fun h => by obtain ⟨b, e, hb, hn⟩ := hI.x1 (by simpa using h); exact ⟨b, e, blk_drawnT hb g7 hn, hn⟩, fun h => hI.x2 (by simpa using h), fun h => hI.x3 (by simpa using h), fun h => by obtain ⟨b, i, e, hb, hn, h0, h1⟩ := hI.x4 (by simpa using h); exact ⟨b, i, e, blk_drawnT hb g7 hn, hn, h0, h1⟩, fun h => hI.x5 (by simpa using h), fun h => hI.x6 (by simpa using h), fun h => by obtain ⟨b, e, hb, hn⟩ := hI.x7 (by simpa using h); exact ⟨b, e, blk_drawnT hb g7 hn, hn⟩, fun h => hI.x8 (by simpa using h), fun h => hI.x9 (by simpa using h), fun h => by obtain ⟨b, i, e, hb, hn, h0, h1⟩ := hI.x10 (by simpa using h); exact ⟨b, i, e, blk_drawnT hb g7 hn, hn, h0, h1⟩, fun h => hI.x11 (by simpa using h), fun h => hI.x12 (by simpa using h), fun h => by obtain ⟨b, e, hb, hn⟩ := hI.x13 (by simpa using h); exact ⟨b, e, blk_drawnT hb g7 hn, hn⟩, fun h => hI.x14 (by simpa using h), fun _ => ⟨_, rfl, a0, a1⟩, fun h => by obtain ⟨b, i, e, hb, hn, h0, h1⟩ := hI.x16 (by simpa using h); exact ⟨b, i, e, blk_drawnT hb g7 hn, hn, h0, h1⟩, fun h => hI.x17 (by simpa using h), fun h => hI.x18 (by simpa using h), fun h => hI.x19 (by simpa using h), fun h => hI.z (by simpa using h), d7.mono (by simp [hfj]; omega), grown_trans hI.gr g7, fun h i hi => by have := hI.late (by simpa using h) i hi; simp [this]⟩
        · obtain rfl := Option.some.inj hoj
          have h13 := hall ⟨13, .data⟩ (by simp) rfl
          have h15 := hall ⟨15, .data⟩ (by simp) rfl
          obtain ⟨b13, rfl, t13, n13⟩ := hI.x13 h13
          obtain ⟨i15, rfl, l15, r15⟩ := hI.x15 h15
          have HI2 : Hid _ := And.intro hI True.intro
          clear hI
          go_simp
          refine hK _ _ ?_
          refine ⟨_, _, _, _, _, _, _, _, _, _, _, _, _, _, _, _, _, _, _, _, rfl, ?_⟩
          have hI := HI2.out.1
          exact ⟨fun h => hI.x0 (by simpa using h), fun h => hI.x1 (by simpa using h), fun h => hI.x2 (by simpa using h), fun h => hI.x3 (by simpa using h), fun h => hI.x4 (by simpa using h), fun h => hI.x5 (by simpa using h), fun h => hI.x6 (by simpa using h), fun h => hI.x7 (by simpa using h), fun h => hI.x8 (by simpa using h), fun h => hI.x9 (by simpa using h), fun h => hI.x10 (by simpa using h), fun h => hI.x11 (by simpa using h), fun h => hI.x12 (by simpa using h), fun h => hI.x13 (by simpa using h), fun h => hI.x14 (by simpa using h), fun h => hI.x15 (by simpa using h), fun _ => ⟨_, _, rfl, t13, n13, l15, r15⟩, fun h => hI.x17 (by simpa using h), fun h => hI.x18 (by simpa using h), fun h => hI.x19 (by simpa using h), fun h => hI.z (by simpa using h), by simpa using hI.dt, hI.gr, fun h i hi => by have := hI.late (by simpa using h) i hi; simp [this]⟩
        · obtain rfl := Option.some.inj hoj
          have h16 := hall ⟨16, .data⟩ (by simp) rfl
          obtain ⟨b16, i16, rfl, t16, n16, l16, r16⟩ := hI.x16 h16
          obtain ⟨s, hs, hz⟩ := tabP3_at t16 i16 l16 r16
          have HI2 : Hid _ := And.intro hI True.intro
          clear hI
          go_simp
          refine hK _ _ ?_
          refine ⟨_, _, _, _, _, _, _, _, _, _, _, _, _, _, _, _, _, _, _, _, rfl, ?_⟩
          have hI := HI2.out.1
          exact ⟨fun h => hI.x0 (by simpa using h), fun h => hI.x1 (by simpa using h), fun h => hI.x2 (by simpa using h), fun h => hI.x3 (by simpa using h), fun h => hI.x4 (by simpa using h), fun h => hI.x5 (by simpa using h), fun h => hI.x6 (by simpa using h), fun h => hI.x7 (by simpa using h), fun h => hI.x8 (by simpa using h), fun h => hI.x9 (by simpa using h), fun h => hI.x10 (by simpa using h), fun h => hI.x11 (by simpa using h), fun h => hI.x12 (by simpa using h), fun h => hI.x13 (by simpa using h), fun h => hI.x14 (by simpa using h), fun h => hI.x15 (by simpa using h), fun h => hI.x16 (by simpa using h), fun _ => ⟨_, rfl, hz⟩, fun h => hI.x18 (by simpa using h), fun h => hI.x19 (by simpa using h), fun h => hI.z (by simpa using h), by simpa using hI.dt, hI.gr, fun h i hi => by have := hI.late (by simpa using h) i hi; simp [this]⟩
        · obtain rfl := Option.some.inj hoj
          have h12 := hall ⟨12, .data⟩ (by simp) rfl
          have h17 := hall ⟨17, .data⟩ (by simp) rfl
          obtain ⟨s12, rfl, q12⟩ := hI.x12 h12
          obtain ⟨s17, rfl, q17⟩ := hI.x17 h17
          have hcat : ¬ 9223372036854775807 < s12.size + s17.size := by have := HI.out.1; omega
          have HI2 : Hid _ := And.intro hI True.intro
          clear hI
          go_simp
          refine hK _ _ ?_
          refine ⟨_, _, _, _, _, _, _, _, _, _, _, _, _, _, _, _, _, _, _, _, rfl, ?_⟩
          have hI := HI2.out.1
          exact ⟨fun h => hI.x0 (by simpa using h), fun h => hI.x1 (by simpa using h), fun h => hI.x2 (by simpa using h), fun h => hI.x3 (by simpa using h), fun h => hI.x4 (by simpa using h), fun h => hI.x5 (by simpa using h), fun h => hI.x6 (by simpa using h), fun h => hI.x7 (by simpa using h), fun h => hI.x8 (by simpa using h), fun h => hI.x9 (by simpa using h), fun h => hI.x10 (by simpa using h), fun h => hI.x11 (by simpa using h), fun h => hI.x12 (by simpa using h), fun h => hI.x13 (by simpa using h), fun h => hI.x14 (by simpa using h), fun h => hI.x15 (by simpa using h), fun h => hI.x16 (by simpa using h), fun h => hI.x17 (by simpa using h), fun _ => ⟨_, rfl, by rw [ByteArray.size_append]; omega⟩, fun h => hI.x19 (by simpa using h), fun h => hI.z (by simpa using h), by simpa using hI.dt, hI.gr, fun h i hi => by have := hI.late (by simpa using h) i hi; simp [this]⟩
        · obtain rfl := Option.some.inj hoj
          have hAll : ∀ i, i < 19 → f i = true := by
            intro i hi
            obtain rfl | rfl | rfl | rfl | rfl | rfl | rfl | rfl | rfl | rfl | rfl | rfl | rfl | rfl | rfl | rfl | rfl | rfl | rfl : i = 0 ∨ i = 1 ∨ i = 2 ∨ i = 3 ∨ i = 4 ∨ i = 5 ∨ i = 6 ∨ i = 7 ∨ i = 8 ∨ i = 9 ∨ i = 10 ∨ i = 11 ∨ i = 12 ∨ i = 13 ∨ i = 14 ∨ i = 15 ∨ i = 16 ∨ i = 17 ∨ i = 18 := by omega
            all_goals exact hall ⟨_, .phase⟩ (by simp) rfl
          have h18 := hall ⟨18, .data⟩ (by simp) rfl
          obtain ⟨s18, rfl, q18⟩ := hI.x18 h18
          have HI2 : Hid _ := And.intro hI True.intro
          clear hI
          go_simp
          refine hK _ _ ?_
          refine ⟨_, _, _, _, _, _, _, _, _, _, _, _, _, _, _, _, _, _, _, _, rfl, ?_⟩
          have hI := HI2.out.1
          exact ⟨fun h => hI.x0 (by simpa using h), fun h => hI.x1 (by simpa using h), fun h => hI.x2 (by simpa using h), fun h => hI.x3 (by simpa using h), fun h => hI.x4 (by simpa using h), fun h => hI.x5 (by simpa using h), fun h => hI.x6 (by simpa using h), fun h => hI.x7 (by simpa using h), fun h => hI.x8 (by simpa using h), fun h => hI.x9 (by simpa using h), fun h => hI.x10 (by simpa using h), fun h => hI.x11 (by simpa using h), fun h => hI.x12 (by simpa using h), fun h => hI.x13 (by simpa using h), fun h => hI.x14 (by simpa using h), fun h => hI.x15 (by simpa using h), fun h => hI.x16 (by simpa using h), fun h => hI.x17 (by simpa using h), fun h => hI.x18 (by simpa using h), fun _ => ⟨_, rfl, q18⟩, fun h => by simp at h, by simpa using hI.dt, hI.gr, fun _ i hi => by have := hAll i hi; simp [this]⟩
      case done =>
        intro f a wx hInv hall
        obtain ⟨u4, u14, u15, u16, u17, u18, u19, u20, u21, u22, u23, u24, u25, u26, u27, u28, u29, u30, u31, u32, rfl, hI⟩ := hInv
        obtain ⟨s, rfl, hs⟩ := hI.x19 (hall 19 (by decide))
        have d := hI.dt
        rw [hall 3 (by decide), hall 9 (by decide), hall 15 (by decide)] at d
        have HJ : Hid _ := And.intro d (And.intro (grown_trans HI.out.2.2 hI.gr) hs)
        have ho := HI.out.1
        have hcat : ¬ 9223372036854775807 < s.size + 1 := by omega
        clear d hs hI hall
        dsimp only
        by_cases hq1 : 1 < q
        · have hq1' : (1 : Int) < q := by omega
          go_wp2
          exact ⟨⟨_, q - 1, rfl, by congr 1; omega, by omega, by rw [ByteArray.size_append]; have h1 := HJ.out.2.2; show s.size + 1 + _ ≤ _; omega, HJ.out.1.mono (by simp; omega), HJ.out.2.1⟩, by simp [intOf]; omega⟩
        · have hq1' : ¬ (1 : Int) < q := by omega
          go_wp2_with fail
          go_at_call 10
          refine (chanceT w.heap.size v xs _ 4 wx HJ.out.1 (by simp; omega) (by decide) (by decide)).mono ?_
          rintro e w8 ⟨k, rfl, d8, g8⟩
          have H8 : Hid _ := And.intro d8 (grown_trans HJ.out.2.1 g8)
          clear d8 g8
          cases k
          · go_wp2
            exact ⟨⟨_, q - 1, rfl, by congr 1; omega, by omega, by have h1 := HJ.out.2.2; omega, H8.out.1.mono (by simp; omega), H8.out.2⟩, by simp [intOf]; omega⟩
          · go_wp2
            exact ⟨⟨_, q - 1, rfl, by congr 1; omega, by omega, by rw [ByteArray.size_append]; have h1 := HJ.out.2.2; show s.size + 1 + _ ≤ _; omega, H8.out.1.mono (by simp; omega), H8.out.2⟩, by simp [intOf]; omega⟩
    · obtain rfl : q = 0 := by omega
      have HI : Hid _ := And.intro ho (And.intro hd hg)
      have ho4 : o.size ≤ 40 := by omega
      clear ho hd hg
      go_wp2_with fail
      go_at_call 10
      refine (chanceT w.heap.size v xs _ 40 wr HI.out.2.1 (by omega) (by decide) (by decide)).mono ?_
      rintro e w8 ⟨k, rfl, d8, g8⟩
      have H8 : Hid _ := And.intro d8 (H1.out.2.1.grown (grown_trans HI.out.2.2 g8) H1.out.2.1.size (fun k hk => by have := Option.some.inj hk; omega))
      clear d8 g8
      cases k
      · go_wp2
        go_ret
        exact ⟨_, rfl, by omega, H8.out.2⟩
      · have hcat : ¬ 9223372036854775807 < o.size + 5 := by omega
        go_wp2_with fail
        go_at_call 9
        refine (nextT w.heap.size v xs _ 2 w8 H8.out.1 (by omega) (by decide) (by decide)).mono ?_
        rintro e w9 ⟨i, rfl, i0, i1, d9, g9⟩
        have hb9 : Below w.heap.size w w9 := H8.out.2.grown g9 H8.out.2.size (fun k hk => by have := Option.some.inj hk; omega)
        obtain ⟨n, en⟩ : ∃ n : Nat, 1019 - (o.size : Int) + i = (n : Int) := ⟨(1019 - (o.size : Int) + i).toNat, by omega⟩
        have hn1 : 1 ≤ n ∧ n ≤ 2000 := by omega
        have C := fillC n hn1.2 hn1.1 w9
        have hw2 : IntKind.i64.wrap (1019 - (o.size : Int)) = 1019 - (o.size : Int) := by rw [IntKind.wrap_i64]; omega
        have hw3 : IntKind.i64.wrap (1019 - (o.size : Int) + i) = (n : Int) := by rw [IntKind.wrap_i64]; omega
        have H9 : Hid _ := And.intro C (And.intro hb9 hn1)
        clear C hb9 d9 g9
        go_wp2_with fail
        go_at_call 11
        refine H9.out.1.mono ?_
        rintro e w10 ⟨r, ys, rfl, r10, l10, b10⟩
        have cv := conv_rowP (P := Tryd.prog) Tryd.underlying22 Tryd.underlying5 Tryd.underlying9 r10 (by have := H9.out.2.2; omega)
        have hzz : (strOfNums ys).size = n := by rw [← l10]; simp [strOfNums, ByteArray.size]
        generalize strOfNums ys = Z at *
        have H10 : Hid _ := And.intro (H9.out.2.1.trans (b10.mono H9.out.2.1.size)) True.intro
        have hn2 := H9.out.2.2.2
        have hc1 : (o ++ (⟨#[44, 32, 117, 61, 49]⟩ : ByteArray)).size = o.size + 5 := by rw [ByteArray.size_append]; rfl
        have hcat2 : ¬ 9223372036854775807 < o.size + 5 + n := by omega
        have hcat3 : ¬ 9223372036854775807 < (o ++ (⟨#[44, 32, 117, 61, 49]⟩ : ByteArray)).size + n := by omega
        clear r10 b10
        go_wp2
        go_ret
        refine ⟨_, rfl, ?_, H10.out.1⟩
        rw [ByteArray.size_append]
        omega
end Go.Proofs.YtpbkigmcbgbfgaaDoor
