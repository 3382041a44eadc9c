import Derived.Test.YteekpdmblododaaMarkBytes
import Derived.Test.YteekpdmblododaaKeys
import Derived.Test.YteekpdmblododaaEqBytes
import Derived.Test.YteekpdmblododaaToBytes
import Derived.Test.YteekpdmblododaaBook
import Derived.Deep.RegionWith
import Derived.Deep.CutRange
import Derived.Test.YteekpdmblododaaSealS
import Derived.Test.YteekpdmblododaaISeal
import Derived.Test.YteekpdmblododaaKeysOf
import Derived.Test.YteekpdmblododaaIKeysOf
import Derived.Test.YteekpdmblododaaIReset
import Derived.Test.YteekpdmblododaaOpenS
import Derived.Test.YteekpdmblododaaSpecVal
import Derived.Test.YteekpdmblododaaIOpenAll
import Derived.Test.YteekpdmblododaaRows
import Derived.Test.YteekpdmblododaaLift
import Derived.Lib.LaidTab
namespace Go.Proofs.Yteekpdmblododaa
open Go.RowKit
set_option linter.unusedVariables false

/-- A row of one's own, or what lies behind a place of one. -/
def OwnP (w : World) (base : Nat) (v : Value) (n : Nat) (ys : List Int) : Prop :=
  w.ownsRow base 5 1 v n (ys.map (Value.int .u8)) ∨
  ∃ (g off cap c0 : Nat) (xs : List Int), v = .slice (some ⟨g, off, none⟩) n cap ∧ w.ownsRow base 5 1 (.slice (some ⟨g, 0, none⟩) (off + n) c0) (off + n) (xs.map (Value.int .u8)) ∧ xs.drop off = ys ∧ n ≤ cap ∧ cap ≤ maxLen
theorem OwnP.of {w : World} {base n : Nat} {v : Value} {ys : List Int} (h : w.ownsRow base 5 1 v n (ys.map (Value.int .u8))) : OwnP w base v n ys := Or.inl h
theorem ownP_len {w : World} {base n : Nat} {v : Value} {xs : List Int} (h : w.ownsRow base 5 1 v n (xs.map (Value.int .u8))) : xs.length = n := by simpa using h.1
theorem OwnP.row {w : World} {base n : Nat} {v : Value} {ys : List Int} (h : OwnP w base v n ys) : Row w .u8 v ys := by
  rcases h with h | ⟨g, off, cap, c0, xs, rfl, h, rfl, h1, h2⟩
  · exact row_of_owns h
  · have hl := ownP_len h
    have hg := (h.lt g rfl).2
    have hc : ∀ j, j < xs.length → w.cell? ⟨g, 0 + j, none⟩ = some (.int .u8 (xs.getD j 0)) := by
      intro j hj
      rw [Nat.zero_add, h.cellAt j (by omega), List.getElem?_map, List.getElem?_eq_getElem hj]
      simp [List.getD, hj]
    have := row_cut (w := w) (k := .u8) (xs := xs) (b := g) (off := 0) (cap := 0) (at' := off) (n := n) (cap' := cap) hg hc (by omega) ⟨h1, h2⟩
    rw [Nat.zero_add, List.take_of_length_le (by rw [List.length_drop]; omega)] at this
    exact this
theorem OwnP.below {w w' : World} {base n : Nat} {v : Value} {ys : List Int} (h : OwnP w base v n ys) (hb : Below w.heap.size w w') : OwnP w' base v n ys := by
  rcases h with h | ⟨g, off, cap, c0, xs, rfl, h, e, h1, h2⟩
  · exact Or.inl (owns_below h hb)
  · exact Or.inr ⟨g, off, cap, c0, xs, rfl, owns_below h hb, e, h1, h2⟩
theorem OwnP.chg {S : Nat → Prop} {w w' : World} {base n : Nat} {v : Value} {ys : List Int} (h : OwnP w base v n ys) (hc : Chg S w w') (hs : ∀ k, v.ownBlock = some k → ¬ S k) : OwnP w' base v n ys := by
  rcases h with h | ⟨g, off, cap, c0, xs, rfl, h, e, h1, h2⟩
  · exact Or.inl (hc.owns h hs)
  · exact Or.inr ⟨g, off, cap, c0, xs, rfl, hc.owns h (fun k hk => hs k hk), e, h1, h2⟩
theorem OwnP.lt {w : World} {base n : Nat} {v : Value} {ys : List Int} (h : OwnP w base v n ys) (g : Nat) (hg : v.ownBlock = some g) : base ≤ g ∧ g < w.heap.size := by
  rcases h with h | ⟨g', off, cap, c0, xs, rfl, h, e, h1, h2⟩
  · exact h.lt g hg
  · exact h.lt g hg
theorem OwnP.mono {w : World} {base base' n : Nat} {v : Value} {ys : List Int} (h : OwnP w base v n ys) (hb : base' ≤ base) : OwnP w base' v n ys := by
  rcases h with h | ⟨g, off, cap, c0, xs, rfl, h, e, h1, h2⟩
  · exact Or.inl (owns_mono h hb)
  · exact Or.inr ⟨g, off, cap, c0, xs, rfl, owns_mono h hb, e, h1, h2⟩
theorem markP_step {w wr : World} {base g off n c0 k : Nat} {q x : Int} {xs : List Int} (hx : x = (q + (k : Int)) % 256)
    (hl : xs.length = off + n) (hk : k < n) (hm : ∀ j, j < k → xs.getD (off + j) 0 = (q + (j : Int)) % 256)
    (hown : wr.ownsRow base 5 1 (.slice (some ⟨g, 0, none⟩) (off + n) c0) (off + n) (xs.map (Value.int .u8))) (hb : Below base w wr) (hz : wr.heap.size = w.heap.size) (ho : Only (some g) w wr) (hg : base ≤ g) :
    ∃ ys : List Int, ys.length = off + n ∧ (∀ j, j < k + 1 → ys.getD (off + j) 0 = (q + (j : Int)) % 256) ∧ (wr.setCell ⟨g, off + k, none⟩ (.int .u8 x)).ownsRow base 5 1 (.slice (some ⟨g, 0, none⟩) (off + n) c0) (off + n) (ys.map (Value.int .u8)) ∧
      Below base w (wr.setCell ⟨g, off + k, none⟩ (.int .u8 x)) ∧ (wr.setCell ⟨g, off + k, none⟩ (.int .u8 x)).heap.size = w.heap.size ∧ Only (some g) w (wr.setCell ⟨g, off + k, none⟩ (.int .u8 x)) := by
  refine ⟨xs.set (off + k) x, by simp [hl], fun j hj => ?_, ?_, hb.setCell hg _, by simp [World.setCell, hz], ho.trans (Only.setCell ⟨g, off + k, none⟩ _)⟩
  · by_cases e : j = k
    · subst e
      simp [List.getD, hl, hk, hx]
    · have := hm j (by omega)
      simp only [List.getD, List.getElem?_set] at this ⊢
      rw [if_neg (by omega)]
      exact this
  · have := (hown.stored (off + k) (.int .u8 x)).1
    rwa [← List.map_set] at this
set_option maxHeartbeats 400000 in
theorem markP_core (q : Int) (n : Nat) (base g off cap c0 : Nat) (xs : List Int) (w : World) (hn : n ≤ 140737488355328) (hq0 : 0 ≤ q) (hq1 : q ≤ 140737488355328) (hg : base ≤ g) (hl0 : xs.length = off + n)
    (hown0 : w.ownsRow base 5 1 (.slice (some ⟨g, 0, none⟩) (off + n) c0) (off + n) (xs.map (Value.int .u8))) :
    Calls Try.prog 9 #[.slice (some ⟨g, off, none⟩) n cap, .int .i64 q] w fun e w' => e = .returned (.int .i64 (q + n)) ∧
      (∃ ys : List Int, ys.length = off + n ∧ (∀ j, j < n → ys.getD (off + j) 0 = (q + (j : Int)) % 256) ∧ w'.ownsRow base 5 1 (.slice (some ⟨g, 0, none⟩) (off + n) c0) (off + n) (ys.map (Value.int .u8))) ∧ Below base w w' ∧ w'.heap.size = w.heap.size ∧ Only (some g) w w' := by
  go_enter Try.func9, Try.ntmps9
  go_wp2
  go_loopw [1, 5] (fun s i wr => ∃ k : Nat, k ≤ n ∧ i = .int .i64 k ∧ s = .int .i64 (q + k) ∧ ∃ zs : List Int, zs.length = off + n ∧ (∀ j, j < k → zs.getD (off + j) 0 = (q + (j : Int)) % 256) ∧
      wr.ownsRow base 5 1 (.slice (some ⟨g, 0, none⟩) (off + n) c0) (off + n) (zs.map (Value.int .u8)) ∧ Below base w wr ∧ wr.heap.size = w.heap.size ∧ Only (some g) w wr) (fun _ i _ => n - (intOf i).toNat)
  case atStart => exact ⟨0, Nat.zero_le _, rfl, by simp, xs, hl0, fun j h => by omega, hown0, Below.refl _ _, rfl, Only.refl _ _⟩
  case round =>
    obtain ⟨k, hk, rfl, rfl, zs, hl, hm, hown, hb, hz, ho⟩ := hrel
    by_cases hlt : k < n
    · have R := markP_step (x := (q + (k : Int)) % 256) rfl hl hlt hm hown hb hz ho hg
      have f1 := hown.frozenAt (off + k)
      have c1 : ∃ u, wr.cell? ⟨g, off + k, none⟩ = some u := by
        have := hown.cellAt (off + k) (by omega)
        rw [this]
        exact ⟨_, by rw [List.getElem?_map, List.getElem?_eq_getElem (by omega)]; rfl⟩
      obtain ⟨u, c1⟩ := c1
      clear hl hm hown hb hz ho hown0 hl0
      obtain ⟨ys, R⟩ := R
      have HR : Hid _ := R
      clear R
      go_wp2
      go_roundw
      case rel =>
        obtain ⟨r1, r2, r3, r4, r5, r6⟩ := HR.out
        exact ⟨k + 1, by omega, by go_num, by go_num, ys, r1, r2, r3, r4, r5, r6⟩
      case measure => simp [intOf]; omega
    · have HR : Hid _ := And.intro hl (And.intro hm (And.intro hown (And.intro hb (And.intro hz ho))))
      clear hl hm hown hb hz ho hown0 hl0
      go_wp2
      go_ret
      obtain rfl : k = n := by omega
      obtain ⟨r1, r2, r3, r4, r5, r6⟩ := HR.out
      exact ⟨rfl, ⟨zs, r1, r2, r3⟩, r4, r5, r6⟩
theorem markP (q : Int) (n base : Nat) (v : Value) (xs : List Int) (w : World) (hn : n ≤ 140737488355328) (hq0 : 0 ≤ q) (hq1 : q ≤ 140737488355328)
    (hown : OwnP w base v n xs) :
    Calls Try.prog 9 #[v, .int .i64 q] w fun e w' => e = .returned (.int .i64 (q + n)) ∧ OwnP w' base v n (marks q n) ∧ Below base w w' ∧ w'.heap.size = w.heap.size ∧ Only v.ownBlock w w' := by
  rcases hown with h | ⟨g, off, cap, c0, zs, rfl, h, e, h1, h2⟩
  · refine (markBytes q n base v xs w hn hq0 hq1 h).mono ?_
    rintro e w' ⟨rfl, a, b, c, d⟩
    exact ⟨rfl, Or.inl a, b, c, d⟩
  · refine (markP_core q n base g off cap c0 zs w hn hq0 hq1 (h.lt g rfl).1 (ownP_len h) h).mono ?_
    rintro e w' ⟨rfl, ⟨ys, hy, hm, ho⟩, hb, hz, hon⟩
    refine ⟨rfl, Or.inr ⟨g, off, cap, c0, ys, rfl, ho, ?_, h1, h2⟩, hb, hz, hon⟩
    apply List.ext_getElem (by rw [List.length_drop, hy, marks_length]; omega)
    intro i i1 i2
    have hi : i < n := by rw [marks_length] at i2; exact i2
    have e1 := hm i hi
    have e2 := marks_at q n i hi
    simp only [List.getD, List.getElem?_eq_getElem (show off + i < ys.length by omega), List.getElem?_eq_getElem i2, Option.getD_some] at e1 e2
    rw [List.getElem_drop, e1, e2]
end Go.Proofs.Yteekpdmblododaa

namespace Go.Proofs.Yteekpdmblododaa
open Go.RowKit
set_option linter.unusedVariables false

theorem tokenCheck_huge0 (ao0 : Option Addr) (n0 cp0 : Nat) (ao1 : Option Addr) (n1 cp1 : Nat) (a2 : Int) (ao3 : Option Addr) (n3 cp3 : Nat) (w : World) (h0 : 1048576 < n0) (m0 : n0 ≤ 9223372036854775807) :
    Calls Try.prog 4 #[.slice ao0 n0 cp0, .slice ao1 n1 cp1, .int .i64 a2, .slice ao3 n3 cp3] w fun e w' => e = .returned (.bool true) ∧ Below w.heap.size w w' := by
  go_enter Try.func4, Try.ntmps4
  go_wp2
  go_ret
  exact ⟨rfl, Below.refl _ _⟩
theorem tokenCheck_huge1 (ao0 : Option Addr) (n0 cp0 : Nat) (ao1 : Option Addr) (n1 cp1 : Nat) (a2 : Int) (ao3 : Option Addr) (n3 cp3 : Nat) (w : World) (h0 : n0 ≤ 1048576) (h1 : 1048576 < n1) (m1 : n1 ≤ 9223372036854775807) :
    Calls Try.prog 4 #[.slice ao0 n0 cp0, .slice ao1 n1 cp1, .int .i64 a2, .slice ao3 n3 cp3] w fun e w' => e = .returned (.bool true) ∧ Below w.heap.size w w' := by
  go_enter Try.func4, Try.ntmps4
  go_wp2
  go_ret
  exact ⟨rfl, Below.refl _ _⟩
theorem tokenCheck_huge3 (ao0 : Option Addr) (n0 cp0 : Nat) (ao1 : Option Addr) (n1 cp1 : Nat) (a2 : Int) (ao3 : Option Addr) (n3 cp3 : Nat) (w : World) (h0 : n0 ≤ 1048576) (h1 : n1 ≤ 1048576) (h3 : 1048576 < n3) (m3 : n3 ≤ 9223372036854775807) :
    Calls Try.prog 4 #[.slice ao0 n0 cp0, .slice ao1 n1 cp1, .int .i64 a2, .slice ao3 n3 cp3] w fun e w' => e = .returned (.bool true) ∧ Below w.heap.size w w' := by
  go_enter Try.func4, Try.ntmps4
  go_wp2
  go_ret
  exact ⟨rfl, Below.refl _ _⟩
set_option maxRecDepth 20000 in
set_option maxHeartbeats 8000000 in
theorem tokenCheckLaw (v0 : Value) (x0 : List Int) (v1 : Value) (x1 : List Int) (a2 : Int) (v3 : Value) (x3 : List Int) (y : List Int) (c1 : Int) (w : World) (Inv : World → Prop) (hInv : ∀ w' : World, Below w.heap.size w w' → Inv w') (row0 : Row w .u8 v0 x0) (l0 : x0.length ≤ 1048576) (row1 : Row w .u8 v1 x1) (l1 : x1.length ≤ 1048576) (row3 : Row w .u8 v3 x3) (l3 : x3.length ≤ 1048576) (lr : y.length ≤ 4194304)
    (hS : ∀ (w : World) (u0 : Value) (u1 : Value) (u3 : Value), Row w .u8 u0 x0 → Row w .u8 u1 x1 → Row w .u8 u3 x3 → Calls Try.prog 11 #[u0, u1, .int .i64 a2, u3] w fun e w' => ∃ r, e = .returned (.tuple #[r, .int .i64 c1]) ∧ w'.ownsRow w.heap.size 5 1 r y.length (y.map (Value.int .u8)) ∧ Below w.heap.size w w')
    (hI : ∀ (w : World) (u0 : Value) (u1 : Value) (u3 : Value), Inv w → Row w .u8 u0 x0 → Row w .u8 u1 x1 → Row w .u8 u3 x3 → Calls Try.prog 12 #[u0, u1, .int .i64 a2, u3] w fun e w' => ∃ r, e = .returned (.tuple #[r, .int .i64 c1]) ∧ OwnP w' w.heap.size r y.length y ∧ Below w.heap.size w w') :
    Calls Try.prog 4 #[v0, v1, .int .i64 a2, v3] w fun e w' => e = .returned (.bool true) ∧ Below w.heap.size w w' := by
  obtain ⟨ao0, cp0, ev0⟩ := row0.form
  subst ev0
  obtain ⟨n0, en0⟩ : ∃ n, n = x0.length := ⟨_, rfl⟩
  have TB0 : Hid (∀ w : World, Row w .u8 (.slice ao0 n0 cp0) x0 → Calls Try.prog 6 #[.slice ao0 n0 cp0] w fun e w' => ∃ r, e = .returned r ∧ w'.ownsRow w.heap.size 5 1 r x0.length (x0.map (Value.int .u8)) ∧ Below w.heap.size w w') := fun w h => toBytes _ x0 w h (by omega)
  rw [← en0] at row0 l0 ⊢
  have EN0 : Hid _ := And.intro en0 row0
  obtain ⟨ao1, cp1, ev1⟩ := row1.form
  subst ev1
  obtain ⟨n1, en1⟩ : ∃ n, n = x1.length := ⟨_, rfl⟩
  have TB1 : Hid (∀ w : World, Row w .u8 (.slice ao1 n1 cp1) x1 → Calls Try.prog 6 #[.slice ao1 n1 cp1] w fun e w' => ∃ r, e = .returned r ∧ w'.ownsRow w.heap.size 5 1 r x1.length (x1.map (Value.int .u8)) ∧ Below w.heap.size w w') := fun w h => toBytes _ x1 w h (by omega)
  rw [← en1] at row1 l1 ⊢
  have EN1 : Hid _ := And.intro en1 row1
  obtain ⟨ao3, cp3, ev3⟩ := row3.form
  subst ev3
  obtain ⟨n3, en3⟩ : ∃ n, n = x3.length := ⟨_, rfl⟩
  have TB3 : Hid (∀ w : World, Row w .u8 (.slice ao3 n3 cp3) x3 → Calls Try.prog 6 #[.slice ao3 n3 cp3] w fun e w' => ∃ r, e = .returned r ∧ w'.ownsRow w.heap.size 5 1 r x3.length (x3.map (Value.int .u8)) ∧ Below w.heap.size w w') := fun w h => toBytes _ x3 w h (by omega)
  rw [← en3] at row3 l3 ⊢
  have EN3 : Hid _ := And.intro en3 row3
  have hc1 : (c1 != c1) = false := by simp
  obtain ⟨m, em⟩ : ∃ m, m = y.length := ⟨_, rfl⟩
  rw [← em] at lr hS hI
  have EM : Hid _ := And.intro em True.intro
  have HS : Hid _ := And.intro hS True.intro
  have HI : Hid _ := And.intro hI True.intro
  have HV : Hid _ := And.intro hInv True.intro
  have C_0 : Hid _ := And.intro (Below.refl w.heap.size w) True.intro
  clear hS hI hInv row0 en0 row1 en1 row3 en3 em
  go_enter Try.func4, Try.ntmps4
  go_wp2_with fail
  go_at_call 6
  refine (TB0.out _ (EN0.out.2.below C_0.out.1)).mono ?_
  rintro e w1 ⟨T0, rfl, oT0, bT0⟩
  have z_1 : w.heap.size ≤ w1.heap.size := bT0.size
  have C_1 : Hid _ := And.intro (C_0.out.1.trans (bT0.mono C_0.out.1.size)) True.intro
  have T0_1 : Hid _ := And.intro oT0 (fun g (hg : Value.ownBlock _ = some g) => oT0.lt g hg)
  clear oT0 bT0
  go_wp2_with fail
  go_at_call 6
  refine (TB1.out _ (EN1.out.2.below C_1.out.1)).mono ?_
  rintro e w2 ⟨T1, rfl, oT1, bT1⟩
  have z_2 : w1.heap.size ≤ w2.heap.size := bT1.size
  have T0_2 : Hid _ := And.intro (owns_below T0_1.out.1 bT1) T0_1.out.2
  have C_2 : Hid _ := And.intro (C_1.out.1.trans (bT1.mono C_1.out.1.size)) True.intro
  have T1_2 : Hid _ := And.intro oT1 (fun g (hg : Value.ownBlock _ = some g) => oT1.lt g hg)
  clear oT1 bT1
  go_wp2_with fail
  go_at_call 6
  refine (TB3.out _ (EN3.out.2.below C_2.out.1)).mono ?_
  rintro e w3 ⟨T3, rfl, oT3, bT3⟩
  have z_3 : w2.heap.size ≤ w3.heap.size := bT3.size
  have T0_3 : Hid _ := And.intro (owns_below T0_2.out.1 bT3) T0_2.out.2
  have T1_3 : Hid _ := And.intro (owns_below T1_2.out.1 bT3) T1_2.out.2
  have C_3 : Hid _ := And.intro (C_2.out.1.trans (bT3.mono C_2.out.1.size)) True.intro
  have T3_3 : Hid _ := And.intro oT3 (fun g (hg : Value.ownBlock _ = some g) => oT3.lt g hg)
  clear oT3 bT3
  go_wp2_with fail
  go_at_call 11
  refine (HS.out.1 _ _ _ _ (row_of_owns T0_3.out.1) (row_of_owns T1_3.out.1) (row_of_owns T3_3.out.1)).mono ?_
  rintro e w4 ⟨S, rfl, oS, bS⟩
  have z_4 : w3.heap.size ≤ w4.heap.size := bS.size
  have T0_4 : Hid _ := And.intro (owns_below T0_3.out.1 bS) T0_3.out.2
  have T1_4 : Hid _ := And.intro (owns_below T1_3.out.1 bS) T1_3.out.2
  have T3_4 : Hid _ := And.intro (owns_below T3_3.out.1 bS) T3_3.out.2
  have C_4 : Hid _ := And.intro (C_3.out.1.trans (bS.mono C_3.out.1.size)) True.intro
  have S_4 : Hid _ := And.intro oS (fun g (hg : Value.ownBlock _ = some g) => oS.lt g hg)
  clear oS bS
  go_wp2_with fail
  go_at_call 6
  refine (TB0.out _ (EN0.out.2.below C_4.out.1)).mono ?_
  rintro e w5 ⟨X0, rfl, oX0, bX0⟩
  have z_5 : w4.heap.size ≤ w5.heap.size := bX0.size
  have S_5 : Hid _ := And.intro (owns_below S_4.out.1 bX0) S_4.out.2
  have C_5 : Hid _ := And.intro (C_4.out.1.trans (bX0.mono C_4.out.1.size)) True.intro
  have X0_5 : Hid _ := And.intro oX0 (fun g (hg : Value.ownBlock _ = some g) => oX0.lt g hg)
  clear oX0 bX0
  go_wp2_with fail
  go_at_call 6
  refine (TB1.out _ (EN1.out.2.below C_5.out.1)).mono ?_
  rintro e w6 ⟨X1, rfl, oX1, bX1⟩
  have z_6 : w5.heap.size ≤ w6.heap.size := bX1.size
  have S_6 : Hid _ := And.intro (owns_below S_5.out.1 bX1) S_5.out.2
  have X0_6 : Hid _ := And.intro (owns_below X0_5.out.1 bX1) X0_5.out.2
  have C_6 : Hid _ := And.intro (C_5.out.1.trans (bX1.mono C_5.out.1.size)) True.intro
  have X1_6 : Hid _ := And.intro oX1 (fun g (hg : Value.ownBlock _ = some g) => oX1.lt g hg)
  clear oX1 bX1
  go_wp2_with fail
  go_at_call 6
  refine (TB3.out _ (EN3.out.2.below C_6.out.1)).mono ?_
  rintro e w7 ⟨X3, rfl, oX3, bX3⟩
  have z_7 : w6.heap.size ≤ w7.heap.size := bX3.size
  have S_7 : Hid _ := And.intro (owns_below S_6.out.1 bX3) S_6.out.2
  have X0_7 : Hid _ := And.intro (owns_below X0_6.out.1 bX3) X0_6.out.2
  have X1_7 : Hid _ := And.intro (owns_below X1_6.out.1 bX3) X1_6.out.2
  have C_7 : Hid _ := And.intro (C_6.out.1.trans (bX3.mono C_6.out.1.size)) True.intro
  have X3_7 : Hid _ := And.intro oX3 (fun g (hg : Value.ownBlock _ = some g) => oX3.lt g hg)
  clear oX3 bX3
  go_wp2_with fail
  go_at_call 12
  refine (HI.out.1 _ _ _ _ (HV.out.1 _ C_7.out.1) (row_of_owns X0_7.out.1) (row_of_owns X1_7.out.1) (row_of_owns X3_7.out.1)).mono ?_
  rintro e w8 ⟨G, rfl, oG, bG⟩
  have z_8 : w7.heap.size ≤ w8.heap.size := bG.size
  have S_8 : Hid _ := And.intro (owns_below S_7.out.1 bG) S_7.out.2
  have X0_8 : Hid _ := And.intro (owns_below X0_7.out.1 bG) X0_7.out.2
  have X1_8 : Hid _ := And.intro (owns_below X1_7.out.1 bG) X1_7.out.2
  have X3_8 : Hid _ := And.intro (owns_below X3_7.out.1 bG) X3_7.out.2
  have C_8 : Hid _ := And.intro (C_7.out.1.trans (bG.mono C_7.out.1.size)) True.intro
  have G_8 : Hid _ := And.intro oG (fun g (hg : Value.ownBlock _ = some g) => oG.lt g hg)
  clear oG bG
  go_wp2_with fail
  go_at_call 8
  refine (eqBytes_same _ _ y _ (OwnP.row G_8.out.1) (row_of_owns S_8.out.1) (by rw [← EM.out.1]; omega)).mono ?_
  rintro e w9 ⟨rfl, mw9, hw⟩
  have dw9 : Below w8.heap.size w8 w9 := by rw [hw]; exact below_drewN (Below.refl _ _) mw9
  clear hw
  have z_9 : w8.heap.size ≤ w9.heap.size := dw9.size
  have S_9 : Hid _ := And.intro (owns_below S_8.out.1 dw9) S_8.out.2
  have X0_9 : Hid _ := And.intro (owns_below X0_8.out.1 dw9) X0_8.out.2
  have X1_9 : Hid _ := And.intro (owns_below X1_8.out.1 dw9) X1_8.out.2
  have X3_9 : Hid _ := And.intro (owns_below X3_8.out.1 dw9) X3_8.out.2
  have G_9 : Hid _ := And.intro (OwnP.below G_8.out.1 dw9) G_8.out.2
  have C_9 : Hid _ := And.intro (C_8.out.1.trans (dw9.mono C_8.out.1.size)) True.intro
  clear dw9
  go_wp2_with fail
  go_at_call 6
  refine (TB0.out _ (EN0.out.2.below C_9.out.1)).mono ?_
  rintro e w10 ⟨Y0, rfl, oY0, bY0⟩
  have z_10 : w9.heap.size ≤ w10.heap.size := bY0.size
  have S_10 : Hid _ := And.intro (owns_below S_9.out.1 bY0) S_9.out.2
  have X0_10 : Hid _ := And.intro (owns_below X0_9.out.1 bY0) X0_9.out.2
  have X1_10 : Hid _ := And.intro (owns_below X1_9.out.1 bY0) X1_9.out.2
  have X3_10 : Hid _ := And.intro (owns_below X3_9.out.1 bY0) X3_9.out.2
  have G_10 : Hid _ := And.intro (OwnP.below G_9.out.1 bY0) G_9.out.2
  have C_10 : Hid _ := And.intro (C_9.out.1.trans (bY0.mono C_9.out.1.size)) True.intro
  have Y0_10 : Hid _ := And.intro oY0 (fun g (hg : Value.ownBlock _ = some g) => oY0.lt g hg)
  clear oY0 bY0
  go_wp2_with fail
  go_at_call 8
  refine (eqBytes_same _ _ x0 _ (row_of_owns X0_10.out.1) (row_of_owns Y0_10.out.1) (by rw [← EN0.out.1]; omega)).mono ?_
  rintro e w11 ⟨rfl, mw11, hw⟩
  have dw11 : Below w10.heap.size w10 w11 := by rw [hw]; exact below_drewN (Below.refl _ _) mw11
  clear hw
  have z_11 : w10.heap.size ≤ w11.heap.size := dw11.size
  have S_11 : Hid _ := And.intro (owns_below S_10.out.1 dw11) S_10.out.2
  have X0_11 : Hid _ := And.intro (owns_below X0_10.out.1 dw11) X0_10.out.2
  have X1_11 : Hid _ := And.intro (owns_below X1_10.out.1 dw11) X1_10.out.2
  have X3_11 : Hid _ := And.intro (owns_below X3_10.out.1 dw11) X3_10.out.2
  have G_11 : Hid _ := And.intro (OwnP.below G_10.out.1 dw11) G_10.out.2
  have Y0_11 : Hid _ := And.intro (owns_below Y0_10.out.1 dw11) Y0_10.out.2
  have C_11 : Hid _ := And.intro (C_10.out.1.trans (dw11.mono C_10.out.1.size)) True.intro
  clear dw11
  go_wp2_with fail
  go_at_call 6
  refine (TB1.out _ (EN1.out.2.below C_11.out.1)).mono ?_
  rintro e w12 ⟨Y1, rfl, oY1, bY1⟩
  have z_12 : w11.heap.size ≤ w12.heap.size := bY1.size
  have S_12 : Hid _ := And.intro (owns_below S_11.out.1 bY1) S_11.out.2
  have X0_12 : Hid _ := And.intro (owns_below X0_11.out.1 bY1) X0_11.out.2
  have X1_12 : Hid _ := And.intro (owns_below X1_11.out.1 bY1) X1_11.out.2
  have X3_12 : Hid _ := And.intro (owns_below X3_11.out.1 bY1) X3_11.out.2
  have G_12 : Hid _ := And.intro (OwnP.below G_11.out.1 bY1) G_11.out.2
  have C_12 : Hid _ := And.intro (C_11.out.1.trans (bY1.mono C_11.out.1.size)) True.intro
  have Y1_12 : Hid _ := And.intro oY1 (fun g (hg : Value.ownBlock _ = some g) => oY1.lt g hg)
  clear oY1 bY1
  go_wp2_with fail
  go_at_call 8
  refine (eqBytes_same _ _ x1 _ (row_of_owns X1_12.out.1) (row_of_owns Y1_12.out.1) (by rw [← EN1.out.1]; omega)).mono ?_
  rintro e w13 ⟨rfl, mw13, hw⟩
  have dw13 : Below w12.heap.size w12 w13 := by rw [hw]; exact below_drewN (Below.refl _ _) mw13
  clear hw
  have z_13 : w12.heap.size ≤ w13.heap.size := dw13.size
  have S_13 : Hid _ := And.intro (owns_below S_12.out.1 dw13) S_12.out.2
  have X0_13 : Hid _ := And.intro (owns_below X0_12.out.1 dw13) X0_12.out.2
  have X1_13 : Hid _ := And.intro (owns_below X1_12.out.1 dw13) X1_12.out.2
  have X3_13 : Hid _ := And.intro (owns_below X3_12.out.1 dw13) X3_12.out.2
  have G_13 : Hid _ := And.intro (OwnP.below G_12.out.1 dw13) G_12.out.2
  have Y1_13 : Hid _ := And.intro (owns_below Y1_12.out.1 dw13) Y1_12.out.2
  have C_13 : Hid _ := And.intro (C_12.out.1.trans (dw13.mono C_12.out.1.size)) True.intro
  clear dw13
  go_wp2_with fail
  go_at_call 6
  refine (TB3.out _ (EN3.out.2.below C_13.out.1)).mono ?_
  rintro e w14 ⟨Y3, rfl, oY3, bY3⟩
  have z_14 : w13.heap.size ≤ w14.heap.size := bY3.size
  have S_14 : Hid _ := And.intro (owns_below S_13.out.1 bY3) S_13.out.2
  have X0_14 : Hid _ := And.intro (owns_below X0_13.out.1 bY3) X0_13.out.2
  have X1_14 : Hid _ := And.intro (owns_below X1_13.out.1 bY3) X1_13.out.2
  have X3_14 : Hid _ := And.intro (owns_below X3_13.out.1 bY3) X3_13.out.2
  have G_14 : Hid _ := And.intro (OwnP.below G_13.out.1 bY3) G_13.out.2
  have C_14 : Hid _ := And.intro (C_13.out.1.trans (bY3.mono C_13.out.1.size)) True.intro
  have Y3_14 : Hid _ := And.intro oY3 (fun g (hg : Value.ownBlock _ = some g) => oY3.lt g hg)
  clear oY3 bY3
  go_wp2_with fail
  go_at_call 8
  refine (eqBytes_same _ _ x3 _ (row_of_owns X3_14.out.1) (row_of_owns Y3_14.out.1) (by rw [← EN3.out.1]; omega)).mono ?_
  rintro e w15 ⟨rfl, mw15, hw⟩
  have dw15 : Below w14.heap.size w14 w15 := by rw [hw]; exact below_drewN (Below.refl _ _) mw15
  clear hw
  have z_15 : w14.heap.size ≤ w15.heap.size := dw15.size
  have S_15 : Hid _ := And.intro (owns_below S_14.out.1 dw15) S_14.out.2
  have X0_15 : Hid _ := And.intro (owns_below X0_14.out.1 dw15) X0_14.out.2
  have X1_15 : Hid _ := And.intro (owns_below X1_14.out.1 dw15) X1_14.out.2
  have X3_15 : Hid _ := And.intro (owns_below X3_14.out.1 dw15) X3_14.out.2
  have G_15 : Hid _ := And.intro (OwnP.below G_14.out.1 dw15) G_14.out.2
  have Y3_15 : Hid _ := And.intro (owns_below Y3_14.out.1 dw15) Y3_14.out.2
  have C_15 : Hid _ := And.intro (C_14.out.1.trans (dw15.mono C_14.out.1.size)) True.intro
  clear dw15
  go_wp2_with fail
  go_at_call 9
  refine (markBytes 1 n0 _ _ x0 _ (by omega) (by omega) (by omega) (by have h := X0_15.out.1; rw [← EN0.out.1] at h; exact h)).mono ?_
  rintro e w16 ⟨rfl, om, bm, zm, om'⟩
  have ch : Chg (fun g => Value.ownBlock _ = some g) _ _ := Chg.of_only om' (fun g e => e)
  have z_16 : w15.heap.size ≤ w16.heap.size := ch.size
  have S_16 : Hid _ := And.intro (ch.owns S_15.out.1 (fun g hg hs => by have p1 := S_15.out.2 g hg; have p2 := X0_15.out.2 g hs; omega)) S_15.out.2
  have X1_16 : Hid _ := And.intro (ch.owns X1_15.out.1 (fun g hg hs => by have p1 := X1_15.out.2 g hg; have p2 := X0_15.out.2 g hs; omega)) X1_15.out.2
  have X3_16 : Hid _ := And.intro (ch.owns X3_15.out.1 (fun g hg hs => by have p1 := X3_15.out.2 g hg; have p2 := X0_15.out.2 g hs; omega)) X3_15.out.2
  have G_16 : Hid _ := And.intro (OwnP.chg G_15.out.1 ch (fun g hg hs => by have p1 := G_15.out.2 g hg; have p2 := X0_15.out.2 g hs; omega)) G_15.out.2
  have C_16 : Hid _ := And.intro (C_15.out.1.trans (ch.below C_15.out.1.size (fun g hg => by have p2 := X0_15.out.2 g hg; omega))) True.intro
  have X0_16 : Hid _ := And.intro om X0_15.out.2
  clear om bm zm om' ch
  go_wp2_with fail
  go_at_call 9
  refine (markBytes (1 + (n0 : Int)) n1 _ _ x1 _ (by omega) (by omega) (by omega) (by have h := X1_16.out.1; rw [← EN1.out.1] at h; exact h)).mono ?_
  rintro e w17 ⟨rfl, om, bm, zm, om'⟩
  have ch : Chg (fun g => Value.ownBlock _ = some g) _ _ := Chg.of_only om' (fun g e => e)
  have z_17 : w16.heap.size ≤ w17.heap.size := ch.size
  have S_17 : Hid _ := And.intro (ch.owns S_16.out.1 (fun g hg hs => by have p1 := S_16.out.2 g hg; have p2 := X1_16.out.2 g hs; omega)) S_16.out.2
  have X0_17 : Hid _ := And.intro (ch.owns X0_16.out.1 (fun g hg hs => by have p1 := X0_16.out.2 g hg; have p2 := X1_16.out.2 g hs; omega)) X0_16.out.2
  have X3_17 : Hid _ := And.intro (ch.owns X3_16.out.1 (fun g hg hs => by have p1 := X3_16.out.2 g hg; have p2 := X1_16.out.2 g hs; omega)) X3_16.out.2
  have G_17 : Hid _ := And.intro (OwnP.chg G_16.out.1 ch (fun g hg hs => by have p1 := G_16.out.2 g hg; have p2 := X1_16.out.2 g hs; omega)) G_16.out.2
  have C_17 : Hid _ := And.intro (C_16.out.1.trans (ch.below C_16.out.1.size (fun g hg => by have p2 := X1_16.out.2 g hg; omega))) True.intro
  have X1_17 : Hid _ := And.intro om X1_16.out.2
  clear om bm zm om' ch
  go_wp2_with fail
  go_at_call 9
  refine (markBytes ((1 + (n0 : Int)) + (n1 : Int)) n3 _ _ x3 _ (by omega) (by omega) (by omega) (by have h := X3_17.out.1; rw [← EN3.out.1] at h; exact h)).mono ?_
  rintro e w18 ⟨rfl, om, bm, zm, om'⟩
  have ch : Chg (fun g => Value.ownBlock _ = some g) _ _ := Chg.of_only om' (fun g e => e)
  have z_18 : w17.heap.size ≤ w18.heap.size := ch.size
  have S_18 : Hid _ := And.intro (ch.owns S_17.out.1 (fun g hg hs => by have p1 := S_17.out.2 g hg; have p2 := X3_17.out.2 g hs; omega)) S_17.out.2
  have X0_18 : Hid _ := And.intro (ch.owns X0_17.out.1 (fun g hg hs => by have p1 := X0_17.out.2 g hg; have p2 := X3_17.out.2 g hs; omega)) X0_17.out.2
  have X1_18 : Hid _ := And.intro (ch.owns X1_17.out.1 (fun g hg hs => by have p1 := X1_17.out.2 g hg; have p2 := X3_17.out.2 g hs; omega)) X1_17.out.2
  have G_18 : Hid _ := And.intro (OwnP.chg G_17.out.1 ch (fun g hg hs => by have p1 := G_17.out.2 g hg; have p2 := X3_17.out.2 g hs; omega)) G_17.out.2
  have C_18 : Hid _ := And.intro (C_17.out.1.trans (ch.below C_17.out.1.size (fun g hg => by have p2 := X3_17.out.2 g hg; omega))) True.intro
  have X3_18 : Hid _ := And.intro om X3_17.out.2
  clear om bm zm om' ch
  go_wp2_with fail
  go_at_call 8
  refine (eqBytes_same _ _ y _ (OwnP.row G_18.out.1) (row_of_owns S_18.out.1) (by rw [← EM.out.1]; omega)).mono ?_
  rintro e w19 ⟨rfl, mw19, hw⟩
  have dw19 : Below w18.heap.size w18 w19 := by rw [hw]; exact below_drewN (Below.refl _ _) mw19
  clear hw
  have z_19 : w18.heap.size ≤ w19.heap.size := dw19.size
  have S_19 : Hid _ := And.intro (owns_below S_18.out.1 dw19) S_18.out.2
  have X0_19 : Hid _ := And.intro (owns_below X0_18.out.1 dw19) X0_18.out.2
  have X1_19 : Hid _ := And.intro (owns_below X1_18.out.1 dw19) X1_18.out.2
  have X3_19 : Hid _ := And.intro (owns_below X3_18.out.1 dw19) X3_18.out.2
  have G_19 : Hid _ := And.intro (OwnP.below G_18.out.1 dw19) G_18.out.2
  have C_19 : Hid _ := And.intro (C_18.out.1.trans (dw19.mono C_18.out.1.size)) True.intro
  clear dw19
  go_wp2_with fail
  go_at_call 9
  refine (markP 1 m _ _ y _ (by omega) (by omega) (by omega) (G_19.out.1)).mono ?_
  rintro e w20 ⟨rfl, om, bm, zm, om'⟩
  have ch : Chg (fun g => Value.ownBlock _ = some g) _ _ := Chg.of_only om' (fun g e => e)
  have z_20 : w19.heap.size ≤ w20.heap.size := ch.size
  have S_20 : Hid _ := And.intro (ch.owns S_19.out.1 (fun g hg hs => by have p1 := S_19.out.2 g hg; have p2 := G_19.out.2 g hs; omega)) S_19.out.2
  have X0_20 : Hid _ := And.intro (ch.owns X0_19.out.1 (fun g hg hs => by have p1 := X0_19.out.2 g hg; have p2 := G_19.out.2 g hs; omega)) X0_19.out.2
  have X1_20 : Hid _ := And.intro (ch.owns X1_19.out.1 (fun g hg hs => by have p1 := X1_19.out.2 g hg; have p2 := G_19.out.2 g hs; omega)) X1_19.out.2
  have X3_20 : Hid _ := And.intro (ch.owns X3_19.out.1 (fun g hg hs => by have p1 := X3_19.out.2 g hg; have p2 := G_19.out.2 g hs; omega)) X3_19.out.2
  have C_20 : Hid _ := And.intro (C_19.out.1.trans (ch.below C_19.out.1.size (fun g hg => by have p2 := G_19.out.2 g hg; omega))) True.intro
  have G_20 : Hid _ := And.intro om G_19.out.2
  clear om bm zm om' ch
  go_wp2_with fail
  go_at_call 10
  refine (heldBytes 1 m _ _ (OwnP.row G_20.out.1) (by omega) (by decide) (by decide)).mono ?_
  rintro e w21 ⟨rfl, hw⟩
  subst w21
  go_wp2_with fail
  go_at_call 6
  refine (TB0.out _ (EN0.out.2.below C_20.out.1)).mono ?_
  rintro e w22 ⟨H0, rfl, oH0, bH0⟩
  have z_21 : w20.heap.size ≤ w22.heap.size := bH0.size
  have S_21 : Hid _ := And.intro (owns_below S_20.out.1 bH0) S_20.out.2
  have X0_21 : Hid _ := And.intro (owns_below X0_20.out.1 bH0) X0_20.out.2
  have X1_21 : Hid _ := And.intro (owns_below X1_20.out.1 bH0) X1_20.out.2
  have X3_21 : Hid _ := And.intro (owns_below X3_20.out.1 bH0) X3_20.out.2
  have G_21 : Hid _ := And.intro (OwnP.below G_20.out.1 bH0) G_20.out.2
  have C_21 : Hid _ := And.intro (C_20.out.1.trans (bH0.mono C_20.out.1.size)) True.intro
  have H0_21 : Hid _ := And.intro oH0 (fun g (hg : Value.ownBlock _ = some g) => oH0.lt g hg)
  clear oH0 bH0
  go_wp2_with fail
  go_at_call 6
  refine (TB1.out _ (EN1.out.2.below C_21.out.1)).mono ?_
  rintro e w23 ⟨H1, rfl, oH1, bH1⟩
  have z_22 : w22.heap.size ≤ w23.heap.size := bH1.size
  have S_22 : Hid _ := And.intro (owns_below S_21.out.1 bH1) S_21.out.2
  have X0_22 : Hid _ := And.intro (owns_below X0_21.out.1 bH1) X0_21.out.2
  have X1_22 : Hid _ := And.intro (owns_below X1_21.out.1 bH1) X1_21.out.2
  have X3_22 : Hid _ := And.intro (owns_below X3_21.out.1 bH1) X3_21.out.2
  have G_22 : Hid _ := And.intro (OwnP.below G_21.out.1 bH1) G_21.out.2
  have H0_22 : Hid _ := And.intro (owns_below H0_21.out.1 bH1) H0_21.out.2
  have C_22 : Hid _ := And.intro (C_21.out.1.trans (bH1.mono C_21.out.1.size)) True.intro
  have H1_22 : Hid _ := And.intro oH1 (fun g (hg : Value.ownBlock _ = some g) => oH1.lt g hg)
  clear oH1 bH1
  go_wp2_with fail
  go_at_call 6
  refine (TB3.out _ (EN3.out.2.below C_22.out.1)).mono ?_
  rintro e w24 ⟨H3, rfl, oH3, bH3⟩
  have z_23 : w23.heap.size ≤ w24.heap.size := bH3.size
  have S_23 : Hid _ := And.intro (owns_below S_22.out.1 bH3) S_22.out.2
  have X0_23 : Hid _ := And.intro (owns_below X0_22.out.1 bH3) X0_22.out.2
  have X1_23 : Hid _ := And.intro (owns_below X1_22.out.1 bH3) X1_22.out.2
  have X3_23 : Hid _ := And.intro (owns_below X3_22.out.1 bH3) X3_22.out.2
  have G_23 : Hid _ := And.intro (OwnP.below G_22.out.1 bH3) G_22.out.2
  have H0_23 : Hid _ := And.intro (owns_below H0_22.out.1 bH3) H0_22.out.2
  have H1_23 : Hid _ := And.intro (owns_below H1_22.out.1 bH3) H1_22.out.2
  have C_23 : Hid _ := And.intro (C_22.out.1.trans (bH3.mono C_22.out.1.size)) True.intro
  have H3_23 : Hid _ := And.intro oH3 (fun g (hg : Value.ownBlock _ = some g) => oH3.lt g hg)
  clear oH3 bH3
  go_wp2_with fail
  go_at_call 12
  refine (HI.out.1 _ _ _ _ (HV.out.1 _ C_23.out.1) (row_of_owns H0_23.out.1) (row_of_owns H1_23.out.1) (row_of_owns H3_23.out.1)).mono ?_
  rintro e w25 ⟨H, rfl, oH, bH⟩
  have z_24 : w24.heap.size ≤ w25.heap.size := bH.size
  have S_24 : Hid _ := And.intro (owns_below S_23.out.1 bH) S_23.out.2
  have X0_24 : Hid _ := And.intro (owns_below X0_23.out.1 bH) X0_23.out.2
  have X1_24 : Hid _ := And.intro (owns_below X1_23.out.1 bH) X1_23.out.2
  have X3_24 : Hid _ := And.intro (owns_below X3_23.out.1 bH) X3_23.out.2
  have G_24 : Hid _ := And.intro (OwnP.below G_23.out.1 bH) G_23.out.2
  have H0_24 : Hid _ := And.intro (owns_below H0_23.out.1 bH) H0_23.out.2
  have H1_24 : Hid _ := And.intro (owns_below H1_23.out.1 bH) H1_23.out.2
  have H3_24 : Hid _ := And.intro (owns_below H3_23.out.1 bH) H3_23.out.2
  have C_24 : Hid _ := And.intro (C_23.out.1.trans (bH.mono C_23.out.1.size)) True.intro
  have H_24 : Hid _ := And.intro oH (fun g (hg : Value.ownBlock _ = some g) => oH.lt g hg)
  clear oH bH
  go_wp2_with fail
  go_at_call 8
  refine (eqBytes_same _ _ y _ (OwnP.row H_24.out.1) (row_of_owns S_24.out.1) (by rw [← EM.out.1]; omega)).mono ?_
  rintro e w26 ⟨rfl, mw26, hw⟩
  have dw26 : Below w25.heap.size w25 w26 := by rw [hw]; exact below_drewN (Below.refl _ _) mw26
  clear hw
  have z_25 : w25.heap.size ≤ w26.heap.size := dw26.size
  have S_25 : Hid _ := And.intro (owns_below S_24.out.1 dw26) S_24.out.2
  have X0_25 : Hid _ := And.intro (owns_below X0_24.out.1 dw26) X0_24.out.2
  have X1_25 : Hid _ := And.intro (owns_below X1_24.out.1 dw26) X1_24.out.2
  have X3_25 : Hid _ := And.intro (owns_below X3_24.out.1 dw26) X3_24.out.2
  have G_25 : Hid _ := And.intro (OwnP.below G_24.out.1 dw26) G_24.out.2
  have H_25 : Hid _ := And.intro (OwnP.below H_24.out.1 dw26) H_24.out.2
  have C_25 : Hid _ := And.intro (C_24.out.1.trans (dw26.mono C_24.out.1.size)) True.intro
  clear dw26
  go_wp2_with fail
  go_at_call 10
  refine (heldBytes 1 m _ _ (OwnP.row G_25.out.1) (by omega) (by decide) (by decide)).mono ?_
  rintro e w27 ⟨rfl, hw⟩
  subst w27
  go_wp2
  go_ret
  exact ⟨rfl, C_25.out.1⟩
/-- For arguments of whatever size: over the model's contract and the program's, where the sizes are within the law's. -/
theorem tokenCheck_walkOf (v0 : Value) (x0 : List Int) (v1 : Value) (x1 : List Int) (a2 : Int) (v3 : Value) (x3 : List Int) (y : List Int) (c1 : Int) (w : World) (Inv : World → Prop) (hInv : ∀ w' : World, Below w.heap.size w w' → Inv w') (l0 : x0.length ≤ maxLen) (wf0 : ∀ x ∈ x0, (Lit.int .u8 x).wf = true) (l1 : x1.length ≤ maxLen) (wf1 : ∀ x ∈ x1, (Lit.int .u8 x).wf = true) (wf2 : (Lit.int .i64 a2).wf = true) (l3 : x3.length ≤ maxLen) (wf3 : ∀ x ∈ x3, (Lit.int .u8 x).wf = true) (row0 : Row w .u8 v0 x0) (row1 : Row w .u8 v1 x1) (row3 : Row w .u8 v3 x3) (lr : y.length ≤ 4194304)
    (hS : ∀ (w : World) (u0 : Value) (u1 : Value) (u3 : Value), Row w .u8 u0 x0 → Row w .u8 u1 x1 → Row w .u8 u3 x3 → Calls Try.prog 11 #[u0, u1, .int .i64 a2, u3] w fun e w' => ∃ r, e = .returned (.tuple #[r, .int .i64 c1]) ∧ w'.ownsRow w.heap.size 5 1 r y.length (y.map (Value.int .u8)) ∧ Below w.heap.size w w')
    (hI : ∀ (w : World) (u0 : Value) (u1 : Value) (u3 : Value), Inv w → Row w .u8 u0 x0 → Row w .u8 u1 x1 → Row w .u8 u3 x3 → Calls Try.prog 12 #[u0, u1, .int .i64 a2, u3] w fun e w' => ∃ r, e = .returned (.tuple #[r, .int .i64 c1]) ∧ OwnP w' w.heap.size r y.length y ∧ Below w.heap.size w w') :
    Calls Try.prog 4 #[v0, v1, .int .i64 a2, v3] w fun e w' => e = .returned (.bool true) ∧ Below w.heap.size w w' := by
  have m0 : x0.length ≤ 9223372036854775807 := by have h := l0; unfold maxLen at h; omega
  have m1 : x1.length ≤ 9223372036854775807 := by have h := l1; unfold maxLen at h; omega
  have m3 : x3.length ≤ 9223372036854775807 := by have h := l3; unfold maxLen at h; omega
  by_cases g0 : 1048576 < x0.length
  · obtain ⟨ao0, cp0, rfl⟩ := row0.form; obtain ⟨ao1, cp1, rfl⟩ := row1.form; obtain ⟨ao3, cp3, rfl⟩ := row3.form; exact tokenCheck_huge0 ao0 _ cp0 ao1 _ cp1 a2 ao3 _ cp3 w g0 m0
  · skip
    by_cases g1 : 1048576 < x1.length
    · obtain ⟨ao0, cp0, rfl⟩ := row0.form; obtain ⟨ao1, cp1, rfl⟩ := row1.form; obtain ⟨ao3, cp3, rfl⟩ := row3.form; exact tokenCheck_huge1 ao0 _ cp0 ao1 _ cp1 a2 ao3 _ cp3 w (by omega) g1 m1
    · skip
      by_cases g3 : 1048576 < x3.length
      · obtain ⟨ao0, cp0, rfl⟩ := row0.form; obtain ⟨ao1, cp1, rfl⟩ := row1.form; obtain ⟨ao3, cp3, rfl⟩ := row3.form; exact tokenCheck_huge3 ao0 _ cp0 ao1 _ cp1 a2 ao3 _ cp3 w (by omega) (by omega) g3 m3
      · skip
        exact tokenCheckLaw v0 x0 v1 x1 a2 v3 x3 y c1 w Inv hInv row0 (by omega) row1 (by omega) row3 (by omega) lr hS hI
end Go.Proofs.Yteekpdmblododaa

namespace Go.Proofs.Yteekpdmblododaa
open Go.RowKit
set_option linter.unusedVariables false

/-- Arguments that a token may have: the key's and the address' lengths, the time. -/
def tArg (n m : Nat) (t : Int) : Prop := n = 16 ∧ m ≤ 24 ∧ 0 ≤ t ∧ t ≤ 1000000000000

theorem tmS_t (t : Int) (w : World) (h : 0 ≤ t ∧ t ≤ 1000000000000) : Calls Try.prog 27 #[.int .i64 t] w fun e w' => e = .returned (.bool true) ∧ w' = w := by
  go_enter Try.func27, Try.ntmps27
  go_wp2
  go_ret
  exact ⟨rfl, rfl⟩
theorem tmS_f (t : Int) (w : World) (h : ¬ (0 ≤ t ∧ t ≤ 1000000000000)) : Calls Try.prog 27 #[.int .i64 t] w fun e w' => e = .returned (.bool false) ∧ w' = w := by
  by_cases h0 : 0 ≤ t
  · have h1 : 1000000000000 < t := by omega
    go_enter Try.func27, Try.ntmps27
    go_wp2
    go_ret
    exact ⟨by simp [show ¬ t ≤ 1000000000000 by omega], rfl⟩
  · go_enter Try.func27, Try.ntmps27
    go_wp2
    go_ret
    exact ⟨rfl, rfl⟩
theorem tmI_t (t : Int) (w : World) (h : 0 ≤ t ∧ t ≤ 1000000000000) : Calls Try.prog 33 #[.int .i64 t] w fun e w' => e = .returned (.bool true) ∧ w' = w := by
  go_enter Try.func33, Try.ntmps33
  go_wp2
  go_ret
  exact ⟨rfl, rfl⟩
theorem tmI_f (t : Int) (w : World) (h : ¬ (0 ≤ t ∧ t ≤ 1000000000000)) : Calls Try.prog 33 #[.int .i64 t] w fun e w' => e = .returned (.bool false) ∧ w' = w := by
  by_cases h0 : 0 ≤ t
  · have h1 : 1000000000000 < t := by omega
    go_enter Try.func33, Try.ntmps33
    go_wp2
    go_ret
    exact ⟨by simp [show ¬ t ≤ 1000000000000 by omega], rfl⟩
  · go_enter Try.func33, Try.ntmps33
    go_wp2
    go_ret
    exact ⟨rfl, rfl⟩
theorem taS_t (ak aa : Option Addr) (m pk pa : Nat) (t : Int) (w : World) (hm : m ≤ 24) (ht : 0 ≤ t ∧ t ≤ 1000000000000) :
    Calls Try.prog 13 #[.slice ak 16 pk, .slice aa m pa, .int .i64 t] w fun e w' => e = .returned (.bool true) ∧ w' = w := by
  go_enter Try.func13, Try.ntmps13
  go_wp2_with fail
  go_at_call 27
  refine (tmS_t t w ht).mono ?_
  rintro e w2 ⟨rfl, rfl⟩
  go_wp2
  go_ret
  exact ⟨rfl, rfl⟩
theorem taS_f (ak aa : Option Addr) (n m pk pa : Nat) (t : Int) (w : World) (hn : n ≤ 9223372036854775807) (hm : m ≤ 9223372036854775807) (h : ¬ tArg n m t) :
    Calls Try.prog 13 #[.slice ak n pk, .slice aa m pa, .int .i64 t] w fun e w' => e = .returned (.bool false) ∧ w' = w := by
  unfold tArg at h
  by_cases h16 : n = 16
  · subst h16
    by_cases h24 : m ≤ 24
    · have ht : ¬ (0 ≤ t ∧ t ≤ 1000000000000) := by omega
      clear h
      go_enter Try.func13, Try.ntmps13
      go_wp2_with fail
      go_at_call 27
      refine (tmS_f t w ht).mono ?_
      rintro e w2 ⟨rfl, rfl⟩
      go_wp2
      go_ret
      exact ⟨rfl, rfl⟩
    · clear h
      go_enter Try.func13, Try.ntmps13
      go_wp2
      go_ret
      exact ⟨rfl, rfl⟩
  · have hne : ((n : Int) == 16) = false := by simp; omega
    clear h h16
    go_enter Try.func13, Try.ntmps13
    go_wp2
    go_ret
    exact ⟨rfl, rfl⟩
theorem taI_t (ak aa : Option Addr) (m pk pa : Nat) (t : Int) (w : World) (hm : m ≤ 24) (ht : 0 ≤ t ∧ t ≤ 1000000000000) :
    Calls Try.prog 17 #[.slice ak 16 pk, .slice aa m pa, .int .i64 t] w fun e w' => e = .returned (.bool true) ∧ w' = w := by
  go_enter Try.func17, Try.ntmps17
  go_wp2_with fail
  go_at_call 33
  refine (tmI_t t w ht).mono ?_
  rintro e w2 ⟨rfl, rfl⟩
  go_wp2
  go_ret
  exact ⟨rfl, rfl⟩
theorem taI_f (ak aa : Option Addr) (n m pk pa : Nat) (t : Int) (w : World) (hn : n ≤ 9223372036854775807) (hm : m ≤ 9223372036854775807) (h : ¬ tArg n m t) :
    Calls Try.prog 17 #[.slice ak n pk, .slice aa m pa, .int .i64 t] w fun e w' => e = .returned (.bool false) ∧ w' = w := by
  unfold tArg at h
  by_cases h16 : n = 16
  · subst h16
    by_cases h24 : m ≤ 24
    · have ht : ¬ (0 ≤ t ∧ t ≤ 1000000000000) := by omega
      clear h
      go_enter Try.func17, Try.ntmps17
      go_wp2_with fail
      go_at_call 33
      refine (tmI_f t w ht).mono ?_
      rintro e w2 ⟨rfl, rfl⟩
      go_wp2
      go_ret
      exact ⟨rfl, rfl⟩
    · clear h
      go_enter Try.func17, Try.ntmps17
      go_wp2
      go_ret
      exact ⟨rfl, rfl⟩
  · have hne : ((n : Int) == 16) = false := by simp; omega
    clear h h16
    go_enter Try.func17, Try.ntmps17
    go_wp2
    go_ret
    exact ⟨rfl, rfl⟩
/-- What a token's body is. -/
def tokB (t : Int) (os : List Int) : List Int := be t 8 ++ os
theorem tokB_length (t : Int) (os : List Int) : (tokB t os).length = 8 + os.length := by unfold tokB; rw [List.length_append, be_length]
set_option maxHeartbeats 2000000 in
theorem tmkS_bad (ak aa ao : Option Addr) (n m l pk pa po : Nat) (t : Int) (w : World) (hn : n ≤ 9223372036854775807) (hm : m ≤ 9223372036854775807) (hl : l ≤ 9223372036854775807) (h : ¬ (tArg n m t ∧ l ≤ 8)) :
    Calls Try.prog 5 #[.slice ak n pk, .slice aa m pa, .int .i64 t, .slice ao l po] w fun e w' => ∃ r, e = .returned (.tuple #[r, .int .i64 1]) ∧ w'.ownsRow w.heap.size 5 1 r 0 (([] : List Int).map (Value.int .u8)) ∧ Below w.heap.size w w' := by
  by_cases ha : tArg n m t
  · have h8 : ¬ l ≤ 8 := fun q => h ⟨ha, q⟩
    have h8' : 8 < l := by omega
    clear h h8
    unfold tArg at ha
    obtain ⟨e16, h24, ht⟩ := ha
    subst e16
    have HT : Hid _ := And.intro ht True.intro
    clear ht
    go_enter Try.func5, Try.ntmps5
    go_wp2_with fail
    go_at_call 13
    refine (taS_t ak aa m pk pa t w h24 HT.out.1).mono ?_
    rintro e w2 ⟨rfl, rfl⟩
    go_wp2
    go_ret2
    exact ⟨_, rfl, World.ownsRow_lit _ #[] 0 (Nat.le_refl _) (by decide) rfl, (Below.refl _ _).alloc (Nat.le_refl _) _⟩
  · have HA : Hid _ := And.intro ha True.intro
    clear h ha
    go_enter Try.func5, Try.ntmps5
    go_wp2_with fail
    go_at_call 13
    refine (taS_f ak aa n m pk pa t w hn hm HA.out.1).mono ?_
    rintro e w2 ⟨rfl, rfl⟩
    go_wp2
    go_ret2
    exact ⟨_, rfl, World.ownsRow_lit _ #[] 0 (Nat.le_refl _) (by decide) rfl, (Below.refl _ _).alloc (Nat.le_refl _) _⟩
set_option maxHeartbeats 2000000 in
theorem tmkI_bad (ak aa ao : Option Addr) (n m l pk pa po : Nat) (t : Int) (os : List Int) (w : World) (hn : n ≤ 9223372036854775807) (hm : m ≤ 9223372036854775807) (hl : l ≤ 9223372036854775807) (h : ¬ (tArg n m t ∧ l ≤ 8))
    (hr : Row w .u8 (.slice ao l po) os) (el : os.length = l) :
    Calls Try.prog 7 #[.slice ak n pk, .slice aa m pa, .int .i64 t, .slice ao l po] w fun e w' => ∃ r, e = .returned (.tuple #[r, .int .i64 1]) ∧ w'.ownsRow w.heap.size 5 1 r 0 (([] : List Int).map (Value.int .u8)) ∧ Below w.heap.size w w' := by
  have HR : Hid _ := And.intro hr el
  clear hr el
  by_cases ha : tArg n m t
  · have h8 : ¬ l ≤ 8 := fun q => h ⟨ha, q⟩
    have h8' : 8 < l := by omega
    clear h h8
    unfold tArg at ha
    obtain ⟨e16, h24, ht⟩ := ha
    subst e16
    have HT : Hid _ := And.intro ht True.intro
    clear ht
    go_enter Try.func7, Try.ntmps7
    go_wp2_with fail
    go_at_call 17
    refine (taI_t ak aa m pk pa t w h24 HT.out.1).mono ?_
    rintro e w2 ⟨rfl, rfl⟩
    go_wp2_with fail
    go_at_call 18
    refine (icids _ [os] _ (parts1 HR.out.1 _) (by simp) (cids1_len os (by rw [HR.out.2]; exact hl))).mono ?_
    rw [cids1 l os HR.out.2, decide_eq_false (by omega)]
    rintro e w' ⟨rfl, hw⟩
    subst w'
    go_wp2
    go_ret2
    exact ⟨_, rfl, World.ownsRow_nil _ _ _ _, (Below.refl _ _).alloc (Nat.le_refl _) _⟩
  · have HA : Hid _ := And.intro ha True.intro
    clear h ha
    go_enter Try.func7, Try.ntmps7
    go_wp2_with fail
    go_at_call 17
    refine (taI_f ak aa n m pk pa t w hn hm HA.out.1).mono ?_
    rintro e w2 ⟨rfl, rfl⟩
    go_wp2
    go_ret2
    exact ⟨_, rfl, World.ownsRow_nil _ _ _ _, Below.refl _ _⟩
end Go.Proofs.Yteekpdmblododaa

namespace Go.Proofs.Yteekpdmblododaa
open Go.RowKit
set_option linter.unusedVariables false

/-- A token. -/
def tokM (ks ads : List Int) (t : Int) (os : List Int) : List Int := sealV (keysV ks) 0 ads (tokB t os)
theorem tokM_length (ks ads : List Int) (t : Int) (os : List Int) : (tokM ks ads t os).length = 16 + os.length := by unfold tokM; rw [sealV_length, tokB_length]; omega
theorem tokB_bytes (t : Int) (os : List Int) (h : Bytes os) : Bytes (tokB t os) := bytes_append (be_bytes _ _) h
theorem own_formT {w : World} {base e s n : Nat} {v : Value} {xs : List Value} (h : w.ownsRow base e s v n xs) : ∃ a c, v = .slice a n c := by
  rcases h.2 with ⟨rfl, rfl⟩ | ⟨g, c, cur, rfl, _⟩
  · exact ⟨_, _, rfl⟩
  · exact ⟨_, _, rfl⟩
set_option maxRecDepth 20000 in
set_option maxHeartbeats 4000000 in
theorem tmkS_ok (ak aa ao : Option Addr) (m l pk pa po : Nat) (t : Int) (ks ads os : List Int) (w : World) (h24 : m ≤ 24) (ht : 0 ≤ t ∧ t ≤ 1000000000000) (h8 : l ≤ 8)
    (hk : Row w .u8 (.slice ak 16 pk) ks) (ha : Row w .u8 (.slice aa m pa) ads) (ho : Row w .u8 (.slice ao l po) os) (lk : ks.length = 16) (la : ads.length = m) (lo : os.length = l) (bk : Bytes ks) (ba : Bytes ads) (bo : Bytes os) :
    Calls Try.prog 5 #[.slice ak 16 pk, .slice aa m pa, .int .i64 t, .slice ao l po] w fun e w' => ∃ r, e = .returned (.tuple #[r, .int .i64 0]) ∧ w'.ownsRow w.heap.size 5 1 r (tokM ks ads t os).length ((tokM ks ads t os).map (Value.int .u8)) ∧ Below w.heap.size w w' := by
  have HT : Hid _ := And.intro ht True.intro
  have HR : Hid _ := And.intro hk (And.intro ha ho)
  have HL : Hid _ := And.intro lk (And.intro la lo)
  have HB : Hid _ := And.intro bk (And.intro ba bo)
  clear ht hk ha ho lk la lo bk ba bo
  go_enter Try.func5, Try.ntmps5
  go_wp2_with fail
  go_at_call 13
  refine (taS_t ak aa m pk pa t w h24 HT.out.1).mono ?_
  rintro e w2 ⟨rfl, rfl⟩
  go_wp2_with fail
  go_at_call 15
  refine (specKeysOf _ ks _ HR.out.1 HB.out.1 (by rw [HL.out.1]; decide)).mono ?_
  rintro e w1 ⟨vk, rfl, ok, b1⟩
  have H1 : Hid _ := And.intro ok b1
  have z1 : w2.heap.size ≤ w1.heap.size := b1.size
  clear ok b1
  go_wp2_with fail
  go_at_call 16
  refine (digits 8 t w1 HT.out.1.1 (by have := HT.out.1.2; omega) (by decide)).mono ?_
  rintro e w3 ⟨vd, rfl, od, b3⟩
  obtain ⟨gd, pd, rfl, gd0, gd1⟩ := owns_shape od (by decide)
  have H3 : Hid _ := And.intro od (And.intro b3 (H1.out.2.trans (b3.mono H1.out.2.size)))
  have z3 : w1.heap.size ≤ w3.heap.size := b3.size
  clear od b3
  go_wp2_with (first
    | (at_builtin; refine wpList_append_row rfl (.tmp 25) (.tmp 26) rfl w1.heap.size _ 8 (be t 8) rfl H3.out.1 (.slice ao l po) os rfl (HR.out.2.2.below H3.out.2.2) (by have := HL.out.2.2; omega) (by omega) ?_; intro q5 w5 o5 g5; have H5 : Hid _ := And.intro o5 (H3.out.2.1.grown g5 H3.out.2.1.size (by intro k hk; cases hk; omega)); have F5 := own_formT o5; obtain ⟨a5, c5, f5⟩ := F5; rw [HL.out.2.2] at f5; subst f5; clear o5 g5))
  go_at_call 14
  have K5 := KOwns.row (KOwns.below H1.out.1 H5.out.2)
  have B5 := H1.out.2.trans (H5.out.2.mono H1.out.2.size)
  have R5 := row_of_owns H5.out.1
  have A5 := HR.out.2.1.below B5
  have T5 := seal_ok vk aa a5 pa c5 (keysV ks) 0 ads (tokB t os) w5 K5 (keysV_bytes ks HB.out.1) (keysV_kok ks HL.out.1) (by decide) (by decide) (by rw [tokB_length, HL.out.2.1, HL.out.2.2]; omega) (by rw [HL.out.2.1]; exact A5) (by rw [tokB_length, HL.out.2.2]; exact R5) HB.out.2.1 (tokB_bytes t os HB.out.2.2)
  rw [HL.out.2.1, tokB_length, HL.out.2.2] at T5
  refine T5.mono ?_
  rintro e w6 ⟨r6, rfl, o6, b6⟩
  have H6 : Hid _ := And.intro (owns_mono o6 B5.size) (B5.trans (b6.mono B5.size))
  clear K5 B5 R5 A5 T5 o6 b6
  go_wp2
  go_ret2
  exact ⟨_, rfl, H6.out.1, H6.out.2⟩
set_option maxRecDepth 20000 in
set_option maxHeartbeats 4000000 in
theorem tmkI_ok (ak aa ao : Option Addr) (m l pk pa po : Nat) (t : Int) (ks ads os : List Int) (w : World) (h24 : m ≤ 24) (ht : 0 ≤ t ∧ t ≤ 1000000000000) (h8 : l ≤ 8)
    (hk : Row w .u8 (.slice ak 16 pk) ks) (ha : Row w .u8 (.slice aa m pa) ads) (ho : Row w .u8 (.slice ao l po) os) (lk : ks.length = 16) (la : ads.length = m) (lo : os.length = l) (bk : Bytes ks) (ba : Bytes ads) (bo : Bytes os) :
    Calls Try.prog 7 #[.slice ak 16 pk, .slice aa m pa, .int .i64 t, .slice ao l po] w fun e w' => ∃ r, e = .returned (.tuple #[r, .int .i64 0]) ∧ w'.ownsRow w.heap.size 5 1 r (tokM ks ads t os).length ((tokM ks ads t os).map (Value.int .u8)) ∧ Below w.heap.size w w' := by
  have HT : Hid _ := And.intro ht True.intro
  have HR : Hid _ := And.intro hk (And.intro ha ho)
  have HL : Hid _ := And.intro lk (And.intro la lo)
  have HB : Hid _ := And.intro bk (And.intro ba bo)
  clear ht hk ha ho lk la lo bk ba bo
  go_enter Try.func7, Try.ntmps7
  go_wp2_with fail
  go_at_call 17
  refine (taI_t ak aa m pk pa t w h24 HT.out.1).mono ?_
  rintro e w2 ⟨rfl, rfl⟩
  go_wp2_with fail
  go_at_call 18
  refine (icids _ [os] _ (parts1 HR.out.2.2 _) (by simp) (cids1_len os (by rw [HL.out.2.2]; omega))).mono ?_
  rw [cids1 l os HL.out.2.2, decide_eq_true h8]
  rintro e w' ⟨rfl, hw⟩
  subst w'
  have B0 : Below w2.heap.size w2 (w2.alloc (.cells #[.slice ao l po] 22)) := (Below.refl _ _).alloc (Nat.le_refl _) _
  have HW : Hid (∃ w0 : World, w0 = w2.alloc (.cells #[.slice ao l po] 22)) := ⟨_, rfl⟩
  obtain ⟨w0, ew0⟩ := HW.out
  rw [← ew0] at B0 ⊢
  have H0 : Hid _ := And.intro B0 True.intro
  have z0 : w2.heap.size ≤ w0.heap.size := B0.size
  clear B0 ew0 HW
  go_wp2_with fail
  go_at_call 20
  refine (implKeysOf _ ks _ (HR.out.1.below H0.out.1) HB.out.1 (by rw [HL.out.1]; decide)).mono ?_
  rintro e w1 ⟨vk, rfl, ok, b1⟩
  have H1 : Hid _ := And.intro ok (H0.out.1.trans (b1.mono H0.out.1.size))
  have z1 : w2.heap.size ≤ w1.heap.size := H1.out.2.size
  clear ok b1
  go_wp2_with fail
  go_at_call 21
  rw [show IntKind.u64.wrap t = t by rw [IntKind.wrap_u64]; have := HT.out.1; omega]
  refine (high t 8 w1 HT.out.1.1 (by have := HT.out.1.2; omega) (by decide)).mono ?_
  rintro e w3 ⟨vd, rfl, od, b3⟩
  obtain ⟨gd, pd, rfl, gd0, gd1⟩ := owns_shape od (by decide)
  have H3 : Hid _ := And.intro od (And.intro b3 (H1.out.2.trans (b3.mono H1.out.2.size)))
  have z3 : w1.heap.size ≤ w3.heap.size := b3.size
  clear od b3
  go_wp2_with (first
    | (at_builtin; refine wpList_append_row rfl (.tmp 26) (.tmp 27) rfl w1.heap.size _ 8 (be t 8) rfl H3.out.1 (.slice ao l po) os rfl (HR.out.2.2.below H3.out.2.2) (by have := HL.out.2.2; omega) (by omega) ?_; intro q5 w5 o5 g5; have H5 : Hid _ := And.intro o5 (H3.out.2.1.grown g5 H3.out.2.1.size (by intro k hk; cases hk; omega)); have F5 := own_formT o5; obtain ⟨a5, c5, f5⟩ := F5; rw [HL.out.2.2] at f5; subst f5; clear o5 g5))
  go_at_call 19
  have K5 := KOwns.row (KOwns.below H1.out.1 H5.out.2)
  have B5 := H1.out.2.trans (H5.out.2.mono H1.out.2.size)
  have R5 := row_of_owns H5.out.1
  have A5 := HR.out.2.1.below B5
  have T5 := iseal_ok vk aa a5 pa c5 (keysV ks) 0 ads (tokB t os) w5 K5 (keysV_bytes ks HB.out.1) (keysV_kok ks HL.out.1) (by decide) (by decide) (by rw [tokB_length, HL.out.2.1, HL.out.2.2]; omega) (by rw [HL.out.2.1]; exact A5) (by rw [tokB_length, HL.out.2.2]; exact R5) HB.out.2.1 (tokB_bytes t os HB.out.2.2)
  rw [HL.out.2.1, tokB_length, HL.out.2.2] at T5
  refine T5.mono ?_
  rintro e w6 ⟨r6, rfl, o6, b6⟩
  have H6 : Hid _ := And.intro (owns_mono o6 B5.size) (B5.trans (b6.mono B5.size))
  clear K5 B5 R5 A5 T5 o6 b6
  go_wp2
  go_ret2
  exact ⟨_, rfl, H6.out.1, H6.out.2⟩
end Go.Proofs.Yteekpdmblododaa

namespace Go.Proofs.Yteekpdmblododaa
open Go.RowKit
set_option linter.unusedVariables false

theorem copyT (v : Value) (xs : List Int) (w : World) (h : Row w .u8 v xs) (h1 : xs.length ≤ 65536) :
    Calls Try.prog 24 #[v] w fun e w' => ∃ r, e = .returned r ∧ w'.ownsRow w.heap.size 5 1 r xs.length (xs.map (Value.int .u8)) ∧ Below w.heap.size w w' := by
  obtain ⟨ao, cap, rfl⟩ := h.form
  have B0 : Below w.heap.size w (w.alloc (.cells #[] 5)) := (Below.refl _ _).alloc (Nat.le_refl _) _
  have hlit : (w.alloc (.cells #[] 5)).ownsRow w.heap.size 5 1 (.slice (some ⟨w.heap.size, 0, none⟩) 0 0) 0 (([] : List Int).map (Value.int .u8)) := World.ownsRow_lit w #[] 0 (Nat.le_refl _) (by decide) rfl
  have hr := h.below B0
  obtain ⟨m, hm⟩ : ∃ m, m = xs.length := ⟨_, rfl⟩
  have HH : Hid _ := And.intro B0 (And.intro hlit (And.intro hr (And.intro hm h1)))
  rw [← hm]
  clear B0 hlit hr hm h1 h
  go_enter Try.func24, Try.ntmps24
  go_wp2_with (at_builtin; refine wpList_append_row rfl _ _ rfl w.heap.size (.slice (some ⟨w.heap.size, 0, none⟩) 0 0) 0 [] rfl HH.out.2.1 (.slice ao m cap) xs rfl (by rw [HH.out.2.2.2.1]; exact HH.out.2.2.1) (by have := HH.out.2.2.2.2; omega) (by simp) ?_; intro v1 w1 o1 g1)
  rw [← HH.out.2.2.2.1, Nat.zero_add, List.nil_append] at o1
  have hb : Below w.heap.size w w1 := HH.out.1.grown g1 (by simp) (fun j hj => (HH.out.2.1.lt j hj).1)
  have HF : Hid _ := And.intro o1 hb
  clear o1 g1 hb
  go_wp2_with fail
  go_ret
  exact ⟨v1, rfl, HF.out.1, HF.out.2⟩
theorem tcS_args (ak aa ao : Option Addr) (n m l pk pa po : Nat) (t : Int) (w : World) (hn : n ≤ 9223372036854775807) (hm : m ≤ 9223372036854775807) (h : ¬ tArg n m t) :
    Calls Try.prog 11 #[.slice ak n pk, .slice aa m pa, .int .i64 t, .slice ao l po] w fun e w' => ∃ r, e = .returned (.tuple #[r, .int .i64 1]) ∧ w'.ownsRow w.heap.size 5 1 r 0 (([] : List Int).map (Value.int .u8)) ∧ Below w.heap.size w w' := by
  have HA : Hid _ := And.intro h True.intro
  clear h
  go_enter Try.func11, Try.ntmps11
  go_wp2_with fail
  go_at_call 13
  refine (taS_f ak aa n m pk pa t w hn hm HA.out.1).mono ?_
  rintro e w2 ⟨rfl, rfl⟩
  go_wp2
  go_ret2
  exact ⟨_, rfl, World.ownsRow_lit _ #[] 0 (Nat.le_refl _) (by decide) rfl, (Below.refl _ _).alloc (Nat.le_refl _) _⟩
/-- The cells of a row of one's own. -/
theorem tcell {w : World} {base g n p : Nat} {B : List Int} (h : w.ownsRow base 5 1 (.slice (some ⟨g, 0, none⟩) n p) n (B.map (Value.int .u8))) (j : Nat) (hj : j < n) : w.cell? ⟨g, j, none⟩ = some (.int .u8 (B.getD j 0)) := by
  have hl : B.length = n := by simpa using h.1
  rw [h.cellAt j (by omega), List.getElem?_map, List.getElem?_eq_getElem (by omega)]
  simp [List.getD, show j < B.length by omega]
theorem tdrop {w : World} {base g q p : Nat} {B : List Int} (h : w.ownsRow base 5 1 (.slice (some ⟨g, 0, none⟩) (8 + q) p) (8 + q) (B.map (Value.int .u8))) : Row w .u8 (.slice (some ⟨g, 8, none⟩) q (p - 8)) (B.drop 8) := by
  have hl : B.length = 8 + q := by simpa using h.1
  have hp : 8 + q ≤ p ∧ p ≤ maxLen := by
    rcases h.2 with ⟨e, _⟩ | ⟨g', cap', cur, e, _, _, h1, h2, _⟩
    · cases e
    · cases e; exact ⟨h1, h2⟩
  have := row_cut (w := w) (k := .u8) (xs := B) (b := g) (off := 0) (cap := 0) (at' := 8) (n := q) (cap' := p - 8) (h.lt g rfl).2 (fun j hj => by rw [Nat.zero_add]; exact tcell h j (by omega)) (by omega) ⟨by omega, by omega⟩
  rw [Nat.zero_add, List.take_of_length_le (by rw [List.length_drop]; omega)] at this
  exact this
theorem tdrop0 {w : World} {base g q p : Nat} {B : List Int} (h : w.ownsRow base 5 1 (.slice (some ⟨g, 0, none⟩) (8 + q) p) (8 + q) (B.map (Value.int .u8))) (hq : q = 0) : Row w .u8 (.slice (some ⟨g, 0, none⟩) q 0) (B.drop 8) := by
  subst hq
  have hl : B.length = 8 := by simpa using h.1
  rw [List.drop_eq_nil_of_le (by omega)]
  exact Or.inr ⟨g, 0, 0, rfl, (h.lt g rfl).2, ⟨Nat.le_refl _, by decide⟩, fun j hj => by simp at hj⟩
theorem owns0 {w : World} {base g n p : Nat} {xs : List Value} (h : w.ownsRow base 5 1 (.slice (some ⟨g, 0, none⟩) n p) n xs) : w.ownsRow base 5 1 (.slice (some ⟨g, 0, none⟩) 0 p) 0 (([] : List Int).map (Value.int .u8)) := by
  rcases h.2 with ⟨e, _⟩ | ⟨g', cap', cur, e, h0, h1, h2, h3, h4, _⟩
  · cases e
  · cases e
    exact ⟨rfl, Or.inr ⟨g, p, cur, rfl, h0, h1, Nat.zero_le _, h3, h4, rfl⟩⟩
set_option maxRecDepth 20000 in
set_option maxHeartbeats 2000000 in
theorem tcS_code (ak aa ao : Option Addr) (m l pk pa po n : Nat) (t : Int) (ks ads xs B : List Int) (c : Int) (w : World) (h24 : m ≤ 24) (ht : 0 ≤ t ∧ t ≤ 1000000000000)
    (hk : Row w .u8 (.slice ak 16 pk) ks) (ha : Row w .u8 (.slice aa m pa) ads) (ho : Row w .u8 (.slice ao l po) xs) (lk : ks.length = 16) (bk : Bytes ks)
    (hO : ∀ (w : World) (uk : Value), KRow w uk (keysV ks) → Row w .u8 (.slice aa m pa) ads → Row w .u8 (.slice ao l po) xs → Calls Try.prog 22 #[uk, .int .i64 0, .slice aa m pa, .slice ao l po] w fun e w' => ∃ r, e = .returned (.tuple #[r, .int .i64 c]) ∧ w'.ownsRow w.heap.size 5 1 r (n) (B.map (Value.int .u8)) ∧ Below w.heap.size w w')
    (hn : n ≤ 1508) (hc : (c != 0) = true) :
    Calls Try.prog 11 #[.slice ak 16 pk, .slice aa m pa, .int .i64 t, .slice ao l po] w fun e w' => ∃ r, e = .returned (.tuple #[r, .int .i64 13]) ∧ w'.ownsRow w.heap.size 5 1 r 0 ((([] : List Int)).map (Value.int .u8)) ∧ Below w.heap.size w w' := by
  have HT : Hid _ := And.intro ht True.intro
  have HR : Hid _ := And.intro hk (And.intro ha ho)
  have HL : Hid _ := And.intro lk (And.intro bk True.intro)
  have HO : Hid _ := And.intro hO True.intro
  skip
  clear ht hk ha ho lk bk hO
  go_enter Try.func11, Try.ntmps11
  go_wp2_with fail
  go_at_call 13
  refine (taS_t ak aa m pk pa t w h24 HT.out.1).mono ?_
  rintro e w2 ⟨rfl, rfl⟩
  go_wp2_with fail
  go_at_call 15
  refine (specKeysOf _ ks _ HR.out.1 HL.out.2.1 (by rw [HL.out.1]; decide)).mono ?_
  rintro e w1 ⟨vk, rfl, ok, b1⟩
  have H1 : Hid _ := And.intro ok b1
  have z1 : w2.heap.size ≤ w1.heap.size := b1.size
  clear ok b1
  go_wp2_with fail
  go_at_call 22
  refine (HO.out.1 _ _ (KOwns.row H1.out.1) (HR.out.2.1.below H1.out.2) (HR.out.2.2.below H1.out.2)).mono ?_
  rintro e w3 ⟨vb, rfl, ob, b3⟩
  obtain ⟨ab, cb, f⟩ := own_formT ob
  subst f
  have H3 : Hid _ := And.intro ob (H1.out.2.trans (b3.mono H1.out.2.size))
  have z3 : w2.heap.size ≤ w3.heap.size := H3.out.2.size
  clear ob b3
  go_wp2
  go_ret2
  exact ⟨_, rfl, World.ownsRow_lit _ #[] 0 H3.out.2.size (by decide) rfl, H3.out.2.alloc H3.out.2.size _⟩
set_option maxRecDepth 20000 in
set_option maxHeartbeats 2000000 in
theorem tcS_short (ak aa ao : Option Addr) (m l pk pa po n : Nat) (t : Int) (ks ads xs B : List Int) (w : World) (h24 : m ≤ 24) (ht : 0 ≤ t ∧ t ≤ 1000000000000)
    (hk : Row w .u8 (.slice ak 16 pk) ks) (ha : Row w .u8 (.slice aa m pa) ads) (ho : Row w .u8 (.slice ao l po) xs) (lk : ks.length = 16) (bk : Bytes ks)
    (hO : ∀ (w : World) (uk : Value), KRow w uk (keysV ks) → Row w .u8 (.slice aa m pa) ads → Row w .u8 (.slice ao l po) xs → Calls Try.prog 22 #[uk, .int .i64 0, .slice aa m pa, .slice ao l po] w fun e w' => ∃ r, e = .returned (.tuple #[r, .int .i64 0]) ∧ w'.ownsRow w.heap.size 5 1 r (n) (B.map (Value.int .u8)) ∧ Below w.heap.size w w')
    (hn : n < 8) :
    Calls Try.prog 11 #[.slice ak 16 pk, .slice aa m pa, .int .i64 t, .slice ao l po] w fun e w' => ∃ r, e = .returned (.tuple #[r, .int .i64 13]) ∧ w'.ownsRow w.heap.size 5 1 r 0 ((([] : List Int)).map (Value.int .u8)) ∧ Below w.heap.size w w' := by
  have HT : Hid _ := And.intro ht True.intro
  have HR : Hid _ := And.intro hk (And.intro ha ho)
  have HL : Hid _ := And.intro lk (And.intro bk True.intro)
  have HO : Hid _ := And.intro hO True.intro
  skip
  clear ht hk ha ho lk bk hO
  go_enter Try.func11, Try.ntmps11
  go_wp2_with fail
  go_at_call 13
  refine (taS_t ak aa m pk pa t w h24 HT.out.1).mono ?_
  rintro e w2 ⟨rfl, rfl⟩
  go_wp2_with fail
  go_at_call 15
  refine (specKeysOf _ ks _ HR.out.1 HL.out.2.1 (by rw [HL.out.1]; decide)).mono ?_
  rintro e w1 ⟨vk, rfl, ok, b1⟩
  have H1 : Hid _ := And.intro ok b1
  have z1 : w2.heap.size ≤ w1.heap.size := b1.size
  clear ok b1
  go_wp2_with fail
  go_at_call 22
  refine (HO.out.1 _ _ (KOwns.row H1.out.1) (HR.out.2.1.below H1.out.2) (HR.out.2.2.below H1.out.2)).mono ?_
  rintro e w3 ⟨vb, rfl, ob, b3⟩
  obtain ⟨ab, cb, f⟩ := own_formT ob
  subst f
  have H3 : Hid _ := And.intro ob (H1.out.2.trans (b3.mono H1.out.2.size))
  have z3 : w2.heap.size ≤ w3.heap.size := H3.out.2.size
  clear ob b3
  go_wp2
  go_ret2
  exact ⟨_, rfl, World.ownsRow_lit _ #[] 0 H3.out.2.size (by decide) rfl, H3.out.2.alloc H3.out.2.size _⟩
set_option maxRecDepth 20000 in
set_option maxHeartbeats 2000000 in
theorem tcS_long (ak aa ao : Option Addr) (m l pk pa po n : Nat) (t : Int) (ks ads xs B : List Int) (w : World) (h24 : m ≤ 24) (ht : 0 ≤ t ∧ t ≤ 1000000000000)
    (hk : Row w .u8 (.slice ak 16 pk) ks) (ha : Row w .u8 (.slice aa m pa) ads) (ho : Row w .u8 (.slice ao l po) xs) (lk : ks.length = 16) (bk : Bytes ks)
    (hO : ∀ (w : World) (uk : Value), KRow w uk (keysV ks) → Row w .u8 (.slice aa m pa) ads → Row w .u8 (.slice ao l po) xs → Calls Try.prog 22 #[uk, .int .i64 0, .slice aa m pa, .slice ao l po] w fun e w' => ∃ r, e = .returned (.tuple #[r, .int .i64 0]) ∧ w'.ownsRow w.heap.size 5 1 r (n) (B.map (Value.int .u8)) ∧ Below w.heap.size w w')
    (hn : 16 < n) (hx : n ≤ 1508) :
    Calls Try.prog 11 #[.slice ak 16 pk, .slice aa m pa, .int .i64 t, .slice ao l po] w fun e w' => ∃ r, e = .returned (.tuple #[r, .int .i64 13]) ∧ w'.ownsRow w.heap.size 5 1 r 0 ((([] : List Int)).map (Value.int .u8)) ∧ Below w.heap.size w w' := by
  have HT : Hid _ := And.intro ht True.intro
  have HR : Hid _ := And.intro hk (And.intro ha ho)
  have HL : Hid _ := And.intro lk (And.intro bk True.intro)
  have HO : Hid _ := And.intro hO True.intro
  skip
  clear ht hk ha ho lk bk hO
  go_enter Try.func11, Try.ntmps11
  go_wp2_with fail
  go_at_call 13
  refine (taS_t ak aa m pk pa t w h24 HT.out.1).mono ?_
  rintro e w2 ⟨rfl, rfl⟩
  go_wp2_with fail
  go_at_call 15
  refine (specKeysOf _ ks _ HR.out.1 HL.out.2.1 (by rw [HL.out.1]; decide)).mono ?_
  rintro e w1 ⟨vk, rfl, ok, b1⟩
  have H1 : Hid _ := And.intro ok b1
  have z1 : w2.heap.size ≤ w1.heap.size := b1.size
  clear ok b1
  go_wp2_with fail
  go_at_call 22
  refine (HO.out.1 _ _ (KOwns.row H1.out.1) (HR.out.2.1.below H1.out.2) (HR.out.2.2.below H1.out.2)).mono ?_
  rintro e w3 ⟨vb, rfl, ob, b3⟩
  obtain ⟨ab, cb, f⟩ := own_formT ob
  subst f
  have H3 : Hid _ := And.intro ob (H1.out.2.trans (b3.mono H1.out.2.size))
  have z3 : w2.heap.size ≤ w3.heap.size := H3.out.2.size
  clear ob b3
  go_wp2
  go_ret2
  exact ⟨_, rfl, World.ownsRow_lit _ #[] 0 H3.out.2.size (by decide) rfl, H3.out.2.alloc H3.out.2.size _⟩
set_option maxRecDepth 20000 in
set_option maxHeartbeats 2000000 in
theorem tcS_high (ak aa ao : Option Addr) (m l pk pa po q : Nat) (t : Int) (ks ads xs B : List Int) (w : World) (h24 : m ≤ 24) (ht : 0 ≤ t ∧ t ≤ 1000000000000)
    (hk : Row w .u8 (.slice ak 16 pk) ks) (ha : Row w .u8 (.slice aa m pa) ads) (ho : Row w .u8 (.slice ao l po) xs) (lk : ks.length = 16) (bk : Bytes ks)
    (hO : ∀ (w : World) (uk : Value), KRow w uk (keysV ks) → Row w .u8 (.slice aa m pa) ads → Row w .u8 (.slice ao l po) xs → Calls Try.prog 22 #[uk, .int .i64 0, .slice aa m pa, .slice ao l po] w fun e w' => ∃ r, e = .returned (.tuple #[r, .int .i64 0]) ∧ w'.ownsRow w.heap.size 5 1 r (8 + q) (B.map (Value.int .u8)) ∧ Below w.heap.size w w')
    (hq : q ≤ 8) (hb : 128 ≤ B.getD 0 0 ∧ B.getD 0 0 < 256) :
    Calls Try.prog 11 #[.slice ak 16 pk, .slice aa m pa, .int .i64 t, .slice ao l po] w fun e w' => ∃ r, e = .returned (.tuple #[r, .int .i64 13]) ∧ w'.ownsRow w.heap.size 5 1 r 0 ((([] : List Int)).map (Value.int .u8)) ∧ Below w.heap.size w w' := by
  have HT : Hid _ := And.intro ht True.intro
  have HR : Hid _ := And.intro hk (And.intro ha ho)
  have HL : Hid _ := And.intro lk (And.intro bk True.intro)
  have HO : Hid _ := And.intro hO True.intro
  obtain ⟨x, ex⟩ : ∃ x, x = B.getD 0 0 := ⟨_, rfl⟩
  rw [← ex] at hb
  have HX : Hid _ := And.intro ex True.intro
  clear ex
  clear ht hk ha ho lk bk hO
  go_enter Try.func11, Try.ntmps11
  go_wp2_with fail
  go_at_call 13
  refine (taS_t ak aa m pk pa t w h24 HT.out.1).mono ?_
  rintro e w2 ⟨rfl, rfl⟩
  go_wp2_with fail
  go_at_call 15
  refine (specKeysOf _ ks _ HR.out.1 HL.out.2.1 (by rw [HL.out.1]; decide)).mono ?_
  rintro e w1 ⟨vk, rfl, ok, b1⟩
  have H1 : Hid _ := And.intro ok b1
  have z1 : w2.heap.size ≤ w1.heap.size := b1.size
  clear ok b1
  go_wp2_with fail
  go_at_call 22
  refine (HO.out.1 _ _ (KOwns.row H1.out.1) (HR.out.2.1.below H1.out.2) (HR.out.2.2.below H1.out.2)).mono ?_
  rintro e w3 ⟨vb, rfl, ob, b3⟩
  obtain ⟨g, p, f, g0, g1⟩ := owns_shape ob (by omega)
  subst f
  obtain ⟨p1, p2⟩ := hm_cap ob
  have H3 : Hid _ := And.intro ob (H1.out.2.trans (b3.mono H1.out.2.size))
  have z3 : w2.heap.size ≤ w3.heap.size := H3.out.2.size
  have c0 := tcell ob 0 (by omega)
  rw [← HX.out.1] at c0
  clear ob b3
  go_wp2
  go_ret2
  exact ⟨_, rfl, World.ownsRow_lit _ #[] 0 H3.out.2.size (by decide) rfl, H3.out.2.alloc H3.out.2.size _⟩
set_option maxRecDepth 20000 in
set_option maxHeartbeats 2000000 in
theorem tcS_early (ak aa ao : Option Addr) (m l pk pa po q : Nat) (t : Int) (ks ads xs B : List Int) (w : World) (h24 : m ≤ 24) (ht : 0 ≤ t ∧ t ≤ 1000000000000)
    (hk : Row w .u8 (.slice ak 16 pk) ks) (ha : Row w .u8 (.slice aa m pa) ads) (ho : Row w .u8 (.slice ao l po) xs) (lk : ks.length = 16) (bk : Bytes ks)
    (hO : ∀ (w : World) (uk : Value), KRow w uk (keysV ks) → Row w .u8 (.slice aa m pa) ads → Row w .u8 (.slice ao l po) xs → Calls Try.prog 22 #[uk, .int .i64 0, .slice aa m pa, .slice ao l po] w fun e w' => ∃ r, e = .returned (.tuple #[r, .int .i64 0]) ∧ w'.ownsRow w.heap.size 5 1 r (8 + q) (B.map (Value.int .u8)) ∧ Below w.heap.size w w')
    (lB : B.length = 8 + q) (bB : Bytes B) (hq : q ≤ 8) (hb : 0 ≤ B.getD 0 0 ∧ B.getD 0 0 < 128) (hv : t < vals (B.take 8) ∧ vals (B.take 8) ≤ 9223372036854775807) :
    Calls Try.prog 11 #[.slice ak 16 pk, .slice aa m pa, .int .i64 t, .slice ao l po] w fun e w' => ∃ r, e = .returned (.tuple #[r, .int .i64 13]) ∧ w'.ownsRow w.heap.size 5 1 r 0 ((([] : List Int)).map (Value.int .u8)) ∧ Below w.heap.size w w' := by
  have HT : Hid _ := And.intro ht True.intro
  have HR : Hid _ := And.intro hk (And.intro ha ho)
  have HL : Hid _ := And.intro lk (And.intro bk True.intro)
  have HO : Hid _ := And.intro hO True.intro
  obtain ⟨x, ex⟩ : ∃ x, x = B.getD 0 0 := ⟨_, rfl⟩
  rw [← ex] at hb
  have HX : Hid _ := And.intro ex True.intro
  clear ex
  obtain ⟨tt, et⟩ : ∃ tt, tt = vals (B.take 8) := ⟨_, rfl⟩
  have hv0 : 0 ≤ tt := by rw [et]; exact vals_nonneg _ (bB.take 8)
  have VB : Hid _ := And.intro (bB.take 8) (And.intro (show vals (B.take 8) ≤ 9223372036854775807 by rw [← et]; omega) (And.intro lB et))
  rw [← et] at hv
  clear bB lB et
  clear ht hk ha ho lk bk hO
  go_enter Try.func11, Try.ntmps11
  go_wp2_with fail
  go_at_call 13
  refine (taS_t ak aa m pk pa t w h24 HT.out.1).mono ?_
  rintro e w2 ⟨rfl, rfl⟩
  go_wp2_with fail
  go_at_call 15
  refine (specKeysOf _ ks _ HR.out.1 HL.out.2.1 (by rw [HL.out.1]; decide)).mono ?_
  rintro e w1 ⟨vk, rfl, ok, b1⟩
  have H1 : Hid _ := And.intro ok b1
  have z1 : w2.heap.size ≤ w1.heap.size := b1.size
  clear ok b1
  go_wp2_with fail
  go_at_call 22
  refine (HO.out.1 _ _ (KOwns.row H1.out.1) (HR.out.2.1.below H1.out.2) (HR.out.2.2.below H1.out.2)).mono ?_
  rintro e w3 ⟨vb, rfl, ob, b3⟩
  obtain ⟨g, p, f, g0, g1⟩ := owns_shape ob (by omega)
  subst f
  obtain ⟨p1, p2⟩ := hm_cap ob
  have H3 : Hid _ := And.intro ob (H1.out.2.trans (b3.mono H1.out.2.size))
  have z3 : w2.heap.size ≤ w3.heap.size := H3.out.2.size
  have c0 := tcell ob 0 (by omega)
  rw [← HX.out.1] at c0
  clear ob b3
  obtain ⟨w4, ew4⟩ : ∃ w4, w4 = w3 := ⟨_, rfl⟩
  subst ew4
  have H4 : Hid _ := And.intro H3.out.1 H3.out.2
  go_wp2_with fail
  go_at_call 23
  refine (value_core 8 (B.take 8) g 0 p w4 (by decide) (by rw [List.length_take, VB.out.2.2.1] <;> omega) VB.out.1 VB.out.2.1 (fun j hj => by rw [Nat.zero_add, tcell H4.out.1 j (by omega)]; simp [List.getD, hj])).mono ?_
  rw [← VB.out.2.2.2]
  rintro e w5 ⟨rfl, hw⟩
  subst w5
  go_wp2
  go_ret2
  exact ⟨_, rfl, World.ownsRow_lit _ #[] 0 H4.out.2.size (by decide) rfl, H4.out.2.alloc H4.out.2.size _⟩
set_option maxRecDepth 20000 in
set_option maxHeartbeats 2000000 in
theorem tcS_late (ak aa ao : Option Addr) (m l pk pa po q : Nat) (t : Int) (ks ads xs B : List Int) (w : World) (h24 : m ≤ 24) (ht : 0 ≤ t ∧ t ≤ 1000000000000)
    (hk : Row w .u8 (.slice ak 16 pk) ks) (ha : Row w .u8 (.slice aa m pa) ads) (ho : Row w .u8 (.slice ao l po) xs) (lk : ks.length = 16) (bk : Bytes ks)
    (hO : ∀ (w : World) (uk : Value), KRow w uk (keysV ks) → Row w .u8 (.slice aa m pa) ads → Row w .u8 (.slice ao l po) xs → Calls Try.prog 22 #[uk, .int .i64 0, .slice aa m pa, .slice ao l po] w fun e w' => ∃ r, e = .returned (.tuple #[r, .int .i64 0]) ∧ w'.ownsRow w.heap.size 5 1 r (8 + q) (B.map (Value.int .u8)) ∧ Below w.heap.size w w')
    (lB : B.length = 8 + q) (bB : Bytes B) (hq : q ≤ 8) (hb : 0 ≤ B.getD 0 0 ∧ B.getD 0 0 < 128) (hv : vals (B.take 8) ≤ t ∧ 60000000 < t - vals (B.take 8)) :
    Calls Try.prog 11 #[.slice ak 16 pk, .slice aa m pa, .int .i64 t, .slice ao l po] w fun e w' => ∃ r, e = .returned (.tuple #[r, .int .i64 13]) ∧ w'.ownsRow w.heap.size 5 1 r 0 ((([] : List Int)).map (Value.int .u8)) ∧ Below w.heap.size w w' := by
  have HT : Hid _ := And.intro ht True.intro
  have HR : Hid _ := And.intro hk (And.intro ha ho)
  have HL : Hid _ := And.intro lk (And.intro bk True.intro)
  have HO : Hid _ := And.intro hO True.intro
  obtain ⟨x, ex⟩ : ∃ x, x = B.getD 0 0 := ⟨_, rfl⟩
  rw [← ex] at hb
  have HX : Hid _ := And.intro ex True.intro
  clear ex
  obtain ⟨tt, et⟩ : ∃ tt, tt = vals (B.take 8) := ⟨_, rfl⟩
  have hv0 : 0 ≤ tt := by rw [et]; exact vals_nonneg _ (bB.take 8)
  have VB : Hid _ := And.intro (bB.take 8) (And.intro (show vals (B.take 8) ≤ 9223372036854775807 by rw [← et]; rw [← et] at hv; omega) (And.intro lB et))
  rw [← et] at hv
  clear bB lB et
  clear ht hk ha ho lk bk hO
  go_enter Try.func11, Try.ntmps11
  go_wp2_with fail
  go_at_call 13
  refine (taS_t ak aa m pk pa t w h24 HT.out.1).mono ?_
  rintro e w2 ⟨rfl, rfl⟩
  go_wp2_with fail
  go_at_call 15
  refine (specKeysOf _ ks _ HR.out.1 HL.out.2.1 (by rw [HL.out.1]; decide)).mono ?_
  rintro e w1 ⟨vk, rfl, ok, b1⟩
  have H1 : Hid _ := And.intro ok b1
  have z1 : w2.heap.size ≤ w1.heap.size := b1.size
  clear ok b1
  go_wp2_with fail
  go_at_call 22
  refine (HO.out.1 _ _ (KOwns.row H1.out.1) (HR.out.2.1.below H1.out.2) (HR.out.2.2.below H1.out.2)).mono ?_
  rintro e w3 ⟨vb, rfl, ob, b3⟩
  obtain ⟨g, p, f, g0, g1⟩ := owns_shape ob (by omega)
  subst f
  obtain ⟨p1, p2⟩ := hm_cap ob
  have H3 : Hid _ := And.intro ob (H1.out.2.trans (b3.mono H1.out.2.size))
  have z3 : w2.heap.size ≤ w3.heap.size := H3.out.2.size
  have c0 := tcell ob 0 (by omega)
  rw [← HX.out.1] at c0
  clear ob b3
  have ht1 := HT.out.1
  obtain ⟨w4, ew4⟩ : ∃ w4, w4 = w3 := ⟨_, rfl⟩
  subst ew4
  have H4 : Hid _ := And.intro H3.out.1 H3.out.2
  go_wp2_with fail
  go_at_call 23
  refine (value_core 8 (B.take 8) g 0 p w4 (by decide) (by rw [List.length_take, VB.out.2.2.1] <;> omega) VB.out.1 VB.out.2.1 (fun j hj => by rw [Nat.zero_add, tcell H4.out.1 j (by omega)]; simp [List.getD, hj])).mono ?_
  rw [← VB.out.2.2.2]
  rintro e w5 ⟨rfl, hw⟩
  subst w5
  go_wp2
  go_ret2
  exact ⟨_, rfl, World.ownsRow_lit _ #[] 0 H4.out.2.size (by decide) rfl, H4.out.2.alloc H4.out.2.size _⟩
set_option maxRecDepth 20000 in
set_option maxHeartbeats 2000000 in
theorem tcS_ok (ak aa ao : Option Addr) (m l pk pa po q : Nat) (t : Int) (ks ads xs B : List Int) (w : World) (h24 : m ≤ 24) (ht : 0 ≤ t ∧ t ≤ 1000000000000)
    (hk : Row w .u8 (.slice ak 16 pk) ks) (ha : Row w .u8 (.slice aa m pa) ads) (ho : Row w .u8 (.slice ao l po) xs) (lk : ks.length = 16) (bk : Bytes ks)
    (hO : ∀ (w : World) (uk : Value), KRow w uk (keysV ks) → Row w .u8 (.slice aa m pa) ads → Row w .u8 (.slice ao l po) xs → Calls Try.prog 22 #[uk, .int .i64 0, .slice aa m pa, .slice ao l po] w fun e w' => ∃ r, e = .returned (.tuple #[r, .int .i64 0]) ∧ w'.ownsRow w.heap.size 5 1 r (8 + q) (B.map (Value.int .u8)) ∧ Below w.heap.size w w')
    (lB : B.length = 8 + q) (bB : Bytes B) (hq : q ≤ 8) (hb : 0 ≤ B.getD 0 0 ∧ B.getD 0 0 < 128) (hv : vals (B.take 8) ≤ t ∧ t - vals (B.take 8) ≤ 60000000) :
    Calls Try.prog 11 #[.slice ak 16 pk, .slice aa m pa, .int .i64 t, .slice ao l po] w fun e w' => ∃ r, e = .returned (.tuple #[r, .int .i64 0]) ∧ w'.ownsRow w.heap.size 5 1 r (B.drop 8).length ((B.drop 8).map (Value.int .u8)) ∧ Below w.heap.size w w' := by
  have HT : Hid _ := And.intro ht True.intro
  have HR : Hid _ := And.intro hk (And.intro ha ho)
  have HL : Hid _ := And.intro lk (And.intro bk True.intro)
  have HO : Hid _ := And.intro hO True.intro
  obtain ⟨x, ex⟩ : ∃ x, x = B.getD 0 0 := ⟨_, rfl⟩
  rw [← ex] at hb
  have HX : Hid _ := And.intro ex True.intro
  clear ex
  obtain ⟨tt, et⟩ : ∃ tt, tt = vals (B.take 8) := ⟨_, rfl⟩
  have hv0 : 0 ≤ tt := by rw [et]; exact vals_nonneg _ (bB.take 8)
  have VB : Hid _ := And.intro (bB.take 8) (And.intro (show vals (B.take 8) ≤ 9223372036854775807 by rw [← et]; rw [← et] at hv; omega) (And.intro lB et))
  rw [← et] at hv
  clear bB lB et
  clear ht hk ha ho lk bk hO
  go_enter Try.func11, Try.ntmps11
  go_wp2_with fail
  go_at_call 13
  refine (taS_t ak aa m pk pa t w h24 HT.out.1).mono ?_
  rintro e w2 ⟨rfl, rfl⟩
  go_wp2_with fail
  go_at_call 15
  refine (specKeysOf _ ks _ HR.out.1 HL.out.2.1 (by rw [HL.out.1]; decide)).mono ?_
  rintro e w1 ⟨vk, rfl, ok, b1⟩
  have H1 : Hid _ := And.intro ok b1
  have z1 : w2.heap.size ≤ w1.heap.size := b1.size
  clear ok b1
  go_wp2_with fail
  go_at_call 22
  refine (HO.out.1 _ _ (KOwns.row H1.out.1) (HR.out.2.1.below H1.out.2) (HR.out.2.2.below H1.out.2)).mono ?_
  rintro e w3 ⟨vb, rfl, ob, b3⟩
  obtain ⟨g, p, f, g0, g1⟩ := owns_shape ob (by omega)
  subst f
  obtain ⟨p1, p2⟩ := hm_cap ob
  have H3 : Hid _ := And.intro ob (H1.out.2.trans (b3.mono H1.out.2.size))
  have z3 : w2.heap.size ≤ w3.heap.size := H3.out.2.size
  have c0 := tcell ob 0 (by omega)
  rw [← HX.out.1] at c0
  clear ob b3
  have ht1 := HT.out.1
  obtain ⟨w4, ew4⟩ : ∃ w4, w4 = w3 := ⟨_, rfl⟩
  subst ew4
  have H4 : Hid _ := And.intro H3.out.1 H3.out.2
  go_wp2_with fail
  go_at_call 23
  refine (value_core 8 (B.take 8) g 0 p w4 (by decide) (by rw [List.length_take, VB.out.2.2.1] <;> omega) VB.out.1 VB.out.2.1 (fun j hj => by rw [Nat.zero_add, tcell H4.out.1 j (by omega)]; simp [List.getD, hj])).mono ?_
  rw [← VB.out.2.2.2]
  rintro e w5 ⟨rfl, hw⟩
  subst w5
  go_wp2_with fail
  all_goals (
    go_at_call 24
    refine (copyT _ (B.drop 8) _ (by first | exact tdrop H4.out.1 | exact tdrop0 H4.out.1 (by omega)) (by rw [List.length_drop, VB.out.2.2.1] <;> omega)).mono ?_
    rintro e w6 ⟨r6, rfl, o6, b6⟩
    have H6 : Hid _ := And.intro (owns_mono o6 H4.out.2.size) (H4.out.2.trans (b6.mono H4.out.2.size))
    clear o6 b6
    go_wp2
    go_ret2
    exact ⟨_, rfl, H6.out.1, H6.out.2⟩)
end Go.Proofs.Yteekpdmblododaa

namespace Go.Proofs.Yteekpdmblododaa
open Go.RowKit
set_option linter.unusedVariables false

theorem tcI_args (ak aa ao : Option Addr) (n m l pk pa po : Nat) (t : Int) (w : World) (hn : n ≤ 9223372036854775807) (hm : m ≤ 9223372036854775807) (h : ¬ tArg n m t) :
    Calls Try.prog 12 #[.slice ak n pk, .slice aa m pa, .int .i64 t, .slice ao l po] w fun e w' => ∃ r, e = .returned (.tuple #[r, .int .i64 1]) ∧ OwnP w' w.heap.size r 0 [] ∧ Below w.heap.size w w' := by
  have HA : Hid _ := And.intro h True.intro
  clear h
  go_enter Try.func12, Try.ntmps12
  go_wp2_with fail
  go_at_call 17
  refine (taI_f ak aa n m pk pa t w hn hm HA.out.1).mono ?_
  rintro e w2 ⟨rfl, rfl⟩
  go_wp2
  go_ret2
  exact ⟨_, rfl, OwnP.of (World.ownsRow_nil _ _ _ _), Below.refl _ _⟩
set_option maxRecDepth 20000 in
set_option maxHeartbeats 400000 in
theorem tcI_long (ak aa ao : Option Addr) (m l pk pa po q : Nat) (t : Int) (ks ads xs B : List Int) (w : World) (h24 : m ≤ 24) (ht : 0 ≤ t ∧ t ≤ 1000000000000)
    (hk : Row w .u8 (.slice ak 16 pk) ks) (ha : Row w .u8 (.slice aa m pa) ads) (ho : Row w .u8 (.slice ao l po) xs) (lk : ks.length = 16) (bk : Bytes ks)
    (hO : ∀ (w : World) (uk : Value), KRow w uk (keysV ks) → Row w .u8 (.slice aa m pa) ads → Row w .u8 (.slice ao l po) xs → Calls Try.prog 25 #[uk, .int .i64 0, .slice aa m pa, .slice ao l po] w fun e w' => ∃ r, e = .returned (.tuple #[r, .int .i64 0]) ∧ w'.ownsRow w.heap.size 5 1 r (8 + q) (B.map (Value.int .u8)) ∧ Below w.heap.size w w')
    (lB : B.length = 8 + q) (hq : 8 < q) (hx : q ≤ 1508) :
    Calls Try.prog 12 #[.slice ak 16 pk, .slice aa m pa, .int .i64 t, .slice ao l po] w fun e w' => ∃ r, e = .returned (.tuple #[r, .int .i64 13]) ∧ OwnP w' w.heap.size r 0 (([] : List Int)) ∧ Below w.heap.size w w' := by
  have HT : Hid _ := And.intro ht True.intro
  have HR : Hid _ := And.intro hk (And.intro ha ho)
  have HL : Hid _ := And.intro lk (And.intro bk True.intro)
  have HO : Hid _ := And.intro hO True.intro
  have VB : Hid _ := And.intro lB True.intro
  clear lB
  clear ht hk ha ho lk bk hO
  go_enter Try.func12, Try.ntmps12
  go_wp2_with fail
  go_at_call 17
  refine (taI_t ak aa m pk pa t w h24 HT.out.1).mono ?_
  rintro e w2 ⟨rfl, rfl⟩
  go_wp2_with fail
  go_at_call 20
  refine (implKeysOf _ ks _ HR.out.1 HL.out.2.1 (by rw [HL.out.1]; decide)).mono ?_
  rintro e w1 ⟨vk, rfl, ok, b1⟩
  have H1 : Hid _ := And.intro ok b1
  have z1 : w2.heap.size ≤ w1.heap.size := b1.size
  clear ok b1
  go_wp2_with fail
  go_at_call 25
  refine (HO.out.1 _ _ (KOwns.row H1.out.1) (HR.out.2.1.below H1.out.2) (HR.out.2.2.below H1.out.2)).mono ?_
  rintro e w3 ⟨vb, rfl, ob, b3⟩
  obtain ⟨g, p, f, g0, g1⟩ := owns_shape ob (by omega)
  subst f
  obtain ⟨p1, p2⟩ := hm_cap ob
  have H3 : Hid _ := And.intro ob (H1.out.2.trans (b3.mono H1.out.2.size))
  have z3 : w2.heap.size ≤ w3.heap.size := H3.out.2.size
  clear ob b3
  go_wp2_with fail
  go_at_call 18
  refine (icids _ [B.drop 8] _ (parts1 (tdrop H3.out.1) _) (by simp) (cids1_len (B.drop 8) (by rw [List.length_drop, VB.out.1]; omega))).mono ?_
  rw [cids1 q (B.drop 8) (by rw [List.length_drop, VB.out.1]; omega), decide_eq_false (by omega)]
  rintro e w' ⟨rfl, hw⟩
  subst w'
  go_wp2
  go_ret2
  exact ⟨_, rfl, OwnP.of (World.ownsRow_nil _ _ _ _), H3.out.2.alloc H3.out.2.size _⟩
set_option maxRecDepth 20000 in
set_option maxHeartbeats 400000 in
theorem tcI_code (ak aa ao : Option Addr) (m l pk pa po n : Nat) (t : Int) (ks ads xs B : List Int) (c : Int) (w : World) (h24 : m ≤ 24) (ht : 0 ≤ t ∧ t ≤ 1000000000000)
    (hk : Row w .u8 (.slice ak 16 pk) ks) (ha : Row w .u8 (.slice aa m pa) ads) (ho : Row w .u8 (.slice ao l po) xs) (lk : ks.length = 16) (bk : Bytes ks)
    (hO : ∀ (w : World) (uk : Value), KRow w uk (keysV ks) → Row w .u8 (.slice aa m pa) ads → Row w .u8 (.slice ao l po) xs → Calls Try.prog 25 #[uk, .int .i64 0, .slice aa m pa, .slice ao l po] w fun e w' => ∃ r, e = .returned (.tuple #[r, .int .i64 c]) ∧ w'.ownsRow w.heap.size 5 1 r (n) (B.map (Value.int .u8)) ∧ Below w.heap.size w w')
    (hn : n ≤ 1508) (hc : (c != 0) = true) :
    Calls Try.prog 12 #[.slice ak 16 pk, .slice aa m pa, .int .i64 t, .slice ao l po] w fun e w' => ∃ r, e = .returned (.tuple #[r, .int .i64 13]) ∧ OwnP w' w.heap.size r 0 (([] : List Int)) ∧ Below w.heap.size w w' := by
  have HT : Hid _ := And.intro ht True.intro
  have HR : Hid _ := And.intro hk (And.intro ha ho)
  have HL : Hid _ := And.intro lk (And.intro bk True.intro)
  have HO : Hid _ := And.intro hO True.intro
  skip
  clear ht hk ha ho lk bk hO
  go_enter Try.func12, Try.ntmps12
  go_wp2_with fail
  go_at_call 17
  refine (taI_t ak aa m pk pa t w h24 HT.out.1).mono ?_
  rintro e w2 ⟨rfl, rfl⟩
  go_wp2_with fail
  go_at_call 20
  refine (implKeysOf _ ks _ HR.out.1 HL.out.2.1 (by rw [HL.out.1]; decide)).mono ?_
  rintro e w1 ⟨vk, rfl, ok, b1⟩
  have H1 : Hid _ := And.intro ok b1
  have z1 : w2.heap.size ≤ w1.heap.size := b1.size
  clear ok b1
  go_wp2_with fail
  go_at_call 25
  refine (HO.out.1 _ _ (KOwns.row H1.out.1) (HR.out.2.1.below H1.out.2) (HR.out.2.2.below H1.out.2)).mono ?_
  rintro e w3 ⟨vb, rfl, ob, b3⟩
  obtain ⟨ab, cb, f⟩ := own_formT ob
  subst f
  have H3 : Hid _ := And.intro ob (H1.out.2.trans (b3.mono H1.out.2.size))
  have z3 : w2.heap.size ≤ w3.heap.size := H3.out.2.size
  clear ob b3
  go_wp2
  go_ret2
  exact ⟨_, rfl, OwnP.of (World.ownsRow_nil _ _ _ _), H3.out.2⟩
set_option maxRecDepth 20000 in
set_option maxHeartbeats 400000 in
theorem tcI_short (ak aa ao : Option Addr) (m l pk pa po n : Nat) (t : Int) (ks ads xs B : List Int) (w : World) (h24 : m ≤ 24) (ht : 0 ≤ t ∧ t ≤ 1000000000000)
    (hk : Row w .u8 (.slice ak 16 pk) ks) (ha : Row w .u8 (.slice aa m pa) ads) (ho : Row w .u8 (.slice ao l po) xs) (lk : ks.length = 16) (bk : Bytes ks)
    (hO : ∀ (w : World) (uk : Value), KRow w uk (keysV ks) → Row w .u8 (.slice aa m pa) ads → Row w .u8 (.slice ao l po) xs → Calls Try.prog 25 #[uk, .int .i64 0, .slice aa m pa, .slice ao l po] w fun e w' => ∃ r, e = .returned (.tuple #[r, .int .i64 0]) ∧ w'.ownsRow w.heap.size 5 1 r (n) (B.map (Value.int .u8)) ∧ Below w.heap.size w w')
    (hn : n < 8) :
    Calls Try.prog 12 #[.slice ak 16 pk, .slice aa m pa, .int .i64 t, .slice ao l po] w fun e w' => ∃ r, e = .returned (.tuple #[r, .int .i64 13]) ∧ OwnP w' w.heap.size r 0 (([] : List Int)) ∧ Below w.heap.size w w' := by
  have HT : Hid _ := And.intro ht True.intro
  have HR : Hid _ := And.intro hk (And.intro ha ho)
  have HL : Hid _ := And.intro lk (And.intro bk True.intro)
  have HO : Hid _ := And.intro hO True.intro
  skip
  clear ht hk ha ho lk bk hO
  go_enter Try.func12, Try.ntmps12
  go_wp2_with fail
  go_at_call 17
  refine (taI_t ak aa m pk pa t w h24 HT.out.1).mono ?_
  rintro e w2 ⟨rfl, rfl⟩
  go_wp2_with fail
  go_at_call 20
  refine (implKeysOf _ ks _ HR.out.1 HL.out.2.1 (by rw [HL.out.1]; decide)).mono ?_
  rintro e w1 ⟨vk, rfl, ok, b1⟩
  have H1 : Hid _ := And.intro ok b1
  have z1 : w2.heap.size ≤ w1.heap.size := b1.size
  clear ok b1
  go_wp2_with fail
  go_at_call 25
  refine (HO.out.1 _ _ (KOwns.row H1.out.1) (HR.out.2.1.below H1.out.2) (HR.out.2.2.below H1.out.2)).mono ?_
  rintro e w3 ⟨vb, rfl, ob, b3⟩
  obtain ⟨ab, cb, f⟩ := own_formT ob
  subst f
  have H3 : Hid _ := And.intro ob (H1.out.2.trans (b3.mono H1.out.2.size))
  have z3 : w2.heap.size ≤ w3.heap.size := H3.out.2.size
  clear ob b3
  go_wp2
  go_ret2
  exact ⟨_, rfl, OwnP.of (World.ownsRow_nil _ _ _ _), H3.out.2⟩
set_option maxRecDepth 20000 in
set_option maxHeartbeats 400000 in
theorem tcI_early (ak aa ao : Option Addr) (m l pk pa po q : Nat) (t : Int) (ks ads xs B : List Int) (w : World) (h24 : m ≤ 24) (ht : 0 ≤ t ∧ t ≤ 1000000000000)
    (hk : Row w .u8 (.slice ak 16 pk) ks) (ha : Row w .u8 (.slice aa m pa) ads) (ho : Row w .u8 (.slice ao l po) xs) (lk : ks.length = 16) (bk : Bytes ks)
    (hO : ∀ (w : World) (uk : Value), KRow w uk (keysV ks) → Row w .u8 (.slice aa m pa) ads → Row w .u8 (.slice ao l po) xs → Calls Try.prog 25 #[uk, .int .i64 0, .slice aa m pa, .slice ao l po] w fun e w' => ∃ r, e = .returned (.tuple #[r, .int .i64 0]) ∧ w'.ownsRow w.heap.size 5 1 r (8 + q) (B.map (Value.int .u8)) ∧ Below w.heap.size w w')
    (lB : B.length = 8 + q) (bB : Bytes B) (hq : q ≤ 8)  (hv : t < vals (B.take 8)) :
    Calls Try.prog 12 #[.slice ak 16 pk, .slice aa m pa, .int .i64 t, .slice ao l po] w fun e w' => ∃ r, e = .returned (.tuple #[r, .int .i64 13]) ∧ OwnP w' w.heap.size r 0 (([] : List Int)) ∧ Below w.heap.size w w' := by
  have HT : Hid _ := And.intro ht True.intro
  have HR : Hid _ := And.intro hk (And.intro ha ho)
  have HL : Hid _ := And.intro lk (And.intro bk True.intro)
  have HO : Hid _ := And.intro hO True.intro
  obtain ⟨tt, et⟩ : ∃ tt, tt = vals (B.take 8) := ⟨_, rfl⟩
  have hv0 : 0 ≤ tt := by rw [et]; exact vals_nonneg _ (bB.take 8)
  have VB : Hid _ := And.intro (bB.take 8) (And.intro True.intro (And.intro lB et))
  rw [← et] at hv
  clear bB lB et
  clear ht hk ha ho lk bk hO
  go_enter Try.func12, Try.ntmps12
  go_wp2_with fail
  go_at_call 17
  refine (taI_t ak aa m pk pa t w h24 HT.out.1).mono ?_
  rintro e w2 ⟨rfl, rfl⟩
  go_wp2_with fail
  go_at_call 20
  refine (implKeysOf _ ks _ HR.out.1 HL.out.2.1 (by rw [HL.out.1]; decide)).mono ?_
  rintro e w1 ⟨vk, rfl, ok, b1⟩
  have H1 : Hid _ := And.intro ok b1
  have z1 : w2.heap.size ≤ w1.heap.size := b1.size
  clear ok b1
  go_wp2_with fail
  go_at_call 25
  refine (HO.out.1 _ _ (KOwns.row H1.out.1) (HR.out.2.1.below H1.out.2) (HR.out.2.2.below H1.out.2)).mono ?_
  rintro e w3 ⟨vb, rfl, ob, b3⟩
  obtain ⟨g, p, f, g0, g1⟩ := owns_shape ob (by omega)
  subst f
  obtain ⟨p1, p2⟩ := hm_cap ob
  have H3 : Hid _ := And.intro ob (H1.out.2.trans (b3.mono H1.out.2.size))
  have z3 : w2.heap.size ≤ w3.heap.size := H3.out.2.size
  clear ob b3
  by_cases hp8 : p = 8
  · subst hp8
    obtain rfl : q = 0 := by omega
    go_wp2_with fail
    go_at_call 18
    refine (icids _ [B.drop 8] _ (parts1 (tdrop0 H3.out.1 rfl) _) (by simp) (cids1_len (B.drop 8) (by rw [List.length_drop, VB.out.2.2.1] <;> omega))).mono ?_
    rw [cids1 0 (B.drop 8) (by rw [List.length_drop, VB.out.2.2.1] <;> omega), decide_eq_true hq]
    rintro e w' ⟨rfl, hw⟩
    subst w'
    have C3 : Below w3.heap.size w3 (w3.alloc (.cells #[.slice (some ⟨g, 0, none⟩) 0 0] 22)) := (Below.refl _ _).alloc (Nat.le_refl _) _
    obtain ⟨w4, ew4⟩ : ∃ w4, w4 = w3.alloc (.cells #[.slice (some ⟨g, 0, none⟩) 0 0] 22) := ⟨_, rfl⟩
    rw [← ew4] at C3 ⊢
    have H4 : Hid _ := And.intro (owns_below H3.out.1 C3) (H3.out.2.trans (C3.mono H3.out.2.size))
    have z4 : w2.heap.size ≤ w4.heap.size := H4.out.2.size
    clear C3 ew4
    go_wp2_with fail
    go_at_call 26
    refine (read_core 8 (B.take 8) g 0 8 w4 (by decide) (by rw [List.length_take, VB.out.2.2.1] <;> omega) VB.out.1 (fun j hj => by rw [Nat.zero_add, tcell H4.out.1 j (by omega)]; simp [List.getD, hj])).mono ?_
    rw [← VB.out.2.2.2]
    rintro e w5 ⟨rfl, hw⟩
    subst w5
    have u1 : IntKind.u64.wrap t = t := by rw [IntKind.wrap_u64]; have := HT.out.1; omega
    go_wp2
    go_ret2
    exact ⟨_, rfl, OwnP.of (World.ownsRow_nil _ _ _ _), H4.out.2⟩
  · skip
    go_wp2_with fail
    go_at_call 18
    refine (icids _ [B.drop 8] _ (parts1 (tdrop H3.out.1) _) (by simp) (cids1_len (B.drop 8) (by rw [List.length_drop, VB.out.2.2.1] <;> omega))).mono ?_
    rw [cids1 q (B.drop 8) (by rw [List.length_drop, VB.out.2.2.1] <;> omega), decide_eq_true hq]
    rintro e w' ⟨rfl, hw⟩
    subst w'
    have C3 : Below w3.heap.size w3 (w3.alloc (.cells #[.slice (some ⟨g, 8, none⟩) q (p - 8)] 22)) := (Below.refl _ _).alloc (Nat.le_refl _) _
    obtain ⟨w4, ew4⟩ : ∃ w4, w4 = w3.alloc (.cells #[.slice (some ⟨g, 8, none⟩) q (p - 8)] 22) := ⟨_, rfl⟩
    rw [← ew4] at C3 ⊢
    have H4 : Hid _ := And.intro (owns_below H3.out.1 C3) (H3.out.2.trans (C3.mono H3.out.2.size))
    have z4 : w2.heap.size ≤ w4.heap.size := H4.out.2.size
    clear C3 ew4
    go_wp2_with fail
    go_at_call 26
    refine (read_core 8 (B.take 8) g 0 p w4 (by decide) (by rw [List.length_take, VB.out.2.2.1] <;> omega) VB.out.1 (fun j hj => by rw [Nat.zero_add, tcell H4.out.1 j (by omega)]; simp [List.getD, hj])).mono ?_
    rw [← VB.out.2.2.2]
    rintro e w5 ⟨rfl, hw⟩
    subst w5
    have u1 : IntKind.u64.wrap t = t := by rw [IntKind.wrap_u64]; have := HT.out.1; omega
    go_wp2
    go_ret2
    exact ⟨_, rfl, OwnP.of (World.ownsRow_nil _ _ _ _), H4.out.2⟩
set_option maxRecDepth 20000 in
set_option maxHeartbeats 400000 in
theorem tcI_late (ak aa ao : Option Addr) (m l pk pa po q : Nat) (t : Int) (ks ads xs B : List Int) (w : World) (h24 : m ≤ 24) (ht : 0 ≤ t ∧ t ≤ 1000000000000)
    (hk : Row w .u8 (.slice ak 16 pk) ks) (ha : Row w .u8 (.slice aa m pa) ads) (ho : Row w .u8 (.slice ao l po) xs) (lk : ks.length = 16) (bk : Bytes ks)
    (hO : ∀ (w : World) (uk : Value), KRow w uk (keysV ks) → Row w .u8 (.slice aa m pa) ads → Row w .u8 (.slice ao l po) xs → Calls Try.prog 25 #[uk, .int .i64 0, .slice aa m pa, .slice ao l po] w fun e w' => ∃ r, e = .returned (.tuple #[r, .int .i64 0]) ∧ w'.ownsRow w.heap.size 5 1 r (8 + q) (B.map (Value.int .u8)) ∧ Below w.heap.size w w')
    (lB : B.length = 8 + q) (bB : Bytes B) (hq : q ≤ 8)  (hv : vals (B.take 8) ≤ t ∧ 60000000 < t - vals (B.take 8)) :
    Calls Try.prog 12 #[.slice ak 16 pk, .slice aa m pa, .int .i64 t, .slice ao l po] w fun e w' => ∃ r, e = .returned (.tuple #[r, .int .i64 13]) ∧ OwnP w' w.heap.size r 0 (([] : List Int)) ∧ Below w.heap.size w w' := by
  have HT : Hid _ := And.intro ht True.intro
  have HR : Hid _ := And.intro hk (And.intro ha ho)
  have HL : Hid _ := And.intro lk (And.intro bk True.intro)
  have HO : Hid _ := And.intro hO True.intro
  obtain ⟨tt, et⟩ : ∃ tt, tt = vals (B.take 8) := ⟨_, rfl⟩
  have hv0 : 0 ≤ tt := by rw [et]; exact vals_nonneg _ (bB.take 8)
  have VB : Hid _ := And.intro (bB.take 8) (And.intro True.intro (And.intro lB et))
  rw [← et] at hv
  clear bB lB et
  clear ht hk ha ho lk bk hO
  go_enter Try.func12, Try.ntmps12
  go_wp2_with fail
  go_at_call 17
  refine (taI_t ak aa m pk pa t w h24 HT.out.1).mono ?_
  rintro e w2 ⟨rfl, rfl⟩
  go_wp2_with fail
  go_at_call 20
  refine (implKeysOf _ ks _ HR.out.1 HL.out.2.1 (by rw [HL.out.1]; decide)).mono ?_
  rintro e w1 ⟨vk, rfl, ok, b1⟩
  have H1 : Hid _ := And.intro ok b1
  have z1 : w2.heap.size ≤ w1.heap.size := b1.size
  clear ok b1
  go_wp2_with fail
  go_at_call 25
  refine (HO.out.1 _ _ (KOwns.row H1.out.1) (HR.out.2.1.below H1.out.2) (HR.out.2.2.below H1.out.2)).mono ?_
  rintro e w3 ⟨vb, rfl, ob, b3⟩
  obtain ⟨g, p, f, g0, g1⟩ := owns_shape ob (by omega)
  subst f
  obtain ⟨p1, p2⟩ := hm_cap ob
  have H3 : Hid _ := And.intro ob (H1.out.2.trans (b3.mono H1.out.2.size))
  have z3 : w2.heap.size ≤ w3.heap.size := H3.out.2.size
  clear ob b3
  have ht1 := HT.out.1
  by_cases hp8 : p = 8
  · subst hp8
    obtain rfl : q = 0 := by omega
    go_wp2_with fail
    go_at_call 18
    refine (icids _ [B.drop 8] _ (parts1 (tdrop0 H3.out.1 rfl) _) (by simp) (cids1_len (B.drop 8) (by rw [List.length_drop, VB.out.2.2.1] <;> omega))).mono ?_
    rw [cids1 0 (B.drop 8) (by rw [List.length_drop, VB.out.2.2.1] <;> omega), decide_eq_true hq]
    rintro e w' ⟨rfl, hw⟩
    subst w'
    have C3 : Below w3.heap.size w3 (w3.alloc (.cells #[.slice (some ⟨g, 0, none⟩) 0 0] 22)) := (Below.refl _ _).alloc (Nat.le_refl _) _
    obtain ⟨w4, ew4⟩ : ∃ w4, w4 = w3.alloc (.cells #[.slice (some ⟨g, 0, none⟩) 0 0] 22) := ⟨_, rfl⟩
    rw [← ew4] at C3 ⊢
    have H4 : Hid _ := And.intro (owns_below H3.out.1 C3) (H3.out.2.trans (C3.mono H3.out.2.size))
    have z4 : w2.heap.size ≤ w4.heap.size := H4.out.2.size
    clear C3 ew4
    go_wp2_with fail
    go_at_call 26
    refine (read_core 8 (B.take 8) g 0 8 w4 (by decide) (by rw [List.length_take, VB.out.2.2.1] <;> omega) VB.out.1 (fun j hj => by rw [Nat.zero_add, tcell H4.out.1 j (by omega)]; simp [List.getD, hj])).mono ?_
    rw [← VB.out.2.2.2]
    rintro e w5 ⟨rfl, hw⟩
    subst w5
    have u1 : IntKind.u64.wrap t = t := by rw [IntKind.wrap_u64]; have := HT.out.1; omega
    have u2 : IntKind.u64.wrap (t - tt) = t - tt := by rw [IntKind.wrap_u64]; have := HT.out.1; omega
    go_wp2
    go_ret2
    exact ⟨_, rfl, OwnP.of (World.ownsRow_nil _ _ _ _), H4.out.2⟩
  · skip
    go_wp2_with fail
    go_at_call 18
    refine (icids _ [B.drop 8] _ (parts1 (tdrop H3.out.1) _) (by simp) (cids1_len (B.drop 8) (by rw [List.length_drop, VB.out.2.2.1] <;> omega))).mono ?_
    rw [cids1 q (B.drop 8) (by rw [List.length_drop, VB.out.2.2.1] <;> omega), decide_eq_true hq]
    rintro e w' ⟨rfl, hw⟩
    subst w'
    have C3 : Below w3.heap.size w3 (w3.alloc (.cells #[.slice (some ⟨g, 8, none⟩) q (p - 8)] 22)) := (Below.refl _ _).alloc (Nat.le_refl _) _
    obtain ⟨w4, ew4⟩ : ∃ w4, w4 = w3.alloc (.cells #[.slice (some ⟨g, 8, none⟩) q (p - 8)] 22) := ⟨_, rfl⟩
    rw [← ew4] at C3 ⊢
    have H4 : Hid _ := And.intro (owns_below H3.out.1 C3) (H3.out.2.trans (C3.mono H3.out.2.size))
    have z4 : w2.heap.size ≤ w4.heap.size := H4.out.2.size
    clear C3 ew4
    go_wp2_with fail
    go_at_call 26
    refine (read_core 8 (B.take 8) g 0 p w4 (by decide) (by rw [List.length_take, VB.out.2.2.1] <;> omega) VB.out.1 (fun j hj => by rw [Nat.zero_add, tcell H4.out.1 j (by omega)]; simp [List.getD, hj])).mono ?_
    rw [← VB.out.2.2.2]
    rintro e w5 ⟨rfl, hw⟩
    subst w5
    have u1 : IntKind.u64.wrap t = t := by rw [IntKind.wrap_u64]; have := HT.out.1; omega
    have u2 : IntKind.u64.wrap (t - tt) = t - tt := by rw [IntKind.wrap_u64]; have := HT.out.1; omega
    go_wp2
    go_ret2
    exact ⟨_, rfl, OwnP.of (World.ownsRow_nil _ _ _ _), H4.out.2⟩
set_option maxRecDepth 20000 in
set_option maxHeartbeats 400000 in
theorem tcI_ok (ak aa ao : Option Addr) (m l pk pa po q : Nat) (t : Int) (ks ads xs B : List Int) (w : World) (h24 : m ≤ 24) (ht : 0 ≤ t ∧ t ≤ 1000000000000)
    (hk : Row w .u8 (.slice ak 16 pk) ks) (ha : Row w .u8 (.slice aa m pa) ads) (ho : Row w .u8 (.slice ao l po) xs) (lk : ks.length = 16) (bk : Bytes ks)
    (hO : ∀ (w : World) (uk : Value), KRow w uk (keysV ks) → Row w .u8 (.slice aa m pa) ads → Row w .u8 (.slice ao l po) xs → Calls Try.prog 25 #[uk, .int .i64 0, .slice aa m pa, .slice ao l po] w fun e w' => ∃ r, e = .returned (.tuple #[r, .int .i64 0]) ∧ w'.ownsRow w.heap.size 5 1 r (8 + q) (B.map (Value.int .u8)) ∧ Below w.heap.size w w')
    (lB : B.length = 8 + q) (bB : Bytes B) (hq : q ≤ 8)  (hv : vals (B.take 8) ≤ t ∧ t - vals (B.take 8) ≤ 60000000) :
    Calls Try.prog 12 #[.slice ak 16 pk, .slice aa m pa, .int .i64 t, .slice ao l po] w fun e w' => ∃ r, e = .returned (.tuple #[r, .int .i64 0]) ∧ OwnP w' w.heap.size r (B.drop 8).length (B.drop 8) ∧ Below w.heap.size w w' := by
  have HT : Hid _ := And.intro ht True.intro
  have HR : Hid _ := And.intro hk (And.intro ha ho)
  have HL : Hid _ := And.intro lk (And.intro bk True.intro)
  have HO : Hid _ := And.intro hO True.intro
  obtain ⟨tt, et⟩ : ∃ tt, tt = vals (B.take 8) := ⟨_, rfl⟩
  have hv0 : 0 ≤ tt := by rw [et]; exact vals_nonneg _ (bB.take 8)
  have VB : Hid _ := And.intro (bB.take 8) (And.intro True.intro (And.intro lB et))
  rw [← et] at hv
  clear bB lB et
  clear ht hk ha ho lk bk hO
  go_enter Try.func12, Try.ntmps12
  go_wp2_with fail
  go_at_call 17
  refine (taI_t ak aa m pk pa t w h24 HT.out.1).mono ?_
  rintro e w2 ⟨rfl, rfl⟩
  go_wp2_with fail
  go_at_call 20
  refine (implKeysOf _ ks _ HR.out.1 HL.out.2.1 (by rw [HL.out.1]; decide)).mono ?_
  rintro e w1 ⟨vk, rfl, ok, b1⟩
  have H1 : Hid _ := And.intro ok b1
  have z1 : w2.heap.size ≤ w1.heap.size := b1.size
  clear ok b1
  go_wp2_with fail
  go_at_call 25
  refine (HO.out.1 _ _ (KOwns.row H1.out.1) (HR.out.2.1.below H1.out.2) (HR.out.2.2.below H1.out.2)).mono ?_
  rintro e w3 ⟨vb, rfl, ob, b3⟩
  obtain ⟨g, p, f, g0, g1⟩ := owns_shape ob (by omega)
  subst f
  obtain ⟨p1, p2⟩ := hm_cap ob
  have H3 : Hid _ := And.intro ob (H1.out.2.trans (b3.mono H1.out.2.size))
  have z3 : w2.heap.size ≤ w3.heap.size := H3.out.2.size
  clear ob b3
  have ht1 := HT.out.1
  by_cases hp8 : p = 8
  · subst hp8
    obtain rfl : q = 0 := by omega
    go_wp2_with fail
    go_at_call 18
    refine (icids _ [B.drop 8] _ (parts1 (tdrop0 H3.out.1 rfl) _) (by simp) (cids1_len (B.drop 8) (by rw [List.length_drop, VB.out.2.2.1] <;> omega))).mono ?_
    rw [cids1 0 (B.drop 8) (by rw [List.length_drop, VB.out.2.2.1] <;> omega), decide_eq_true hq]
    rintro e w' ⟨rfl, hw⟩
    subst w'
    have C3 : Below w3.heap.size w3 (w3.alloc (.cells #[.slice (some ⟨g, 0, none⟩) 0 0] 22)) := (Below.refl _ _).alloc (Nat.le_refl _) _
    obtain ⟨w4, ew4⟩ : ∃ w4, w4 = w3.alloc (.cells #[.slice (some ⟨g, 0, none⟩) 0 0] 22) := ⟨_, rfl⟩
    rw [← ew4] at C3 ⊢
    have H4 : Hid _ := And.intro (owns_below H3.out.1 C3) (H3.out.2.trans (C3.mono H3.out.2.size))
    have z4 : w2.heap.size ≤ w4.heap.size := H4.out.2.size
    clear C3 ew4
    go_wp2_with fail
    go_at_call 26
    refine (read_core 8 (B.take 8) g 0 8 w4 (by decide) (by rw [List.length_take, VB.out.2.2.1] <;> omega) VB.out.1 (fun j hj => by rw [Nat.zero_add, tcell H4.out.1 j (by omega)]; simp [List.getD, hj])).mono ?_
    rw [← VB.out.2.2.2]
    rintro e w5 ⟨rfl, hw⟩
    subst w5
    have u1 : IntKind.u64.wrap t = t := by rw [IntKind.wrap_u64]; have := HT.out.1; omega
    have u2 : IntKind.u64.wrap (t - tt) = t - tt := by rw [IntKind.wrap_u64]; have := HT.out.1; omega
    go_wp2
    go_ret2
    refine ⟨_, rfl, ?_, H4.out.2⟩
    rw [show (B.drop 8).length = 0 by rw [List.length_drop, VB.out.2.2.1] <;> omega]
    rw [List.drop_eq_nil_of_le (by rw [VB.out.2.2.1] <;> omega)]
    exact Or.inr ⟨g, 0, 0, _, [], rfl, owns_mono (owns0 H4.out.1) z1, rfl, by omega, by decide⟩
  · skip
    go_wp2_with fail
    go_at_call 18
    refine (icids _ [B.drop 8] _ (parts1 (tdrop H3.out.1) _) (by simp) (cids1_len (B.drop 8) (by rw [List.length_drop, VB.out.2.2.1] <;> omega))).mono ?_
    rw [cids1 q (B.drop 8) (by rw [List.length_drop, VB.out.2.2.1] <;> omega), decide_eq_true hq]
    rintro e w' ⟨rfl, hw⟩
    subst w'
    have C3 : Below w3.heap.size w3 (w3.alloc (.cells #[.slice (some ⟨g, 8, none⟩) q (p - 8)] 22)) := (Below.refl _ _).alloc (Nat.le_refl _) _
    obtain ⟨w4, ew4⟩ : ∃ w4, w4 = w3.alloc (.cells #[.slice (some ⟨g, 8, none⟩) q (p - 8)] 22) := ⟨_, rfl⟩
    rw [← ew4] at C3 ⊢
    have H4 : Hid _ := And.intro (owns_below H3.out.1 C3) (H3.out.2.trans (C3.mono H3.out.2.size))
    have z4 : w2.heap.size ≤ w4.heap.size := H4.out.2.size
    clear C3 ew4
    go_wp2_with fail
    go_at_call 26
    refine (read_core 8 (B.take 8) g 0 p w4 (by decide) (by rw [List.length_take, VB.out.2.2.1] <;> omega) VB.out.1 (fun j hj => by rw [Nat.zero_add, tcell H4.out.1 j (by omega)]; simp [List.getD, hj])).mono ?_
    rw [← VB.out.2.2.2]
    rintro e w5 ⟨rfl, hw⟩
    subst w5
    have u1 : IntKind.u64.wrap t = t := by rw [IntKind.wrap_u64]; have := HT.out.1; omega
    have u2 : IntKind.u64.wrap (t - tt) = t - tt := by rw [IntKind.wrap_u64]; have := HT.out.1; omega
    go_wp2
    go_ret2
    refine ⟨_, rfl, ?_, H4.out.2⟩
    rw [show (B.drop 8).length = q by rw [List.length_drop, VB.out.2.2.1] <;> omega]
    exact Or.inr ⟨g, 8, p - 8, p, B, rfl, owns_mono H4.out.1 z1, rfl, by omega, by unfold maxLen; omega⟩
end Go.Proofs.Yteekpdmblododaa

namespace Go.Proofs.Yteekpdmblododaa
open Go.RowKit
set_option linter.unusedVariables false

/-- What OpenSealed answers to a token, and its code. -/
def tkO (ks ads xs : List Int) : List Int × Int :=
  if 1508 < ads.length + xs.length then ([], 4) else if xs.length < 8 then ([], 2) else
  if tagV (keysV ks).b (nonV (keysV ks) 0) ads (xs.take (xs.length - 8)) = xs.drop (xs.length - 8) then (overV (keysV ks) 0 (xs.take (xs.length - 8)), 0) else ([], 5)
theorem tkO_len (ks ads xs : List Int) : (tkO ks ads xs).1.length ≤ 1508 := by
  unfold tkO
  split
  · simp
  · split
    · simp
    · split
      · simp only [overV_length, List.length_take]; omega
      · simp
theorem tkO_bytes (ks ads xs : List Int) : Bytes (tkO ks ads xs).1 := by
  have hn : Bytes ([] : List Int) := fun x hx => by cases hx
  unfold tkO
  split
  · exact hn
  · split
    · exact hn
    · split
      · exact xl_bytes _ _ _
      · exact hn
theorem tkO_spec (ks ads xs : List Int) (w : World) (uk ua ux : Value) (lk : ks.length = 16) (bk : Bytes ks) (ba : Bytes ads) (bx : Bytes xs) (ha : ads.length ≤ 1099511627776) (hx : xs.length ≤ 1099511627776)
    (rk : KRow w uk (keysV ks)) (ra : Row w .u8 ua ads) (rx : Row w .u8 ux xs) :
    Calls Try.prog 22 #[uk, .int .i64 0, ua, ux] w fun e w' => ∃ r, e = .returned (.tuple #[r, .int .i64 (tkO ks ads xs).2]) ∧ w'.ownsRow w.heap.size 5 1 r (tkO ks ads xs).1.length ((tkO ks ads xs).1.map (Value.int .u8)) ∧ Below w.heap.size w w' := by
  have hk := keysV_kok ks lk
  have kb := keysV_bytes ks bk
  obtain ⟨ao2, cp2, rfl⟩ := ra.form
  unfold tkO
  by_cases hl : 1508 < ads.length + xs.length
  · rw [if_pos hl]
    obtain ⟨ao3, cp3, rfl⟩ := rx.form
    exact open_long uk ao2 ao3 _ _ cp2 cp3 (keysV ks) 0 w rk hk (by decide) (by decide) hl ha hx
  · rw [if_neg hl]
    by_cases h8 : xs.length < 8
    · rw [if_pos h8]
      obtain ⟨ao3, cp3, rfl⟩ := rx.form
      exact open_short uk ao2 ao3 _ _ cp2 cp3 (keysV ks) 0 w rk hk (by decide) (by decide) (by omega) h8 ha hx
    · rw [if_neg h8]
      obtain ⟨n, hN⟩ : ∃ n, xs.length = n + 8 := ⟨xs.length - 8, by omega⟩
      obtain ⟨b, off, cp3, rfl, _⟩ := rx.at (by omega)
      have en : xs.length - 8 = n := by omega
      rw [en]
      by_cases hc : tagV (keysV ks).b (nonV (keysV ks) 0) ads (xs.take n) = xs.drop n
      · rw [if_pos hc]
        rw [hN] at rx ⊢
        exact open_right uk ao2 cp2 b off n cp3 (keysV ks) 0 ads xs w rk kb hk (by decide) (by decide) hN (by omega) ra rx ba bx hc
      · rw [if_neg hc]
        rw [hN] at rx ⊢
        exact open_wrong uk ao2 cp2 b off n cp3 (keysV ks) 0 ads xs w rk kb hk (by decide) (by decide) hN (by omega) ra rx ba bx hc
theorem tkO_impl (ks ads xs : List Int) (w : World) (uk ua ux : Value) (lk : ks.length = 16) (bk : Bytes ks) (ba : Bytes ads) (bx : Bytes xs) (ha : ads.length ≤ 1099511627776) (hx : xs.length ≤ 1099511627776)
    (rk : KRow w uk (keysV ks)) (ra : Row w .u8 ua ads) (rx : Row w .u8 ux xs) :
    Calls Try.prog 25 #[uk, .int .i64 0, ua, ux] w fun e w' => ∃ r, e = .returned (.tuple #[r, .int .i64 (tkO ks ads xs).2]) ∧ w'.ownsRow w.heap.size 5 1 r (tkO ks ads xs).1.length ((tkO ks ads xs).1.map (Value.int .u8)) ∧ Below w.heap.size w w' := by
  have hk := keysV_kok ks lk
  have kb := keysV_bytes ks bk
  obtain ⟨ao2, cp2, rfl⟩ := ra.form
  unfold tkO
  by_cases hl : 1508 < ads.length + xs.length
  · rw [if_pos hl]
    obtain ⟨ao3, cp3, rfl⟩ := rx.form
    exact iopen_long uk ao2 ao3 _ _ cp2 cp3 (keysV ks) 0 w rk hk (by decide) (by decide) hl ha hx
  · rw [if_neg hl]
    by_cases h8 : xs.length < 8
    · rw [if_pos h8]
      obtain ⟨ao3, cp3, rfl⟩ := rx.form
      exact iopen_short uk ao2 ao3 _ _ cp2 cp3 (keysV ks) 0 w rk hk (by decide) (by decide) (by omega) h8 ha hx
    · rw [if_neg h8]
      obtain ⟨n, hN⟩ : ∃ n, xs.length = n + 8 := ⟨xs.length - 8, by omega⟩
      obtain ⟨b, off, cp3, rfl, _⟩ := rx.at (by omega)
      have en : xs.length - 8 = n := by omega
      rw [en]
      by_cases hc : tagV (keysV ks).b (nonV (keysV ks) 0) ads (xs.take n) = xs.drop n
      · rw [if_pos hc]
        rw [hN] at rx ⊢
        exact iopen_right uk ao2 cp2 b off n cp3 (keysV ks) 0 ads xs w rk kb hk (by decide) (by decide) hN (by omega) ra rx ba bx hc
      · rw [if_neg hc]
        rw [hN] at rx ⊢
        exact iopen_wrong uk ao2 cp2 b off n cp3 (keysV ks) 0 ads xs w rk kb hk (by decide) (by decide) hN (by omega) ra rx ba bx hc
/-- The time that a body tells, where its first byte is 128 or more, is above every time. -/
theorem vals_high (B : List Int) (bB : Bytes B) (l : 8 ≤ B.length) (h : 128 ≤ B.getD 0 0) : 9223372036854775807 < vals (B.take 8) := by
  match B, l with
  | b0 :: b1 :: b2 :: b3 :: b4 :: b5 :: b6 :: b7 :: rest, _ =>
    have g (i : Nat) := bB.at i
    have := g 1; have := g 2; have := g 3; have := g 4; have := g 5; have := g 6; have := g 7
    simp [List.getD] at *
    simp [vals]
    omega
theorem vals_low (B : List Int) (bB : Bytes B) (l : 8 ≤ B.length) (h : B.getD 0 0 < 128) : vals (B.take 8) ≤ 9223372036854775807 := by
  match B, l with
  | b0 :: b1 :: b2 :: b3 :: b4 :: b5 :: b6 :: b7 :: rest, _ =>
    have g (i : Nat) := bB.at i
    have := g 1; have := g 2; have := g 3; have := g 4; have := g 5; have := g 6; have := g 7
    simp [List.getD] at *
    simp [vals]
    omega

theorem fnExactTokenCheck_walk (v0 : Value) (x0 : List Int) (v1 : Value) (x1 : List Int) (a2 : Int) (v3 : Value) (x3 : List Int) (l0 : x0.length ≤ maxLen) (wf0 : ∀ x ∈ x0, (Lit.int .u8 x).wf = true) (l1 : x1.length ≤ maxLen) (wf1 : ∀ x ∈ x1, (Lit.int .u8 x).wf = true) (wf2 : (Lit.int .i64 a2).wf = true) (l3 : x3.length ≤ maxLen) (wf3 : ∀ x ∈ x3, (Lit.int .u8 x).wf = true)
    (w : World) (row0 : Row w .u8 v0 x0) (row1 : Row w .u8 v1 x1) (row3 : Row w .u8 v3 x3) :
    Calls Try.prog 4 #[v0, v1, .int .i64 a2, v3] w fun e w' => e = .returned (.bool true) ∧ Below w.heap.size w w' := by
  have b0 := bytes_of_wf wf0
  have b1 := bytes_of_wf wf1
  have b3 := bytes_of_wf wf3
  have m0 : x0.length ≤ 9223372036854775807 := by have h := l0; unfold maxLen at h; omega
  have m1 : x1.length ≤ 9223372036854775807 := by have h := l1; unfold maxLen at h; omega
  have m3 : x3.length ≤ 9223372036854775807 := by have h := l3; unfold maxLen at h; omega
  by_cases hk : tArg x0.length x1.length a2
  · obtain ⟨h16, h24, ht⟩ := hk
    by_cases g3 : 1048576 < x3.length
    · obtain ⟨ao0, cp0, rfl⟩ := row0.form
      obtain ⟨ao1, cp1, rfl⟩ := row1.form
      obtain ⟨ao3, cp3, rfl⟩ := row3.form
      exact tokenCheck_huge3 ao0 _ cp0 ao1 _ cp1 a2 ao3 _ cp3 w (by omega) (by omega) g3 m3
    have OS := fun (w : World) (uk ua ux : Value) (rk : KRow w uk (keysV x0)) (ra : Row w .u8 ua x1) (rx : Row w .u8 ux x3) => tkO_spec x0 x1 x3 w uk ua ux h16 b0 b1 b3 (by omega) (by omega) rk ra rx
    have OI := fun (w : World) (uk ua ux : Value) (rk : KRow w uk (keysV x0)) (ra : Row w .u8 ua x1) (rx : Row w .u8 ux x3) => tkO_impl x0 x1 x3 w uk ua ux h16 b0 b1 b3 (by omega) (by omega) rk ra rx
    have lB := tkO_len x0 x1 x3
    have bB := tkO_bytes x0 x1 x3
    obtain ⟨z, ez⟩ : ∃ z : List Int × Int, z = tkO x0 x1 x3 := ⟨_, rfl⟩
    rw [← ez] at OS OI lB bB
    clear ez
    obtain ⟨B, c⟩ := z
    simp only at OS OI lB bB
    by_cases hc : c = 0
    · subst hc
      by_cases h8 : B.length < 8
      · skip
        refine tokenCheck_walkOf v0 x0 v1 x1 a2 v3 x3 [] 13 w (fun _ => True) (fun _ _ => trivial) l0 wf0 l1 wf1 wf2 l3 wf3 row0 row1 row3 (by simp) ?_ ?_
        · intro w u0 u1 u3 r0 r1 r3
          obtain ⟨ao0, cp0, rfl⟩ := r0.form
          obtain ⟨ao1, cp1, rfl⟩ := r1.form
          obtain ⟨ao3, cp3, rfl⟩ := r3.form
          rw [h16] at r0 ⊢
          exact tcS_short ao0 ao1 ao3 _ _ cp0 cp1 cp3 _ a2 x0 x1 x3 B w h24 ht r0 r1 r3 h16 b0 (fun w uk rk ra rx => OS w uk _ _ rk ra rx) h8
        · intro w u0 u1 u3 _ r0 r1 r3
          obtain ⟨ao0, cp0, rfl⟩ := r0.form
          obtain ⟨ao1, cp1, rfl⟩ := r1.form
          obtain ⟨ao3, cp3, rfl⟩ := r3.form
          rw [h16] at r0 ⊢
          exact tcI_short ao0 ao1 ao3 _ _ cp0 cp1 cp3 _ a2 x0 x1 x3 B w h24 ht r0 r1 r3 h16 b0 (fun w uk rk ra rx => OI w uk _ _ rk ra rx) h8
      · obtain ⟨q, hq⟩ : ∃ q, B.length = 8 + q := ⟨B.length - 8, by omega⟩
        rw [hq] at OS OI
        by_cases hq8 : 8 < q
        · skip
          refine tokenCheck_walkOf v0 x0 v1 x1 a2 v3 x3 [] 13 w (fun _ => True) (fun _ _ => trivial) l0 wf0 l1 wf1 wf2 l3 wf3 row0 row1 row3 (by simp) ?_ ?_
          · intro w u0 u1 u3 r0 r1 r3
            obtain ⟨ao0, cp0, rfl⟩ := r0.form
            obtain ⟨ao1, cp1, rfl⟩ := r1.form
            obtain ⟨ao3, cp3, rfl⟩ := r3.form
            rw [h16] at r0 ⊢
            exact tcS_long ao0 ao1 ao3 _ _ cp0 cp1 cp3 _ a2 x0 x1 x3 B w h24 ht r0 r1 r3 h16 b0 (fun w uk rk ra rx => OS w uk _ _ rk ra rx) (by omega) (by omega)
          · intro w u0 u1 u3 _ r0 r1 r3
            obtain ⟨ao0, cp0, rfl⟩ := r0.form
            obtain ⟨ao1, cp1, rfl⟩ := r1.form
            obtain ⟨ao3, cp3, rfl⟩ := r3.form
            rw [h16] at r0 ⊢
            exact tcI_long ao0 ao1 ao3 _ _ cp0 cp1 cp3 _ a2 x0 x1 x3 B w h24 ht r0 r1 r3 h16 b0 (fun w uk rk ra rx => OI w uk _ _ rk ra rx) hq hq8 (by omega)
        · by_cases hh : 128 ≤ B.getD 0 0
          · have hv := vals_high B bB (by omega) hh
            refine tokenCheck_walkOf v0 x0 v1 x1 a2 v3 x3 [] 13 w (fun _ => True) (fun _ _ => trivial) l0 wf0 l1 wf1 wf2 l3 wf3 row0 row1 row3 (by simp) ?_ ?_
            · intro w u0 u1 u3 r0 r1 r3
              obtain ⟨ao0, cp0, rfl⟩ := r0.form
              obtain ⟨ao1, cp1, rfl⟩ := r1.form
              obtain ⟨ao3, cp3, rfl⟩ := r3.form
              rw [h16] at r0 ⊢
              exact tcS_high ao0 ao1 ao3 _ _ cp0 cp1 cp3 _ a2 x0 x1 x3 B w h24 ht r0 r1 r3 h16 b0 (fun w uk rk ra rx => OS w uk _ _ rk ra rx) (by omega) ⟨hh, (bB.at 0).2⟩
            · intro w u0 u1 u3 _ r0 r1 r3
              obtain ⟨ao0, cp0, rfl⟩ := r0.form
              obtain ⟨ao1, cp1, rfl⟩ := r1.form
              obtain ⟨ao3, cp3, rfl⟩ := r3.form
              rw [h16] at r0 ⊢
              exact tcI_early ao0 ao1 ao3 _ _ cp0 cp1 cp3 _ a2 x0 x1 x3 B w h24 ht r0 r1 r3 h16 b0 (fun w uk rk ra rx => OI w uk _ _ rk ra rx) hq bB (by omega) (by omega)
          · have hv := vals_low B bB (by omega) (by omega)
            by_cases h1 : a2 < vals (B.take 8)
            · skip
              refine tokenCheck_walkOf v0 x0 v1 x1 a2 v3 x3 [] 13 w (fun _ => True) (fun _ _ => trivial) l0 wf0 l1 wf1 wf2 l3 wf3 row0 row1 row3 (by simp) ?_ ?_
              · intro w u0 u1 u3 r0 r1 r3
                obtain ⟨ao0, cp0, rfl⟩ := r0.form
                obtain ⟨ao1, cp1, rfl⟩ := r1.form
                obtain ⟨ao3, cp3, rfl⟩ := r3.form
                rw [h16] at r0 ⊢
                exact tcS_early ao0 ao1 ao3 _ _ cp0 cp1 cp3 _ a2 x0 x1 x3 B w h24 ht r0 r1 r3 h16 b0 (fun w uk rk ra rx => OS w uk _ _ rk ra rx) hq bB (by omega) ⟨(bB.at 0).1, by omega⟩ ⟨h1, hv⟩
              · intro w u0 u1 u3 _ r0 r1 r3
                obtain ⟨ao0, cp0, rfl⟩ := r0.form
                obtain ⟨ao1, cp1, rfl⟩ := r1.form
                obtain ⟨ao3, cp3, rfl⟩ := r3.form
                rw [h16] at r0 ⊢
                exact tcI_early ao0 ao1 ao3 _ _ cp0 cp1 cp3 _ a2 x0 x1 x3 B w h24 ht r0 r1 r3 h16 b0 (fun w uk rk ra rx => OI w uk _ _ rk ra rx) hq bB (by omega) h1
            · by_cases h2 : 60000000 < a2 - vals (B.take 8)
              · skip
                refine tokenCheck_walkOf v0 x0 v1 x1 a2 v3 x3 [] 13 w (fun _ => True) (fun _ _ => trivial) l0 wf0 l1 wf1 wf2 l3 wf3 row0 row1 row3 (by simp) ?_ ?_
                · intro w u0 u1 u3 r0 r1 r3
                  obtain ⟨ao0, cp0, rfl⟩ := r0.form
                  obtain ⟨ao1, cp1, rfl⟩ := r1.form
                  obtain ⟨ao3, cp3, rfl⟩ := r3.form
                  rw [h16] at r0 ⊢
                  exact tcS_late ao0 ao1 ao3 _ _ cp0 cp1 cp3 _ a2 x0 x1 x3 B w h24 ht r0 r1 r3 h16 b0 (fun w uk rk ra rx => OS w uk _ _ rk ra rx) hq bB (by omega) ⟨(bB.at 0).1, by omega⟩ ⟨by omega, h2⟩
                · intro w u0 u1 u3 _ r0 r1 r3
                  obtain ⟨ao0, cp0, rfl⟩ := r0.form
                  obtain ⟨ao1, cp1, rfl⟩ := r1.form
                  obtain ⟨ao3, cp3, rfl⟩ := r3.form
                  rw [h16] at r0 ⊢
                  exact tcI_late ao0 ao1 ao3 _ _ cp0 cp1 cp3 _ a2 x0 x1 x3 B w h24 ht r0 r1 r3 h16 b0 (fun w uk rk ra rx => OI w uk _ _ rk ra rx) hq bB (by omega) ⟨by omega, h2⟩
              · skip
                refine tokenCheck_walkOf v0 x0 v1 x1 a2 v3 x3 (B.drop 8) 0 w (fun _ => True) (fun _ _ => trivial) l0 wf0 l1 wf1 wf2 l3 wf3 row0 row1 row3 (by rw [List.length_drop]; omega) ?_ ?_
                · intro w u0 u1 u3 r0 r1 r3
                  obtain ⟨ao0, cp0, rfl⟩ := r0.form
                  obtain ⟨ao1, cp1, rfl⟩ := r1.form
                  obtain ⟨ao3, cp3, rfl⟩ := r3.form
                  rw [h16] at r0 ⊢
                  exact tcS_ok ao0 ao1 ao3 _ _ cp0 cp1 cp3 _ a2 x0 x1 x3 B w h24 ht r0 r1 r3 h16 b0 (fun w uk rk ra rx => OS w uk _ _ rk ra rx) hq bB (by omega) ⟨(bB.at 0).1, by omega⟩ ⟨by omega, by omega⟩
                · intro w u0 u1 u3 _ r0 r1 r3
                  obtain ⟨ao0, cp0, rfl⟩ := r0.form
                  obtain ⟨ao1, cp1, rfl⟩ := r1.form
                  obtain ⟨ao3, cp3, rfl⟩ := r3.form
                  rw [h16] at r0 ⊢
                  exact tcI_ok ao0 ao1 ao3 _ _ cp0 cp1 cp3 _ a2 x0 x1 x3 B w h24 ht r0 r1 r3 h16 b0 (fun w uk rk ra rx => OI w uk _ _ rk ra rx) hq bB (by omega) ⟨by omega, by omega⟩
    · have hc' : (c != 0) = true := by simp [hc]
      refine tokenCheck_walkOf v0 x0 v1 x1 a2 v3 x3 [] 13 w (fun _ => True) (fun _ _ => trivial) l0 wf0 l1 wf1 wf2 l3 wf3 row0 row1 row3 (by simp) ?_ ?_
      · intro w u0 u1 u3 r0 r1 r3
        obtain ⟨ao0, cp0, rfl⟩ := r0.form
        obtain ⟨ao1, cp1, rfl⟩ := r1.form
        obtain ⟨ao3, cp3, rfl⟩ := r3.form
        rw [h16] at r0 ⊢
        exact tcS_code ao0 ao1 ao3 _ _ cp0 cp1 cp3 _ a2 x0 x1 x3 B c w h24 ht r0 r1 r3 h16 b0 (fun w uk rk ra rx => OS w uk _ _ rk ra rx) lB hc'
      · intro w u0 u1 u3 _ r0 r1 r3
        obtain ⟨ao0, cp0, rfl⟩ := r0.form
        obtain ⟨ao1, cp1, rfl⟩ := r1.form
        obtain ⟨ao3, cp3, rfl⟩ := r3.form
        rw [h16] at r0 ⊢
        exact tcI_code ao0 ao1 ao3 _ _ cp0 cp1 cp3 _ a2 x0 x1 x3 B c w h24 ht r0 r1 r3 h16 b0 (fun w uk rk ra rx => OI w uk _ _ rk ra rx) lB hc'
  · refine tokenCheck_walkOf v0 x0 v1 x1 a2 v3 x3 [] 1 w (fun _ => True) (fun _ _ => trivial) l0 wf0 l1 wf1 wf2 l3 wf3 row0 row1 row3 (by simp) ?_ ?_
    · intro w u0 u1 u3 r0 r1 r3
      obtain ⟨ao0, cp0, rfl⟩ := r0.form
      obtain ⟨ao1, cp1, rfl⟩ := r1.form
      obtain ⟨ao3, cp3, rfl⟩ := r3.form
      exact tcS_args ao0 ao1 ao3 _ _ _ cp0 cp1 cp3 a2 w m0 m1 hk
    · intro w u0 u1 u3 _ r0 r1 r3
      obtain ⟨ao0, cp0, rfl⟩ := r0.form
      obtain ⟨ao1, cp1, rfl⟩ := r1.form
      obtain ⟨ao3, cp3, rfl⟩ := r3.form
      exact tcI_args ao0 ao1 ao3 _ _ _ cp0 cp1 cp3 a2 w m0 m1 hk
end Go.Proofs.Yteekpdmblododaa

namespace Go.Proofs.Yteekpdmblododaa.fnExactTokenCheck
open Go.ChangeShapes Go.WideShapes Go.ChangeAt Go.RowKit
set_option linter.unusedVariables false

theorem own : ownKnob Try.prog.godebug = none := by kernel_rfl
theorem laidOut : laidOutB Try.prog = true := by kernel_rfl
theorem cells_b : Try.prog.cellsOf 5 = 1 := by kernel_rfl
set_option maxRecDepth 20000 in
theorem contract (H : Type) (enc : TypeId × Value → H) (W : World) (base : Nat) (args : Array Value) (ds gs : List (DataW H)) (before : List MemPlace)
    (hval : ∀ (j : Nat) t v, Try.f4.params[j]? = some t → args[j]? = some v → Value.okWide Try.prog W .any base t v)
    (hW : DataW.Whole enc Try.prog Try.f4.params.toList Rows.fnExactTokenCheckSpec.vars false W args.toList ds gs before) :
    Calls Try.prog 4 args W fun e W' => ∃ v, e = .returned v ∧ Rows.fnExactTokenCheckSpec.post enc Try.prog Try.f4 false true false false W args v W' := by
  have hW' := hW
  obtain ⟨p, q, hA0, hV, rfl, hfz, hnd⟩ := hW
  have hA : DataW.TrodAll enc Try.prog W 0 (fun _ => true) true Try.f4.params.toList args.toList ds p := hA0
  rw [Try.params4] at hA hval
  obtain ⟨v0, vs0, d0, ds0, p0, q0, hargs, rfl, rfl, h0, r0⟩ := trodAll_cons hA
  obtain ⟨v1, vs1, d1, ds1, p1, q1, rfl, rfl, rfl, h1, r1⟩ := trodAll_cons r0
  obtain ⟨v2, vs2, d2, ds2, p2, q2, rfl, rfl, rfl, h2, r2⟩ := trodAll_cons r1
  obtain ⟨v3, vs3, d3, ds3, p3, q3, rfl, rfl, rfl, h3, r3⟩ := trodAll_cons r2
  obtain ⟨rfl, rfl, rfl⟩ := trodAll_nil r3
  obtain rfl : args = #[v0, v1, v2, v3] := by cases args; simp_all
  obtain ⟨rfl, rfl⟩ := trodVars_none hV
  obtain ⟨xs0, row0, len0, wf0⟩ := open_row Try.underlying22 Try.underlying5 cells_b (hval 0 22 v0 rfl rfl) h0
  obtain ⟨xs1, row1, len1, wf1⟩ := open_row Try.underlying22 Try.underlying5 cells_b (hval 1 22 v1 rfl rfl) h1
  obtain ⟨a2, rfl, rfl, rfl, w2⟩ := open_int Try.underlying3 (hval 2 3 v2 rfl rfl) h2
  obtain ⟨xs3, row3, len3, wf3⟩ := open_row Try.underlying22 Try.underlying5 cells_b (hval 3 22 v3 rfl rfl) h3
  refine (fnExactTokenCheck_walk v0 xs0 v1 xs1 a2 v3 xs3 len0 wf0 len1 wf1 w2 len3 wf3 W row0 row1 row3).mono fun e W' ⟨he, hb⟩ => ?_
  subst he
  exact ⟨_, rfl, law_post laidOut (by kernel_rfl) (by kernel_rfl) (by kernel_rfl) Try.underlying4 hW' rfl hb⟩

theorem laid_met (os : Os) : laidMet Try.prog Rows.fnExactTokenCheckRow.laid ((World.holding Try.prog os ⟨#[], #[], []⟩).forCall (fun _ _ => 0) ⟨#[], #[.slice none 0 0, .slice none 0 0, .int .i64 0, .slice none 0 0], []⟩).memory :=
  laidMet_of_run' 8 (by kernel_rfl) (by kernel_rfl)
theorem reads (os : Os) {H : Type} (enc : TypeId × Value → H) : ∃ places, DataW.whole enc Try.prog ((World.holding Try.prog os ⟨#[], #[], []⟩).forCall (fun _ _ => 0) ⟨#[], #[.slice none 0 0, .slice none 0 0, .int .i64 0, .slice none 0 0], []⟩).memory Try.f4.params.toList Rows.fnExactTokenCheckSpec.vars false #[(.slice none 0 0 : Value), .slice none 0 0, .int .i64 0, .slice none 0 0].toList 8 = some ([.nil, .nil, .lit (.int .i64 0), .nil], [], places) :=
  ⟨[], by kernel_rfl⟩

set_option maxRecDepth 100000 in
theorem lifted (os : Os) (started : os.Started) (H : Type) (enc : TypeId × Value → H) (F : Stop.Interp) :
    ReturnsInHanded {} Try.checked os 4 .any ((OpenSpec.ofChange Rows.fnExactTokenCheckSpec).preRow enc Try.prog Try.f4 Rows.fnExactTokenCheckRow.domain false Rows.fnExactTokenCheckRow.laid) (((OpenSpec.ofChange Rows.fnExactTokenCheckSpec).at F).post enc Try.prog Try.f4 false true false false) := by
  obtain ⟨places, hx⟩ := reads os enc
  refine returnsInHanded_of_row (C := Try.checked) (s := OpenSpec.ofChange Rows.fnExactTokenCheckSpec) own started (by kernel_rfl) Try.func4
    (witness_row_at (enc := enc) (C := Try.checked) false (World.holding Try.prog os ⟨#[], #[], []⟩) #[.slice none 0 0, .slice none 0 0, .int .i64 0, .slice none 0 0] rfl (by kernel_rfl) (by kernel_rfl) (by kernel_rfl)
      (OpenSpec.preRow_of_cond 8 hx (by kernel_rfl) (fun k hk => by cases hk) (by kernel_rfl) (laid_met os))) ?_
  intro W base args ds gs before hval hW _ _ _ hL _ _
  exact contract H enc W base args ds gs before hval hW

theorem said : Rows.FnExactTokenCheckSaid :=
  OpenClaim.holds_of_cond 4 Try.f4 rfl rfl rfl rfl rfl rfl rfl ⟨rfl, rfl, rfl, rfl, rfl⟩ rfl rfl rfl rfl rfl (by kernel_rfl) Try.func4 (by kernel_rfl)
    (of_decide_eq_true (by kernel_rfl)) (by unfold Func.isWrapper; first | (rw [if_pos (by decide +kernel)]; kernel_rfl) | (rw [if_neg (by decide +kernel)]; exact ⟨rfl, rfl⟩))
    (fun os started H enc _ F => by rw [OpenClaim.pre_eq_preRow]; exact lifted os started H enc F)

end Go.Proofs.Yteekpdmblododaa.fnExactTokenCheck

namespace Go.Proofs.Yteekpdmblododaa
theorem fnExactTokenCheck_holds : Rows.FnExactTokenCheckSaid := fnExactTokenCheck.said
#print axioms fnExactTokenCheck_holds
end Go.Proofs.Yteekpdmblododaa
