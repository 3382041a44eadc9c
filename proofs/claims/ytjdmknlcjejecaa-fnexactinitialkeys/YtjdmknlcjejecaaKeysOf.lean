import Derived.Test.YtjdmknlcjejecaaKeys
import Derived.Test.YtjdmknlcjejecaaBlocks
import Derived.Test.YtjdmknlcjejecaaDer
import Derived.Laws.Rows
namespace Go.Proofs.Ytjdmknlcjejecaa
open Go.RowKit
set_option linter.unusedVariables false

theorem copyC (v : Value) (xs : List Int) (w : World) (h : Row w .u8 v xs) (h0 : 0 < xs.length) (h1 : xs.length ≤ 1099511627776) :
    Calls Try.prog 25 #[v] w fun e w' => ∃ r, e = .returned r ∧ w'.ownsRow w.heap.size 5 1 r xs.length (xs.map (Value.int .u8)) ∧ Below w.heap.size w w' := by
  obtain ⟨i0, hi, hz0, hz1, hz2⟩ := info_parts infoU8
  obtain ⟨b, off, cap, rfl, hb, hc⟩ := h.at h0
  have hcs : ∀ (j : Nat) (u : Value), (xs.map (Value.int .u8))[j]? = some u → (w.alloc (.cells #[] 5)).cell? ((⟨b, off, none⟩ : Addr).add j) = some u := by
    intro j u hj
    have hj' : j < xs.length := by
      have := (List.getElem?_eq_some_iff.1 hj).1
      rwa [List.length_map] at this
    rw [Go.WideShapes.add_plain, ((Below.refl w.heap.size w).alloc (Nat.le_refl _) (.cells #[] 5)).cell (p := ⟨b, off + j, none⟩) hb, hc j hj']
    rw [List.getElem?_map, List.getElem?_eq_getElem hj'] at hj
    simp only [Option.map_some, Option.some.injEq] at hj
    rw [← hj]
    simp [List.getD, hj']
  have hlit : (w.alloc (.cells #[] 5)).ownsRow w.heap.size 5 1 (.slice (some ⟨w.heap.size, 0, none⟩) 0 0) 0 [] := World.ownsRow_lit w #[] 0 (Nat.le_refl _) (by decide) rfl
  have hbs : w.heap.size ≤ (w.alloc (.cells #[] 5)).heap.size := by simp
  have HF : Hid _ := And.intro hcs (And.intro hlit hbs)
  obtain ⟨n, en⟩ : ∃ n, n = xs.length := ⟨_, rfl⟩
  have HL : Hid ((xs.map (Value.int .u8)).length = n * 1) := by rw [List.length_map, en]; exact (Nat.mul_one _).symm
  rw [← en] at h1 ⊢
  clear hcs hlit h hc h0 en
  go_enter Try.func25, Try.ntmps25
  go_wp2_with (at_builtin; refine wpList_append_own _ rfl _ _ 22 rfl w.heap.size 5 i0 (.int .u8 0) 1 1 Try.underlying22 hi hz0 hz1 hz2 rfl (by decide) (.slice (some ⟨w.heap.size, 0, none⟩) 0 0) 0 [] rfl HF.out.2.1 ⟨b, off, none⟩ n cap (xs.map (Value.int .u8)) rfl HL.out HF.out.1 (pc_one _ _) (by unfold maxLen; omega) (by omega) hbs ?_; intro v3 w3 o3 g3 _)
  have HG : Hid _ := And.intro o3 (((Below.refl w.heap.size w).alloc (Nat.le_refl _) _).grown g3 hbs (fun j hj => (HF.out.2.1.lt j hj).1))
  clear o3 g3
  go_wp2
  go_ret
  refine ⟨_, rfl, ?_, HG.out.2⟩
  have := HG.out.1
  rw [Nat.zero_add, List.nil_append] at this
  exact this

def lKey : ByteArray := ⟨#[107, 101, 121]⟩
def lIv : ByteArray := ⟨#[105, 118]⟩
def lMask : ByteArray := ⟨#[109, 97, 115, 107]⟩
def lNext : ByteArray := ⟨#[110, 101, 120, 116]⟩
def kZero : K4 := ⟨[], [], [], []⟩
/-- The keys of a secret. -/
def keysV (ss : List Int) : K4 := if ss.length = 16 then ⟨ss, derV ss lKey 16, derV ss lIv 8, derV ss lMask 16⟩ else kZero

theorem kzero_owns (w : World) (base : Nat) : KOwns w base (.agg #[.slice none 0 0, .slice none 0 0, .slice none 0 0, .slice none 0 0]) kZero := by
  have h : w.ownsRow base 5 1 (.slice none 0 0) 0 (([] : List Int).map (Value.int .u8)) := World.ownsRow_nil _ _ _ _
  have a : Apart (.slice none 0 0) (.slice none 0 0) := fun g e => by cases e
  exact ⟨_, _, _, _, rfl, h, h, h, h, a, a, a, a, a, a⟩
theorem infoKeys4 : (Try.prog.info? 24).map (·.size) = some 4 := by kernel_rfl

theorem keysOf_bad (ao : Option Addr) (n cap : Nat) (w : World) (h : n ≠ 16) (hn : n ≤ 9223372036854775807) :
    Calls Try.prog 15 #[.slice ao n cap] w fun e w' => ∃ r, e = .returned r ∧ KOwns w' w.heap.size r kZero ∧ Below w.heap.size w w' := by
  have hne : ((n : Int) != 16) = true := by simp; omega
  go_enter Try.func15, Try.ntmps15
  go_wp2
  try simp only [Exit.inBlock, Exit.then]
  refine bodyPost_ret (v := .agg #[.slice none 0 0, .slice none 0 0, .slice none 0 0, .slice none 0 0]) ?_ rfl ?_
  · refine results_cell_row (t := 24) rfl _ _ w.heap.size _ (fr := (0, 0)) _ rfl ?_ Try.underlying24 rfl infoKeys4
    exact (MapKept.heap_alloc w _).1
  · exact ⟨_, rfl, kzero_owns _ _, (Below.refl _ _).alloc (Nat.le_refl _) _⟩
theorem owns_cell3 {wx : World} {base g n i : Nat} {u v : Value} {xs : List Value} (ho : wx.ownsRow base 5 1 v n xs) (hb : g < base) : (wx.setCell ⟨g, i, none⟩ u).ownsRow base 5 1 v n xs :=
  (Only.setCell (w := wx) ⟨g, i, none⟩ u).owns ho (fun k hk e => by have := (ho.lt k hk).1; have := Option.some.inj e; simp only at this; omega)

set_option maxHeartbeats 2000000 in
theorem keysOf_ok (v : Value) (ss : List Int) (w : World) (hrow : Row w .u8 v ss) (hB : Bytes ss) (h16 : ss.length = 16) :
    Calls Try.prog 15 #[v] w fun e w' => ∃ r, e = .returned r ∧ KOwns w' w.heap.size r ⟨ss, derV ss lKey 16, derV ss lIv 8, derV ss lMask 16⟩ ∧ Below w.heap.size w w' := by
  obtain ⟨ao, cap, ev⟩ := hrow.form
  rw [h16] at ev
  subst ev
  have WB : Below w.heap.size w (w.alloc (.cells #[.slice none 0 0, .slice none 0 0, .slice none 0 0, .slice none 0 0] 24)) := (Below.refl _ _).alloc (Nat.le_refl _) _
  have HW : Hid _ := And.intro (And.intro hrow (And.intro hB h16)) (And.intro WB (MapKept.heap_alloc w (.cells #[.slice none 0 0, .slice none 0 0, .slice none 0 0, .slice none 0 0] 24)).1)
  clear hrow hB h16 WB
  go_enter Try.func15, Try.ntmps15
  go_wp2_with fail
  go_at_call 25
  refine (copyC _ ss _ (HW.out.1.1.below HW.out.2.1) (by rw [HW.out.1.2.2]; decide) (by rw [HW.out.1.2.2]; decide)).mono ?_
  rintro e w1 ⟨r0, rfl, o0, b0⟩
  obtain ⟨ao0, cp0, hr0⟩ := (row_of_owns o0).form
  subst hr0
  have L0 : (w.alloc (.cells #[.slice none 0 0, .slice none 0 0, .slice none 0 0, .slice none 0 0] 24)).heap.size = w.heap.size + 1 := by simp
  rw [L0] at o0 b0
  have c1 : Below w.heap.size w w1 := HW.out.2.1.trans (b0.mono (Nat.le_succ _))
  have k1 : w1.heap[w.heap.size]? = some (.cells #[.slice none 0 0, .slice none 0 0, .slice none 0 0, .slice none 0 0] 24 (0, 0)) := (b0.block _ (Nat.lt_succ_self _)).trans HW.out.2.2
  have z1 : w.heap.size + 1 ≤ w1.heap.size := by have := b0.size; rw [L0] at this; exact this
  have H1 : Hid _ := And.intro o0 (And.intro c1 k1)
  clear o0 b0 c1 k1
  go_wp2_with fail
  go_at_call 16
  refine (specDerive _ ss lKey 16 _ (HW.out.1.1.below H1.out.2.1) HW.out.1.2.1 (by rw [HW.out.1.2.2]; decide) (by decide)).mono ?_
  rintro e w2 ⟨r1, rfl, o1, b1⟩
  obtain ⟨ao1, cp1, hr1⟩ := (row_of_owns o1).form
  subst hr1
  have c2 : Below w.heap.size w w2 := H1.out.2.1.trans (b1.mono H1.out.2.1.size)
  have k2 : w2.heap[w.heap.size]? = some (.cells #[.slice none 0 0, .slice none 0 0, .slice none 0 0, .slice none 0 0] 24 (0, 0)) := (b1.block _ (by omega)).trans H1.out.2.2
  have z2 : w1.heap.size ≤ w2.heap.size := b1.size
  have H2 : Hid _ := And.intro o1 (And.intro c2 k2)
  have B1 : Hid _ := b1
  clear o1 b1 c2 k2
  go_wp2_with fail
  go_at_call 16
  refine (specDerive _ ss lIv 8 _ (HW.out.1.1.below H2.out.2.1) HW.out.1.2.1 (by rw [HW.out.1.2.2]; decide) (by decide)).mono ?_
  rintro e w3 ⟨r2, rfl, o2, b2⟩
  obtain ⟨ao2, cp2, hr2⟩ := (row_of_owns o2).form
  subst hr2
  have c3 : Below w.heap.size w w3 := H2.out.2.1.trans (b2.mono H2.out.2.1.size)
  have k3 : w3.heap[w.heap.size]? = some (.cells #[.slice none 0 0, .slice none 0 0, .slice none 0 0, .slice none 0 0] 24 (0, 0)) := (b2.block _ (by omega)).trans H2.out.2.2
  have z3 : w2.heap.size ≤ w3.heap.size := b2.size
  have H3 : Hid _ := And.intro o2 (And.intro c3 k3)
  have B2 : Hid _ := b2
  clear o2 b2 c3 k3
  go_wp2_with fail
  go_at_call 16
  refine (specDerive _ ss lMask 16 _ (HW.out.1.1.below H3.out.2.1) HW.out.1.2.1 (by rw [HW.out.1.2.2]; decide) (by decide)).mono ?_
  rintro e w4 ⟨r3, rfl, o3, b3⟩
  obtain ⟨ao3, cp3, hr3⟩ := (row_of_owns o3).form
  subst hr3
  have c4 : Below w.heap.size w w4 := H3.out.2.1.trans (b3.mono H3.out.2.1.size)
  have k4 : w4.heap[w.heap.size]? = some (.cells #[.slice none 0 0, .slice none 0 0, .slice none 0 0, .slice none 0 0] 24 (0, 0)) := (b3.block _ (by omega)).trans H3.out.2.2
  have z4 : w3.heap.size ≤ w4.heap.size := b3.size
  have H4 : Hid _ := And.intro o3 (And.intro c4 k4)
  have B3 : Hid _ := b3
  clear o3 b3 c4 k4
  have y0 : w4.cell? ⟨w.heap.size, 0, none⟩ = some (.slice none 0 0) := by rw [bk_cell H4.out.2.2]; rfl
  have f0 : w4.frozen? ⟨w.heap.size, 0, none⟩ = false := bk_free H4.out.2.2 0
  have y1 : w4.cell? ⟨w.heap.size, 1, none⟩ = some (.slice none 0 0) := by rw [bk_cell H4.out.2.2]; rfl
  have f1 : w4.frozen? ⟨w.heap.size, 1, none⟩ = false := bk_free H4.out.2.2 1
  have y2 : w4.cell? ⟨w.heap.size, 2, none⟩ = some (.slice none 0 0) := by rw [bk_cell H4.out.2.2]; rfl
  have f2 : w4.frozen? ⟨w.heap.size, 2, none⟩ = false := bk_free H4.out.2.2 2
  have y3 : w4.cell? ⟨w.heap.size, 3, none⟩ = some (.slice none 0 0) := by rw [bk_cell H4.out.2.2]; rfl
  have f3 : w4.frozen? ⟨w.heap.size, 3, none⟩ = false := bk_free H4.out.2.2 3
  go_wp2
  try simp only [Exit.inBlock, Exit.then]
  refine bodyPost_ret (v := .agg #[.slice ao0 ss.length cp0, .slice ao1 (derV ss lKey 16).length cp1, .slice ao2 (derV ss lIv 8).length cp2, .slice ao3 (derV ss lMask 16).length cp3]) ?_ rfl ?_
  · refine results_cell_row (t := 24) rfl _ _ w.heap.size _ (fr := (0, 0)) _ rfl ?_ Try.underlying24 rfl infoKeys4
    rw [bk_set (bk_set (bk_set (bk_set H4.out.2.2 0 _) 1 _) 2 _) 3 _]
    rfl
  · have m0 := owns_below (owns_below (owns_below H1.out.1 B1.out) B2.out) B3.out
    have m1 := owns_mono (owns_below (owns_below H2.out.1 B2.out) B3.out) z1
    have m2 := owns_mono (owns_below H3.out.1 B3.out) (base' := w.heap.size + 1) (by omega)
    have m3 := owns_mono H4.out.1 (base' := w.heap.size + 1) (by omega)
    have fin : ∀ {n : Nat} {v : Value} {xs : List Value}, w4.ownsRow (w.heap.size + 1) 5 1 v n xs → _ := fun h => owns_mono (owns_cell3 (i := 3) (u := .slice ao3 (derV ss lMask 16).length cp3) (owns_cell3 (i := 2) (u := .slice ao2 (derV ss lIv 8).length cp2) (owns_cell3 (i := 1) (u := .slice ao1 (derV ss lKey 16).length cp1) (owns_cell3 (i := 0) (u := .slice ao0 ss.length cp0) h (g := w.heap.size) (by omega)) (g := w.heap.size) (by omega)) (g := w.heap.size) (by omega)) (g := w.heap.size) (by omega)) (base' := w.heap.size) (by omega)
    refine ⟨_, rfl, ⟨_, _, _, _, rfl, fin m0, fin m1, fin m2, fin m3, ?_, ?_, ?_, ?_, ?_, ?_⟩, ?_⟩
    · exact apart_later H1.out.1 H2.out.1 (Nat.le_refl _)
    · exact apart_later H1.out.1 H3.out.1 z2
    · exact apart_later H1.out.1 H4.out.1 (by omega)
    · exact apart_later H2.out.1 H3.out.1 (Nat.le_refl _)
    · exact apart_later H2.out.1 H4.out.1 z3
    · exact apart_later H3.out.1 H4.out.1 (Nat.le_refl _)
    · exact (((H4.out.2.1.setCell (Nat.le_refl _) _).setCell (Nat.le_refl _) _).setCell (Nat.le_refl _) _).setCell (Nat.le_refl _) _

theorem specKeysOf (v : Value) (ss : List Int) (w : World) (hrow : Row w .u8 v ss) (hB : Bytes ss) (hl : ss.length ≤ 9223372036854775807) :
    Calls Try.prog 15 #[v] w fun e w' => ∃ r, e = .returned r ∧ KOwns w' w.heap.size r (keysV ss) ∧ Below w.heap.size w w' := by
  by_cases h : ss.length = 16
  · rw [show keysV ss = ⟨ss, derV ss lKey 16, derV ss lIv 8, derV ss lMask 16⟩ by unfold keysV; rw [if_pos h]]
    exact keysOf_ok v ss w hrow hB h
  · rw [show keysV ss = kZero by unfold keysV; rw [if_neg h]]
    obtain ⟨ao, cap, rfl⟩ := hrow.form
    exact keysOf_bad ao ss.length cap w h hl
theorem keysV_bytes (ss : List Int) (h : Bytes ss) : (keysV ss).bytes := by
  have hn : Bytes ([] : List Int) := fun x hx => by cases hx
  unfold keysV
  split
  · exact ⟨h, derV_bytes _ _ _, derV_bytes _ _ _, derV_bytes _ _ _⟩
  · exact ⟨hn, hn, hn, hn⟩
theorem keysV_small (ss : List Int) : (keysV ss).small 64 := by
  unfold keysV
  split
  · rename_i h
    exact ⟨by show ss.length ≤ 64; omega, derV_length _ _ _, derV_length _ _ _, derV_length _ _ _⟩
  · exact ⟨Nat.zero_le _, Nat.zero_le _, Nat.zero_le _, Nat.zero_le _⟩
end Go.Proofs.Ytjdmknlcjejecaa
