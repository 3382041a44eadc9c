import Derived.Test.YtjdmknlcjejecaaIOuter
namespace Go.Proofs.Ytjdmknlcjejecaa
open Go.RowKit
set_option linter.unusedVariables false

theorem ikeysOf_bad (ao : Option Addr) (n cap : Nat) (w : World) (h : n ≠ 16) (hn : n ≤ 9223372036854775807) :
    Calls Try.prog 21 #[.slice ao n cap] w fun e w' => ∃ r, e = .returned r ∧ KOwns w' w.heap.size r kZero ∧ Below w.heap.size w w' := by
  have hne : ((n : Int) != 16) = true := by simp; omega
  go_enter Try.func21, Try.ntmps21
  go_wp2
  try simp only [Exit.inBlock, Exit.then]
  refine bodyPost_ret (v := .agg #[.slice none 0 0, .slice none 0 0, .slice none 0 0, .slice none 0 0]) ?_ rfl ?_
  · refine results_cell_row (t := 24) rfl _ _ w.heap.size _ (fr := (0, 0)) _ rfl ?_ Try.underlying24 rfl infoKeys4
    exact (MapKept.heap_alloc w _).1
  · exact ⟨_, rfl, kzero_owns _ _, (Below.refl _ _).alloc (Nat.le_refl _) _⟩

set_option maxHeartbeats 2000000 in
theorem ikeysOf_ok (v : Value) (ss : List Int) (w : World) (hrow : Row w .u8 v ss) (hB : Bytes ss) (h16 : ss.length = 16) :
    Calls Try.prog 21 #[v] w fun e w' => ∃ r, e = .returned r ∧ KOwns w' w.heap.size r (keysV ss) ∧ Below w.heap.size w w' := by
  obtain ⟨ao, cap, rfl⟩ := hrow.form
  rw [h16] at hrow ⊢
  have kz := keysV_kok ss h16
  have C0 : Below w.heap.size w (w.alloc (.cells #[.slice none 0 0, .slice none 0 0, .slice none 0 0, .slice none 0 0] 24 (0, 0))) := (Below.refl _ _).alloc (Nat.le_refl _) _
  have HH : Hid _ := And.intro hrow (And.intro hB (And.intro h16 (And.intro kz C0)))
  clear hrow hB h16 kz C0
  go_enter Try.func21, Try.ntmps21
  go_wp2_with fail
  go_at_call 32
  refine (innerOfSecret_ok _ ss _ (HH.out.1.below HH.out.2.2.2.2) HH.out.2.1 HH.out.2.2.1).mono ?_
  rintro e w1 ⟨rfl, b1⟩
  have hz1 : w.heap.size < w1.heap.size := by have := b1.size; simp at this; omega
  have H1 : Hid _ := And.intro (HH.out.2.2.2.2.trans (b1.mono HH.out.2.2.2.2.size)) ((b1.block w.heap.size (by simp)).trans (MapKept.heap_alloc w _).1)
  clear b1
  go_wp2_with fail
  go_at_call 33
  refine (outer_ok (keysV ss) w1 HH.out.2.2.2.1).mono ?_
  rintro e w2 ⟨r, rfl, ko, b2⟩
  obtain ⟨a0, a1, a2, a3, p0, p1, p2, p3, er⟩ := ko.parts
  subst er
  have H2 : Hid _ := And.intro ko (And.intro b2 ((b2.block _ hz1).trans H1.out.2))
  clear ko b2
  go_wp2_with (refine wpList_store_at rfl 24 (.tmp 2) (.tmp 9) rfl w.heap.size _ rfl rfl 24 _ H2.out.2.2 infoKeys4 rfl (by simp [Value.oneCell']) ?_; intro w3 h3 m3)
  try simp only [Exit.inBlock, Exit.then]
  refine bodyPost_ret (v := .agg #[.slice a0 (keysV ss).a.length p0, .slice a1 (keysV ss).b.length p1, .slice a2 (keysV ss).c.length p2, .slice a3 (keysV ss).d.length p3]) ?_ rfl ?_
  · exact results_cell_row (t := 24) rfl _ _ w.heap.size _ (fr := (0, 0)) _ rfl h3 Try.underlying24 rfl infoKeys4
  · refine ⟨_, rfl, ?_, (H1.out.1.trans (H2.out.2.1.mono (by omega))).trans (m3.below (Nat.le_refl _))⟩
    exact ((Chg.of_only (S := fun k => k = w.heap.size) m3 (fun k e => by cases e; rfl)).kowns H2.out.1 (fun g hg _ e => by omega)).mono (by omega)

theorem implKeysOf (v : Value) (ss : List Int) (w : World) (hrow : Row w .u8 v ss) (hB : Bytes ss) (hl : ss.length ≤ 9223372036854775807) :
    Calls Try.prog 21 #[v] w fun e w' => ∃ r, e = .returned r ∧ KOwns w' w.heap.size r (keysV ss) ∧ Below w.heap.size w w' := by
  by_cases h : ss.length = 16
  · exact ikeysOf_ok v ss w hrow hB h
  · obtain ⟨ao, cap, rfl⟩ := hrow.form
    have e : keysV ss = kZero := if_neg h
    rw [e]
    exact ikeysOf_bad ao _ cap w h hl
end Go.Proofs.Ytjdmknlcjejecaa
