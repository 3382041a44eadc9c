import Derived.Test.YtmfbfophjnaapaaDoorHzD
import Derived.Test.YtmfbfophjnaapaaDoorHyG
import Derived.Test.YtmfbfophjnaapaaDoorMarkBytes
import Derived.Test.YtmfbfophjnaapaaDoorKeys
import Derived.Deep.CutRange
namespace Go.Proofs.YtmfbfophjnaapaaDoor
open Go.RowKit
set_option linter.unusedVariables false

set_option maxHeartbeats 2000000 in
theorem markHF (f : HF) (d s : Value) (B1 B2 : Nat) (w : World) (hd : w.ownsRow B1 5 1 d f.d.length (f.d.map (Value.int .u8))) (h : GOwns 54 2 w B2 s (SSetting.L f.s)) (hap : ∀ k, d.ownBlock = some k → k < B2) (hn : f.d.length ≤ 1048576) (hm : f.s.length ≤ 1048576) :
    Calls Tryd.prog 10 #[hV f d s, .int .i64 1] w fun e w' => e = .returned (.int .i64 (1 + (f.d.length : Int) + 2 * (f.s.length : Int))) ∧ Chg (fun k => d.ownBlock = some k ∨ s.ownBlock = some k) w w' := by
  have b0 : Below w.heap.size w (w.alloc (.cells #[.int .i64 f.k, .int .i64 f.a, d, s] 31)) := (Below.refl _ _).alloc (Nat.le_refl _) _
  have C1 := markBytes 1 f.d.length B1 d f.d _ (by omega) (by decide) (by decide) (owns_below hd b0)
  have gl : ∀ k, s.ownBlock = some k → B2 ≤ k ∧ k < w.heap.size := fun k e => by obtain ⟨zs, ho, _⟩ := h; exact ho.lt k e
  have dl : ∀ k, d.ownBlock = some k → k < w.heap.size := fun k e => (hd.lt k e).2
  have C2 : ∀ u, Only d.ownBlock (w.alloc (.cells #[.int .i64 f.k, .int .i64 f.a, d, s] 31)) u → _ := fun u hu => markSettingS (1 + (f.d.length : Int)) B2 s (SSetting.L f.s) u (by rw [List.length_map]; omega) (by omega) (by omega) (GOwns.only hu (h.below b0) (fun k hk e => by have := hap k e.symm; have := (gl k hk).1; omega))
  have hro := srow_form h.row
  have hrd := (row_of_owns hd).form
  have bk : (w.alloc (.cells #[.int .i64 f.k, .int .i64 f.a, d, s] 31)).heap[w.heap.size]? = some (.cells #[.int .i64 f.k, .int .i64 f.a, d, s] 31 (0, 0)) := (MapKept.heap_alloc w _).1
  obtain ⟨ao, cp, rfl⟩ := hro
  obtain ⟨bo, cd, rfl⟩ := hrd
  rw [List.length_map] at C2
  obtain ⟨n, en⟩ : ∃ n, n = f.d.length := ⟨_, rfl⟩
  obtain ⟨m, em⟩ : ∃ m, m = f.s.length := ⟨_, rfl⟩
  rw [← en, ← em] at b0 C1 C2 bk ⊢
  rw [← em] at gl
  rw [← en] at dl
  have H : Hid _ := And.intro C1 (And.intro C2 (And.intro b0 (And.intro gl (And.intro dl bk))))
  have hnn : n ≤ 1048576 := by omega
  clear C1 C2 b0 gl dl bk hd h hap hn hm en em
  unfold hV
  obtain ⟨k, a, D, S⟩ := f
  simp only at *
  go_enter Tryd.func10, Tryd.ntmps10
  go_wp2_with fail
  go_at_call 11
  refine H.out.1.mono ?_
  rintro e w1 ⟨rfl, o1, b1, z1, n1⟩
  have q1 := (n1.block w.heap.size (fun e => by have := H.out.2.2.2.2.1 _ e.symm; omega)).trans H.out.2.2.2.2.2
  have c3 : w1.cell? ⟨w.heap.size, 3, none⟩ = some (.slice ao m cp) := by rw [bk_cell q1]; rfl
  have H1 : Hid _ := And.intro n1 True.intro
  clear o1 b1 z1 n1 q1
  go_wp2_with fail
  go_at_call 26
  refine (H.out.2.1 _ H1.out.1).mono ?_
  rintro e w2 ⟨rfl, o2, b2, z2, n2⟩
  have H2 : Hid _ := And.intro n2 True.intro
  clear o2 b2 z2 n2
  go_wp2
  go_ret
  refine ⟨by first | rfl | (congr 2; omega), ?_⟩
  exact (Chg.of_below H.out.2.2.1).trans ((Chg.of_only H1.out.1 (fun k e => Or.inl e)).trans (Chg.of_only H2.out.1 (fun k e => Or.inr e)))
theorem hby_huge (f : HF) (d s : Value) (w : World) (hd : Row w .u8 d f.d) (h : GRow 2 w s (SSetting.L f.s)) (hn : f.d.length ≤ 9223372036854775807) (hm : f.s.length ≤ 9223372036854775807) (ho : 1048576 < (f.d.length : Int) + f.s.length) :
    Calls Tryd.prog 3 #[hV f d s] w fun e w' => e = .returned (.bool true) ∧ Below w.heap.size w w' := by
  have b0 : Below w.heap.size w (w.alloc (.cells #[.int .i64 f.k, .int .i64 f.a, d, s] 25)) := (Below.refl _ _).alloc (Nat.le_refl _) _
  have C := szHF f d s _ (hd.below b0) (h.below b0) hn hm (-1) (by rw [if_neg (by omega)])
  obtain ⟨ao, cp, rfl⟩ := srow_form h
  obtain ⟨bo, cd, rfl⟩ := hd.form
  obtain ⟨n, en⟩ : ∃ n, n = f.d.length := ⟨_, rfl⟩
  obtain ⟨m, em⟩ : ∃ m, m = f.s.length := ⟨_, rfl⟩
  rw [← en, ← em] at C b0 ⊢
  have H : Hid _ := And.intro C b0
  clear C b0 h hd hn hm ho en em
  unfold hV at *
  obtain ⟨k, a, D, S⟩ := f
  simp only at *
  go_enter Tryd.func3, Tryd.ntmps3
  go_wp2_with fail
  go_at_call 4
  refine H.out.1.mono ?_
  rintro e w2 ⟨rfl, b2⟩
  have H2 : Hid _ := And.intro (H.out.2.trans (b2.mono H.out.2.size)) True.intro
  clear b2
  go_wp2
  go_ret
  exact ⟨rfl, H2.out.1⟩
theorem hbR_le (f : HF) : (hbR f).1.length ≤ 17100 := by
  unfold hbR
  by_cases h : hyP f.k f.a f.d.length f.s
  · rw [if_pos h]; exact hyBy_le f h
  · rw [if_neg h]; simp
end Go.Proofs.YtmfbfophjnaapaaDoor
