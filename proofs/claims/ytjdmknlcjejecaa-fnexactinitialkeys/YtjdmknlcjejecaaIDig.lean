import Derived.Test.YtjdmknlcjejecaaICopy
import Derived.Test.YtjdmknlcjejecaaIStir
import Derived.Test.YtjdmknlcjejecaaHigh
namespace Go.Proofs.Ytjdmknlcjejecaa
open Go.RowKit
set_option linter.unusedVariables false

def S4.cs (s : S4) : Array Value := #[.int .u32 s.a, .int .u32 s.b, .int .u32 s.c, .int .u32 s.d]
/-- A row of bytes does not lie in the state's block. -/
theorem not_state {w : World} {g b o : Nat} {s : S4} {x : Int} (hb : w.heap[g]? = some (.cells #[.int .u32 s.a, .int .u32 s.b, .int .u32 s.c, .int .u32 s.d] 49 (0, 0))) (hc : w.cell? ⟨b, o, none⟩ = some (.int .u8 x)) : b ≠ g := by
  rintro rfl
  rw [blkS_cell hb] at hc
  match o with
  | 0 => simp at hc
  | 1 => simp at hc
  | 2 => simp at hc
  | 3 => simp at hc
  | n + 4 => simp at hc

set_option maxHeartbeats 800000 in
theorem istirAll (g : Nat) (s : S4) (hs : s.ok) (v : Value) (xs : List Int) (w : World) (hrow : Row w .u8 v xs) (hB : Bytes xs) (hl : xs.length ≤ 4611686018427387903)
    (hb : w.heap[g]? = some (.cells #[.int .u32 s.a, .int .u32 s.b, .int .u32 s.c, .int .u32 s.d] 49 (0, 0))) :
    Calls Try.prog 28 #[.pointer (some ⟨g, 0, none⟩), v] w fun e w' => (∃ r, e = .returned r) ∧ StI g w w' (stirL s xs) := by
  obtain ⟨ao, cap, rfl⟩ := hrow.form
  obtain ⟨n, en⟩ : ∃ n, n = xs.length := ⟨_, rfl⟩
  have HC : Hid _ := And.intro hrow (And.intro hB (And.intro en (And.intro hs hb)))
  rw [← en] at hl ⊢
  clear hrow hB en hs hb
  go_enter Try.func28, Try.ntmps28
  go_wp2
  go_loopw [8] (fun i wr => ∃ k : Nat, k ≤ n ∧ i = .int .i64 (k : Int) ∧ StI g w wr (stirL s (xs.take k))) (fun i _ => n - (intOf i).toNat)
  case atStart => exact ⟨0, by omega, rfl, ⟨HC.out.2.2.2.2, Only.refl _ _⟩⟩
  case round =>
    obtain ⟨k, hk, rfl, st⟩ := hrel
    by_cases hlt : k < n
    · have hn := HC.out.2.2.1
      obtain ⟨b, off, cap', e1, hbl, hc⟩ := HC.out.1.at (by omega)
      simp only [Value.slice.injEq] at e1
      obtain ⟨rfl, e2, e3⟩ := e1
      have c0 := hc k (by omega)
      have hne := not_state HC.out.2.2.2.2 c0
      have cx : wr.cell? ⟨b, off + k, none⟩ = some (.int .u8 (xs.getD k 0)) := (cell_of_heap (st.only.block b (fun e => hne (by cases e; rfl))) _).trans c0
      have bx := HC.out.2.1.at k
      have H1 : Hid _ := And.intro st (And.intro (stirL_ok s (xs.take k) HC.out.2.2.2.1) (stirL_take s xs k (by omega)))
      clear st c0 hc e2 e3 hne hbl hn
      generalize xs.getD k 0 = x at cx bx H1
      go_wp2_with fail
      go_at_call 29
      refine (istir g _ H1.out.2.1 x bx.1 bx.2 wr H1.out.1.blk).mono ?_
      rintro e w1 ⟨⟨r, rfl⟩, st⟩
      have H2 : Hid _ := And.intro st True.intro
      clear st cx
      go_wp2
      go_roundw
      case rel =>
        refine ⟨k + 1, by omega, by go_num, ?_⟩
        rw [H1.out.2.2]
        exact ⟨H2.out.1.blk, H1.out.1.only.trans H2.out.1.only⟩
      case measure => simp [intOf]; omega
    · obtain rfl : k = n := by omega
      have el : xs.take k = xs := List.take_of_length_le (by have := HC.out.2.2.1; omega)
      rw [el] at st
      have H1 : Hid _ := And.intro st True.intro
      clear st
      go_wp2
      go_end0
      exact ⟨⟨_, rfl⟩, H1.out.1⟩

/-- Block g holds the state s; of the old blocks no other has turned since w. -/
structure StC (g : Nat) (w wx : World) (s : S4) : Prop where
  blk : wx.heap[g]? = some (.cells #[.int .u32 s.a, .int .u32 s.b, .int .u32 s.c, .int .u32 s.d] 49 (0, 0))
  chg : Chg (fun k => k = g) w wx
theorem StI.toC {g : Nat} {w wx : World} {s : S4} (h : StI g w wx s) : StC g w wx s := ⟨h.blk, Chg.of_only h.only (fun k e => by cases e; rfl)⟩
theorem StC.trans {g : Nat} {a b c : World} {s t : S4} (h : StC g a b s) (k : StC g b c t) : StC g a c t := ⟨k.blk, h.chg.trans k.chg⟩
theorem StC.row {g : Nat} {w wx : World} {s t : S4} {v : Value} {xs : List Int} (h : StC g w wx t) (hb : w.heap[g]? = some (.cells #[.int .u32 s.a, .int .u32 s.b, .int .u32 s.c, .int .u32 s.d] 49 (0, 0))) (hr : Row w .u8 v xs) : Row wx .u8 v xs := by
  rcases hr with hr | ⟨b, off, cap, rfl, hlt, hcap, hc⟩
  · exact Or.inl hr
  · by_cases h0 : xs.length = 0
    · obtain rfl : xs = [] := List.eq_nil_of_length_eq_zero h0
      exact Or.inl ⟨rfl, _, _, rfl⟩
    · have hne := not_state hb (hc 0 (by omega))
      exact Or.inr ⟨b, off, cap, rfl, Nat.lt_of_lt_of_le hlt h.chg.size, hcap, fun j hj => (cell_of_heap (h.chg.block b hlt hne) _).trans (hc j hj)⟩

set_option maxHeartbeats 800000 in
theorem istirCount (g : Nat) (s : S4) (hs : s.ok) (n : Nat) (hn : n ≤ 4611686018427387903) (w : World)
    (hb : w.heap[g]? = some (.cells #[.int .u32 s.a, .int .u32 s.b, .int .u32 s.c, .int .u32 s.d] 49 (0, 0))) :
    Calls Try.prog 27 #[.pointer (some ⟨g, 0, none⟩), .int .i64 (n : Int)] w fun e w' => (∃ r, e = .returned r) ∧ StC g w w' (stirL s (be (n : Int) 4)) := by
  have hlt : g < w.heap.size := (Array.getElem?_eq_some_iff.1 hb).1
  have HB : Hid _ := And.intro hb hs
  clear hb hs
  go_enter Try.func27, Try.ntmps27
  go_wp2_with fail
  go_at_call 31
  refine (high (n : Int) 4 w (by omega) (by omega) (by decide)).mono ?_
  rintro e w1 ⟨r, rfl, o1, b1⟩
  have H1 : Hid _ := And.intro o1 b1
  clear o1 b1
  go_wp2_with fail
  go_at_call 28
  refine (istirAll g s HB.out.2 r _ w1 (row_of_owns H1.out.1) (be_bytes _ _) (by rw [be_length]; decide) ((H1.out.2.block g hlt).trans HB.out.1)).mono ?_
  rintro e w2 ⟨⟨r2, rfl⟩, st⟩
  have H2 : Hid _ := And.intro st True.intro
  clear st
  go_wp2
  go_end0
  exact ⟨⟨_, rfl⟩, ⟨H2.out.1.blk, (Chg.of_below H1.out.2).trans H2.out.1.toC.chg⟩⟩
end Go.Proofs.Ytjdmknlcjejecaa
