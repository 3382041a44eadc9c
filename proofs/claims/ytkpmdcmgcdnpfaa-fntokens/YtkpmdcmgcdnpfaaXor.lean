import Derived.Test.YtkpmdcmgcdnpfaaAppRow
import Derived.Test.YtkpmdcmgcdnpfaaVals
import Derived.BigRegion
namespace Go.Proofs.Ytkpmdcmgcdnpfaa
open Go.RowKit
set_option linter.unusedVariables false

/-- The first k bytes of xs with ys laid over them. -/
def xl (xs ys : List Int) (k : Nat) : List Int := (List.range k).map fun j => bits .xor .u8 (xs.getD j 0) (ys.getD j 0)
theorem xl_length (xs ys : List Int) (k : Nat) : (xl xs ys k).length = k := by simp [xl]
theorem xl_succ (xs ys : List Int) (k : Nat) : xl xs ys (k + 1) = xl xs ys k ++ [bits .xor .u8 (xs.getD k 0) (ys.getD k 0)] := by simp [xl, List.range_succ]
theorem xor8_bd (x y : Int) : 0 ≤ bits .xor .u8 x y ∧ bits .xor .u8 x y < 256 := by
  have h : bits .xor .u8 x y = IntKind.u8.wrap ((BitVec.ofInt 8 x ^^^ BitVec.ofInt 8 y).toNat : Int) := rfl
  rw [h]
  simp [IntKind.wrap, IntKind.bits, IntKind.signed]
  omega
theorem xl_bytes (xs ys : List Int) (k : Nat) : Bytes (xl xs ys k) := by
  intro x hx
  obtain ⟨j, _, rfl⟩ := List.mem_map.1 hx
  exact xor8_bd _ _
theorem one_byte (w : World) (x : Int) : Row (w.alloc (.cells #[.int .u8 x] 5)) .u8 (.slice (some ⟨w.heap.size, 0, none⟩) 1 1) [x] := by
  refine Or.inr ⟨w.heap.size, 0, 1, rfl, by simp, ⟨Nat.le_refl _, by unfold maxLen; decide⟩, fun j hj => ?_⟩
  have : j = 0 := by simpa using hj
  subst this
  have := (MapKept.heap_alloc w (.cells #[.int .u8 x] 5)).1
  simp only [World.cell?, this]
  rfl

theorem xor_step {w wr w3 : World} {o : Obj} {v : Value} {n : Nat} {xs : List Value} (ho : wr.ownsRow w.heap.size 5 1 v n xs) (hs : w.heap.size ≤ wr.heap.size) (g : (wr.drew.alloc o).grownBy w3 v.ownBlock) : Below w.heap.size wr w3 := by
  have b1 : Below w.heap.size wr (wr.alloc o) := (Below.refl _ _).alloc hs _
  have b2 : Below w.heap.size wr (wr.drew.alloc o) := ⟨b1.os, b1.tape, b1.output, b1.size, b1.block⟩
  exact b2.grown g (Nat.le_trans hs b2.size) (fun k hk => (ho.lt k hk).1)

set_option maxHeartbeats 2000000 in
theorem xor_some (b off cap b' off' m cap' n : Nat) (xs ys : List Int) (w : World) (hl : xs.length = n) (hm : ys.length = m) (hnm : n ≤ m) (hmm : m ≤ 1099511627776) (hb : b < w.heap.size) (hb' : b' < w.heap.size)
    (hc : ∀ j, j < n → w.cell? ⟨b, off + j, none⟩ = some (.int .u8 (xs.getD j 0))) (hc' : ∀ j, j < m → w.cell? ⟨b', off' + j, none⟩ = some (.int .u8 (ys.getD j 0))) :
    Calls Try.prog 42 #[.slice (some ⟨b, off, none⟩) n cap, .slice (some ⟨b', off', none⟩) m cap'] w fun e w' => ∃ r, e = .returned r ∧ w'.ownsRow w.heap.size 5 1 r n ((xl xs ys n).map (Value.int .u8)) ∧ Below w.heap.size w w' := by
  have HC : Hid _ := And.intro hc hc'
  clear hc hc' hl hm
  go_enter Try.func42, Try.ntmps42
  go_wp2
  go_loopw [5, 6] (fun v i wr => ∃ k : Nat, k ≤ n ∧ i = .int .i64 (k : Int) ∧ wr.ownsRow w.heap.size 5 1 v k ((xl xs ys k).map (Value.int .u8)) ∧ Below w.heap.size w wr) (fun _ i _ => n - (intOf i).toNat)
  case atStart => exact ⟨0, by omega, rfl, World.ownsRow_lit _ #[] 0 (Nat.le_refl _) (by decide) rfl, (Below.refl _ _).alloc (Nat.le_refl _) _⟩
  case round =>
    obtain ⟨k, hk, rfl, hown, hbl⟩ := hrel
    obtain ⟨ao', cp', ev⟩ := (row_of_owns hown).form
    rw [xl_length] at ev
    subst ev
    by_cases hlt : k < n
    · have cx : wr.drew.cell? ⟨b, off + k, none⟩ = some (.int .u8 (xs.getD k 0)) := (hbl.cell (p := ⟨b, off + k, none⟩) hb).trans (HC.out.1 k hlt)
      have cy : wr.drew.cell? ⟨b', off' + k, none⟩ = some (.int .u8 (ys.getD k 0)) := (hbl.cell (p := ⟨b', off' + k, none⟩) hb').trans (HC.out.2 k (by omega))
      have hkm : k < m := by omega
      have es := xl_succ xs ys k
      obtain ⟨x, ex⟩ : ∃ x, x = xs.getD k 0 := ⟨_, rfl⟩
      obtain ⟨y, ey⟩ : ∃ y, y = ys.getD k 0 := ⟨_, rfl⟩
      rw [← ex, ← ey] at es
      rw [← ex] at cx
      rw [← ey] at cy
      have HO : Hid _ := And.intro hown (And.intro hbl es)
      have oo : Hid ((wr.drew.alloc (.cells #[.int .u8 (bits .xor .u8 x y)] 5)).ownsRow w.heap.size 5 1 (.slice ao' k cp') k ((xl xs ys k).map (Value.int .u8))) := hown.alloc _
      have bb : Hid (w.heap.size ≤ (wr.drew.alloc (.cells #[.int .u8 (bits .xor .u8 x y)] 5)).heap.size) := by have := hbl.size; show w.heap.size ≤ (wr.alloc _).heap.size; simp; omega
      clear hown hbl es ex ey
      go_wp2
      go_region_law (refine step_append_row rfl (.tmp 14) (.tmp 24) rfl w.heap.size (.slice ao' k cp') k (xl xs ys k) rfl oo.out (.slice (some ⟨wr.heap.size, 0, none⟩) 1 1) [bits .xor .u8 x y] rfl (one_byte wr.drew _) (by simp; omega) bb.out ?_; intro v3 w3 o3 g3)
      all_goals
        have HR : Hid _ := And.intro o3 (HO.out.2.1.trans (xor_step HO.out.1 HO.out.2.1.size g3))
        clear o3 g3 cx cy
        go_wp2
        go_roundw
        case rel =>
          refine ⟨k + 1, by omega, by go_num, ?_, HR.out.2⟩
          rw [HO.out.2.2]
          exact HR.out.1
        case measure => simp [intOf]; omega
    · obtain rfl : k = n := by omega
      have HR : Hid _ := And.intro hown hbl
      clear hown hbl
      go_wp2
      go_ret
      exact ⟨_, rfl, HR.out.1, HR.out.2⟩

theorem xor_none (ao ao' : Option Addr) (cap m cap' : Nat) (w : World) :
    Calls Try.prog 42 #[.slice ao 0 cap, .slice ao' m cap'] w fun e w' => ∃ r, e = .returned r ∧ w'.ownsRow w.heap.size 5 1 r 0 (([] : List Int).map (Value.int .u8)) ∧ Below w.heap.size w w' := by
  go_enter Try.func42, Try.ntmps42
  go_wp2
  refine wp_loop_rounds 1 ?_
  rw [rounds_succ]
  go_wp2
  go_ret
  exact ⟨_, rfl, World.ownsRow_lit _ #[] 0 (Nat.le_refl _) (by decide) rfl, (Below.refl _ _).alloc (Nat.le_refl _) _⟩

theorem xorC (va vb : Value) (xs ys : List Int) (w : World) (ha : Row w .u8 va xs) (hb : Row w .u8 vb ys) (h : xs.length ≤ ys.length) (hm : ys.length ≤ 1099511627776) :
    Calls Try.prog 42 #[va, vb] w fun e w' => ∃ r, e = .returned r ∧ w'.ownsRow w.heap.size 5 1 r xs.length ((xl xs ys xs.length).map (Value.int .u8)) ∧ Below w.heap.size w w' := by
  by_cases h0 : 0 < xs.length
  · obtain ⟨b, off, cap, rfl, hl, hc⟩ := ha.at h0
    obtain ⟨b', off', cap', rfl, hl', hc'⟩ := hb.at (by omega)
    exact xor_some b off cap b' off' ys.length cap' xs.length xs ys w rfl rfl h hm hl hl' hc hc'
  · obtain ⟨ao, cap, rfl⟩ := ha.form
    obtain ⟨ao', cap', rfl⟩ := hb.form
    have e : xs.length = 0 := by omega
    rw [e]
    exact xor_none ao ao' cap ys.length cap' w
end Go.Proofs.Ytkpmdcmgcdnpfaa
