import Derived.Test.YtpdclbfjngmppaaDoorSrc4
import Derived.Test.YtpdclbfjngmppaaDoorXor
namespace Go.Proofs.YtpdclbfjngmppaaDoor
open Go.RowKit
set_option linter.unusedVariables false

/-- The source's states behind k drawn bytes; the bytes. -/
def bysS (xs : List Int) (s : St) : Nat → St
  | 0 => s
  | k + 1 => bytS xs (bysS xs s k)
def bysV (xs : List Int) (s : St) (n : Nat) : List Int := (List.range n).map fun k => bytV xs (bysS xs s k)
theorem bysV_length (xs : List Int) (s : St) (n : Nat) : (bysV xs s n).length = n := by simp [bysV]
theorem bysV_succ (xs : List Int) (s : St) (n : Nat) : bysV xs s (n + 1) = bysV xs s n ++ [bytV xs (bysS xs s n)] := by simp [bysV, List.range_succ]
theorem bysS_pos (xs : List Int) (s : St) (k : Nat) : (bysS xs s k).pos = s.pos + k := by
  induction k with
  | zero => simp [bysS]
  | succ k ih => simp only [bysS, bytS_pos, ih]; omega
theorem bysV_bytes (xs : List Int) (s : St) (n : Nat) (h : Bytes xs) : Bytes (bysV xs s n) := by
  intro x hx
  obtain ⟨j, _, rfl⟩ := List.mem_map.1 hx
  exact bytV_bd xs _ h

theorem src_pushB {w wr w1 w2 : World} {g k : Nat} {c v : Value} {xs : List Int} {s s' : St} {o : Obj} (hlow : Low w.heap.size c) (hgl : g < w.heap.size)
    (hown : wr.ownsRow w.heap.size 5 1 v k ((bysV xs s k).map (Value.int .u8))) (hg : w.grownBy wr (some g)) (hg1 : wr.grownBy w1 (some g)) (hd1 : Drw w1 g c xs s') (hgrow : (w1.alloc o).grownBy w2 v.ownBlock) :
    Drw w2 g c xs s' ∧ w.grownBy w2 (some g) := by
  have hr : ∀ j, v.ownBlock = some j → w.heap.size ≤ j := fun j hj => (hown.lt j hj).1
  refine ⟨?_, ?_⟩
  · refine (drw_alloc hd1 o).kept hgrow (fun e => by have := hr g e.symm; omega) (fun b off n cap h0 e e' => ?_)
    have h1 := hlow b off n cap h0 e
    have h2 := hr b e'.symm
    omega
  · exact grown_own (grown_trans (grown_trans hg hg1) (World.grownBy_alloc w1 o (some g))) hgrow hr

set_option maxHeartbeats 1000000 in
theorem bytesC (g : Nat) (c : Value) (xs : List Int) (s : St) (n : Nat) (w : World) (h : Drw w g c xs s) (hlow : Low w.heap.size c) (hp : s.pos ≤ 1099511500000) (hn : n ≤ 65536) :
    Calls Tryd.prog 11 #[.pointer (some ⟨g, 0, none⟩), .int .i64 (n : Int)] w fun e w' => ∃ r, e = .returned r ∧ w'.ownsRow w.heap.size 5 1 r n ((bysV xs s n).map (Value.int .u8)) ∧ Drw w' g c xs (bysS xs s n) ∧ w.grownBy w' (some g) := by
  have hgl := drw_lt h
  have hB := h.bytes
  have HG : Hid (∀ (k : Nat) (wr : World), k ≤ 65536 → Drw wr g c xs (bysS xs s k) → Calls Tryd.prog 18 #[.pointer (some ⟨g, 0, none⟩)] wr fun e w' => e = .returned (.int .i64 (bytV xs (bysS xs s k))) ∧ Drw w' g c xs (bysS xs s (k + 1)) ∧ wr.grownBy w' (some g)) :=
    fun k wr hk hd => byteC g c xs (bysS xs s k) wr hd (by rw [bysS_pos]; omega)
  have HD : Hid _ := And.intro h (And.intro hlow hB)
  clear h hlow hB
  go_enter Tryd.func11, Tryd.ntmps11
  go_wp2
  go_loopw [5, 6] (fun v i wr => ∃ k : Nat, k ≤ n ∧ i = .int .i64 (k : Int) ∧ wr.ownsRow w.heap.size 5 1 v k ((bysV xs s k).map (Value.int .u8)) ∧ Drw wr g c xs (bysS xs s k) ∧ w.grownBy wr (some g)) (fun _ i _ => n - (intOf i).toNat)
  case atStart => exact ⟨0, by omega, rfl, World.ownsRow_lit _ #[] 0 (Nat.le_refl _) (by decide) rfl, drw_alloc HD.out.1 _, World.grownBy_alloc w _ (some g)⟩
  case round =>
    obtain ⟨k, hk, rfl, hown, hd, hg⟩ := hrel
    by_cases hlt : k < n
    · have C := HG.out k wr (by omega) hd
      have hx := bytV_bd xs (bysS xs s k) HD.out.2.2
      obtain ⟨x, ex⟩ : ∃ x, x = bytV xs (bysS xs s k) := ⟨_, rfl⟩
      rw [← ex] at C hx
      have EX : Hid (x = bytV xs (bysS xs s k)) := ex
      have HO : Hid _ := And.intro hown (And.intro hd hg)
      clear ex hown hd hg
      go_wp2_with fail
      go_at_call 18
      refine C.mono ?_
      rintro e w1 ⟨rfl, hd1, hg1⟩
      have HS : Hid _ := And.intro hd1 hg1
      clear hd1 hg1 C
      have oo : Hid ((w1.alloc (.cells #[.int .u8 x] 5)).ownsRow w.heap.size 5 1 _ k ((bysV xs s k).map (Value.int .u8))) := (own_step HO.out.1 HS.out.2 hgl).alloc _
      have hb1 : w.heap.size ≤ (w1.alloc (.cells #[.int .u8 x] 5)).heap.size := by have a := HO.out.2.2.size; have b := HS.out.2.size; simp; omega
      go_wp2_with (at_builtin; refine wpList_append_row rfl (.tmp 13) (.tmp 17) rfl w.heap.size _ k (bysV xs s k) rfl oo.out _ [x] rfl (one_byte w1 x) (by simp; omega) hb1 ?_; intro v3 w3 o3 g3)
      have P := src_pushB (s := s) HD.out.2.1 hgl HO.out.1 HO.out.2.2 HS.out.2 HS.out.1 g3
      have HR : Hid _ := And.intro o3 P
      clear o3 g3 P
      go_wp2
      go_roundw
      case rel =>
        refine ⟨k + 1, by omega, by go_num, ?_, HR.out.2.1, HR.out.2.2⟩
        rw [bysV_succ, ← EX.out]
        exact HR.out.1
      case measure => simp [intOf]; omega
    · obtain rfl : k = n := by omega
      have HR : Hid _ := And.intro hown (And.intro hd hg)
      clear hown hd hg
      go_wp2
      go_ret
      exact ⟨_, rfl, HR.out.1, HR.out.2.1, HR.out.2.2⟩
end Go.Proofs.YtpdclbfjngmppaaDoor
