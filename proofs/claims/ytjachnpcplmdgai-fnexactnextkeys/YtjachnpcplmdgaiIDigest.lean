import Derived.Test.YtjachnpcplmdgaiIParts
namespace Go.Proofs.Ytjachnpcplmdgai
open Go.RowKit
set_option linter.unusedVariables false

def digestV (ks ds : List Int) : List Int := if ks.length ≤ 65536 ∧ ds.length ≤ 65536 then digV ks ds else []
theorem digestV_length (ks ds : List Int) : (digestV ks ds).length ≤ 16 := by
  unfold digestV
  split
  · rw [digV_length]; decide
  · decide

theorem owns_empty (w : World) (e : TypeId) : (w.alloc (.cells #[] e)).ownsRow w.heap.size e 1 (.slice (some ⟨w.heap.size, 0, none⟩) 0 0) 0 [] :=
  ⟨rfl, Or.inr ⟨w.heap.size, 0, #[], rfl, Nat.le_refl _, (MapKept.heap_alloc w _).1, Nat.le_refl _, Nat.zero_le _, rfl, rfl⟩⟩
/-- The model's own: the test of the lengths, then the digest. -/
theorem specDigest_long (ak ad : Option Addr) (nk nd ck cd : Nat) (w : World) (h : ¬ (nk ≤ 65536 ∧ nd ≤ 65536)) (mk : nk ≤ 9223372036854775807) (md : nd ≤ 9223372036854775807) :
    Calls Try.prog 13 #[.slice ak nk ck, .slice ad nd cd] w fun e w' => ∃ r, e = .returned r ∧ w'.ownsRow w.heap.size 5 1 r 0 [] ∧ Below w.heap.size w w' := by
  by_cases h1 : nk ≤ 65536
  · have h2 : 65536 < nd := by omega
    clear h
    go_enter Try.func13, Try.ntmps13
    go_wp2
    go_ret
    exact ⟨_, rfl, owns_empty w _, (Below.refl _ _).alloc (Nat.le_refl _) _⟩
  · have h2 : 65536 < nk := by omega
    clear h h1
    go_enter Try.func13, Try.ntmps13
    go_wp2
    go_ret
    exact ⟨_, rfl, owns_empty w _, (Below.refl _ _).alloc (Nat.le_refl _) _⟩
theorem implDigest_long (ak ad : Option Addr) (nk nd ck cd : Nat) (w : World) (h : ¬ (nk ≤ 65536 ∧ nd ≤ 65536)) (mk : nk ≤ 9223372036854775807) (md : nd ≤ 9223372036854775807) :
    Calls Try.prog 15 #[.slice ak nk ck, .slice ad nd cd] w fun e w' => ∃ r, e = .returned r ∧ w'.ownsRow w.heap.size 52 1 r 0 [] ∧ Below w.heap.size w w' := by
  by_cases h1 : nk ≤ 65536
  · have h2 : 65536 < nd := by omega
    clear h
    go_enter Try.func15, Try.ntmps15
    go_wp2
    go_ret
    exact ⟨_, rfl, World.ownsRow_nil _ _ _ _, Below.refl _ _⟩
  · have h2 : 65536 < nk := by omega
    clear h h1
    go_enter Try.func15, Try.ntmps15
    go_wp2
    go_ret
    exact ⟨_, rfl, World.ownsRow_nil _ _ _ _, Below.refl _ _⟩
theorem specDigest_ok (ak ad : Option Addr) (nk nd ck cd : Nat) (ks ds : List Int) (w : World) (rk : Row w .u8 (.slice ak nk ck) ks) (rd : Row w .u8 (.slice ad nd cd) ds) (bk : Bytes ks) (bd : Bytes ds) (ek : nk = ks.length) (ed : nd = ds.length) (h1 : nk ≤ 65536) (h2 : nd ≤ 65536) :
    Calls Try.prog 13 #[.slice ak nk ck, .slice ad nd cd] w fun e w' => ∃ r, e = .returned r ∧ w'.ownsRow w.heap.size 5 1 r 16 ((digV ks ds).map (Value.int .u8)) ∧ Below w.heap.size w w' := by
  have HD : Hid _ := And.intro (specDigest _ _ ks ds w rk rd bk bd (by omega) (by omega)) True.intro
  clear rk rd ek ed bk bd
  go_enter Try.func13, Try.ntmps13
  go_wp2_with fail
  go_at_call 35
  refine HD.out.1.mono ?_
  rintro e w1 ⟨r, rfl, o1, b1⟩
  have H1 : Hid _ := And.intro o1 b1
  clear o1 b1
  go_wp2
  go_ret
  exact ⟨_, rfl, H1.out.1, H1.out.2⟩

/-- One part, two parts. -/
theorem parts1 {w : World} {v : Value} {xs : List Int} (h : Row w .u8 v xs) (t : TypeId) : Parts (w.alloc (.cells #[v] t)) (.slice (some ⟨w.heap.size, 0, none⟩) 1 1) [xs] := by
  refine ⟨w.heap.size, 1, rfl, by simp, fun j hj => ?_⟩
  obtain rfl : j = 0 := by simp at hj; omega
  exact ⟨v, by rw [blkS_cell (MapKept.heap_alloc w _).1]; rfl, h.below ((Below.refl _ _).alloc (Nat.le_refl _) _)⟩
theorem parts2 {w : World} {v v2 : Value} {xs ys : List Int} (h : Row w .u8 v xs) (h2 : Row w .u8 v2 ys) (t : TypeId) : Parts (w.alloc (.cells #[v, v2] t)) (.slice (some ⟨w.heap.size, 0, none⟩) 2 2) [xs, ys] := by
  refine ⟨w.heap.size, 2, rfl, by simp, fun j hj => ?_⟩
  have hb := (Below.refl w.heap.size w).alloc (Nat.le_refl _) (.cells #[v, v2] t)
  rcases (show j = 0 ∨ j = 1 by simp at hj; omega) with rfl | rfl
  · exact ⟨v, by rw [blkS_cell (MapKept.heap_alloc w _).1]; rfl, h.below hb⟩
  · exact ⟨v2, by rw [blkS_cell (MapKept.heap_alloc w _).1]; rfl, h2.below hb⟩
theorem bytes_getD2 {xs ys : List Int} (hx : Bytes xs) (hy : Bytes ys) (j : Nat) : Bytes ([xs, ys].getD j []) := by
  match j with
  | 0 => exact hx
  | 1 => exact hy
  | n + 2 => intro x h; simp [List.getD] at h
theorem bytes_getD1 {xs : List Int} (hx : Bytes xs) (j : Nat) : Bytes ([xs].getD j []) := by
  match j with
  | 0 => exact hx
  | n + 1 => intro x h; simp [List.getD] at h

set_option maxHeartbeats 1000000 in
theorem implDigest_ok (ak ad : Option Addr) (nk nd ck cd : Nat) (ks ds : List Int) (w : World) (rk : Row w .u8 (.slice ak nk ck) ks) (rd : Row w .u8 (.slice ad nd cd) ds) (bk : Bytes ks) (bd : Bytes ds) (ek : nk = ks.length) (ed : nd = ds.length) (h1 : nk ≤ 65536) (h2 : nd ≤ 65536) :
    Calls Try.prog 15 #[.slice ak nk ck, .slice ad nd cd] w fun e w' => ∃ r, e = .returned r ∧ w'.ownsRow w.heap.size 52 1 r 16 ((digV ks ds).map (Value.int .u8)) ∧ Below w.heap.size w w' := by
  have HH : Hid _ := And.intro rk (And.intro rd (And.intro bk (And.intro bd (And.intro ek ed))))
  clear rk rd ek ed bk bd
  go_enter Try.func15, Try.ntmps15
  go_wp2_with fail
  go_at_call 36
  refine (iparts _ _ ks [ds] _ (HH.out.1.below ((Below.refl _ _).alloc (Nat.le_refl _) _)) HH.out.2.2.1 (by have := HH.out.2.2.2.2.1; omega) (parts1 HH.out.2.1 _) (bytes_getD1 HH.out.2.2.2.1) (by have := HH.out.2.2.2.2.2; simp; omega) (by simp)).mono ?_
  rintro e w1 ⟨rfl, b1⟩
  have ef : [ds].flatten = ds := by simp
  rw [ef]
  have hz : w.heap.size < w1.heap.size := by have := b1.size; simp at this; omega
  have B1 : Hid (Below w.heap.size w w1) := ((Below.refl _ _).alloc (Nat.le_refl _) _).trans (b1.mono (by simp))
  clear b1 ef
  go_wp2_with (refine wpList_store_at rfl 52 (.tmp 5) (.tmp 17) rfl w1.heap.size _ rfl rfl 52 _ (MapKept.heap_alloc w1 _).1 (infoBs _ (digV_length ks ds)) (by simp [u8s_length, digV_length]) (u8s_all _) ?_; intro w2 h2 n2)
  go_ret
  refine ⟨_, rfl, ⟨by simp [digV_length], Or.inr ⟨w1.heap.size, 16, _, rfl, by omega, h2, by decide, by decide, by simp [u8s_length, digV_length], ?_⟩⟩, (B1.out.alloc (by omega) _).trans (n2.below (by omega))⟩
  show (u8s (digV ks ds)).toArray.toList.take (16 * 1) = u8s (digV ks ds)
  rw [List.take_of_length_le (by simp [u8s_length, digV_length])]
end Go.Proofs.Ytjachnpcplmdgai
