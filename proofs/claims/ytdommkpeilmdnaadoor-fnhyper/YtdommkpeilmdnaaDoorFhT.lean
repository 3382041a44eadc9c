import Derived.Test.YtdommkpeilmdnaaDoorFtD
namespace Go.Proofs.YtdommkpeilmdnaaDoor
open Go.RowKit
set_option linter.unusedVariables false

theorem numberU (g : Nat) (c : Value) (xs : List Int) (p : Int) (W : World) (h : Dt W g c xs p) (hp : p ≤ 1000000) :
    Calls Tryd.prog 35 #[.pointer (some ⟨g, 0, none⟩)] W fun e w' => ∃ k : Int, e = .returned (.int .i64 k) ∧ Dt w' g c xs (p + 9) ∧ W.grownBy w' (some g) := by
  obtain ⟨l, s, hd, hs⟩ := h
  refine (numberC g c xs s W hd (by omega)).mono ?_
  rintro e w' ⟨rfl, d, gr⟩
  have q := numS_pos xs s
  exact ⟨_, rfl, ⟨l, _, d, by omega⟩, gr⟩
theorem goodU (g : Nat) (c : Value) (xs : List Int) (p : Int) (W : World) (h : Dt W g c xs p) (hp : p ≤ 1000000) :
    Calls Tryd.prog 30 #[.pointer (some ⟨g, 0, none⟩)] W fun e w' => ∃ k : Int, e = .returned (.int .i64 k) ∧ Dt w' g c xs (p + 12) ∧ W.grownBy w' (some g) := by
  obtain ⟨l, s, hd, hs⟩ := h
  refine (goodC g c xs s W hd (by omega)).mono ?_
  rintro e w' ⟨rfl, d, gr⟩
  have q := gdS_pos xs s
  exact ⟨_, rfl, ⟨l, _, d, by omega⟩, gr⟩
theorem sizeU (g : Nat) (c : Value) (xs : List Int) (p m : Int) (W : World) (h : Dt W g c xs p) (hm0 : 0 ≤ m) (hm1 : m ≤ 2147483648) :
    Calls Tryd.prog 34 #[.pointer (some ⟨g, 0, none⟩), .int .i64 m] W fun e w' => ∃ k : Int, e = .returned (.int .i64 k) ∧ 0 ≤ k ∧ k ≤ m ∧ w' = W := by
  obtain ⟨l, s, hd, hs⟩ := h
  refine (sizeC g c xs m s W hd hm0 hm1).mono ?_
  rintro e w' ⟨rfl, rfl⟩
  refine ⟨_, rfl, ?_, ?_, rfl⟩ <;> unfold szV <;> split <;> omega
theorem bytesU (g : Nat) (c : Value) (xs : List Int) (p : Int) (k : Int) (W : World) (h : Dt W g c xs p) (hp : p ≤ 1000000) (h0 : 0 ≤ k) (h1 : k ≤ 1000) :
    Calls Tryd.prog 33 #[.pointer (some ⟨g, 0, none⟩), .int .i64 k] W fun e w' => ∃ ao cap ys, e = .returned (.slice ao ys.length cap) ∧ Row w' .u8 (.slice ao ys.length cap) ys ∧ (ys.length : Int) = k ∧ Bytes ys ∧ Dt w' g c xs (p + 1000) ∧ W.grownBy w' (some g) ∧ ∀ j, (Value.slice ao ys.length cap).ownBlock = some j → W.heap.size ≤ j := by
  obtain ⟨l, s, hd, hs⟩ := h
  have hgl := drw_lt hd
  obtain ⟨n, rfl⟩ := Int.eq_ofNat_of_zero_le h0
  refine (bytesC g c xs s n W hd (fun b off m cap a e => by have := l b off m cap a e; omega) (by omega) (by omega)).mono ?_
  rintro e w' ⟨r, rfl, o, d, gr⟩
  have q := bysS_pos xs s n
  have o' : w'.ownsRow W.heap.size 5 1 r (bysV xs s n).length ((bysV xs s n).map (Value.int .u8)) := by rw [bysV_length]; exact o
  have R : Row w' .u8 r (bysV xs s n) := row_of_owns o'
  obtain ⟨ao, cap, rfl⟩ := R.form
  exact ⟨ao, cap, bysV xs s n, rfl, R, by rw [bysV_length], bysV_bytes xs s n hd.bytes, ⟨l, _, d, by omega⟩, gr, fun j hj => (o'.lt j hj).1⟩
theorem Dt.ownU {W W' : World} {g : Nat} {c : Value} {xs : List Int} {p : Int} {r : Option Nat} (h : Dt W g c xs p) (hg : W.grownBy W' r) (hr : ∀ k, r = some k → g < k) : Dt W' g c xs p := by
  obtain ⟨l, s, hd, hs⟩ := h
  refine ⟨l, s, hd.kept hg (fun e => ?_) (fun b off n cap h0 e e' => ?_), hs⟩
  · have := hr g e.symm
    omega
  · have := hr b e'.symm
    have := l b off n cap h0 e
    omega
theorem conv_anyU {P : Program} {w : World} {e ts tstr : Nat} {v : Value} {xs : List Int} (hs : P.underlying ts = some (.slice e)) (he : P.underlying e = some (.int .u8)) (hd : P.underlying tstr = some .string)
    (h : Row w .u8 v xs) : (convert ts tstr v).run P w = .ok (.string (strOfNums xs)) w := by
  by_cases h0 : 0 < xs.length
  · obtain ⟨b, off, cap, rfl, hb, hc⟩ := h.at h0
    exact run_convert_bytes_arg w ts e hs he b off xs.length cap xs rfl hc tstr hd
  · obtain rfl : xs = [] := List.eq_nil_of_length_eq_zero (by omega)
    obtain ⟨ao, cap, rfl⟩ := h.form
    cases ao with
    | none => exact run_convert_bytes_nil w ts e hs he 0 cap tstr hd
    | some p => simp [convert, run_underlying hs, run_underlying he, run_underlying hd, Conv.bytesToString, loadCells, loadCellsFrom, strOfNums]; rfl
theorem ixU (i : Int) (h0 : 0 ≤ i) (h1 : i < 17) : ∃ x : Int, ∀ u : World, (Instr.index 9 (.string { data := #[97, 98, 99, 100, 101, 102, 103, 104, 45, 107, 101, 121, 47, 46, 58, 105, 118] }) (.int .i64 i)).run Tryd.prog u = .ok (.int .u8 x) u := by
  have hz : (ByteArray.mk #[97, 98, 99, 100, 101, 102, 103, 104, 45, 107, 101, 121, 47, 46, 58, 105, 118]).size = 17 := rfl
  have hi : 0 ≤ i ∧ i < (ByteArray.mk #[97, 98, 99, 100, 101, 102, 103, 104, 45, 107, 101, 121, 47, 46, 58, 105, 118]).size := ⟨h0, by rw [hz]; exact h1⟩
  exact ⟨_, fun u => (run_index_string u 9 _ .i64 i Tryd.underlying9).trans (dif_pos hi)⟩
theorem strU_size (xs : List Int) : (strOfNums xs).size = xs.length := by
  simp [strOfNums, ByteArray.size]
set_option maxHeartbeats 1000000 in
theorem textU (g : Nat) (c : Value) (xs : List Int) (p : Int) (n : Nat) (W : World) (h : Dt W g c xs p) (hp : p ≤ 900000) (hn : n ≤ 60) :
    Calls Tryd.prog 32 #[.pointer (some ⟨g, 0, none⟩), .int .i64 (n : Int)] W fun e w' => ∃ s : ByteArray, e = .returned (.string s) ∧ s.size = n ∧ Dt w' g c xs (p + 180) ∧ W.grownBy w' (some g) := by
  have hgl := h.lt
  have HD : Hid _ := And.intro h hgl
  clear h hgl
  go_enter Tryd.func32, Tryd.ntmps32
  go_wp2
  go_loopw [5, 6] (fun v i wr => ∃ k : Nat, k ≤ n ∧ i = .int .i64 (k : Int) ∧ ∃ ys : List Int, ys.length = k ∧ wr.ownsRow W.heap.size 5 1 v k (ys.map (Value.int .u8)) ∧ Dt wr g c xs (p + 3 * (k : Int)) ∧ W.grownBy wr (some g)) (fun _ i _ => n - (intOf i).toNat)
  case atStart => exact ⟨0, by omega, rfl, [], rfl, World.ownsRow_lit _ #[] 0 (Nat.le_refl _) (by decide) rfl, (HD.out.1.alloc _).mono (by omega), World.grownBy_alloc W _ (some g)⟩
  case round =>
    obtain ⟨k, hk, rfl, ys, hy, hown, hd, hg⟩ := hrel
    by_cases hlt : k < n
    · have HO : Hid _ := And.intro hown (And.intro hd (And.intro hg hy))
      clear hown hd hg hy
      go_wp2_with fail
      go_at_call 31
      refine (nextT g c xs (p + 3 * (k : Int)) 17 wr HO.out.2.1 (by omega) (by decide) (by decide)).mono ?_
      rintro e w1 ⟨a, rfl, a0, a1, d1, g1⟩
      have HS : Hid _ := And.intro d1 g1
      clear d1 g1
      obtain ⟨x, hx⟩ := ixU a a0 a1
      have oo : Hid ((w1.alloc (.cells #[.int .u8 x] 5)).ownsRow W.heap.size 5 1 u5 k (ys.map (Value.int .u8))) := (own_step HO.out.1 HS.out.2 HD.out.2).alloc _
      have hb1 : W.heap.size ≤ (w1.alloc (.cells #[.int .u8 x] 5)).heap.size := by have q1 := HO.out.2.2.1.size; have q2 := HS.out.2.size; simp; omega
      go_wp2_with (at_builtin; refine wpList_append_row rfl (.tmp 13) (.tmp 17) rfl W.heap.size _ k ys rfl oo.out _ [x] rfl (one_byte w1 x) (by simp; omega) hb1 ?_; intro v3 w3 o3 g3)
      have hr : ∀ j, u5.ownBlock = some j → W.heap.size ≤ j := fun j hj => (HO.out.1.lt j hj).1
      have HR : Hid _ := And.intro o3 (And.intro ((HS.out.1.alloc _).ownU g3 (fun j hj => by have := hr j hj; have := HD.out.2; omega)) (grown_own (grown_trans (grown_trans HO.out.2.2.1 HS.out.2) (World.grownBy_alloc w1 _ (some g))) g3 hr))
      clear o3 g3 hr hx
      go_wp2
      go_roundw
      case rel =>
        refine ⟨k + 1, by omega, by go_num, ys ++ [x], by have := HO.out.2.2.2; simp; omega, HR.out.1, HR.out.2.1.mono (by omega), HR.out.2.2⟩
      case measure => simp [intOf]; omega
    · obtain rfl : k = n := by omega
      have R : Row wr .u8 u5 ys := row_of_owns (show wr.ownsRow W.heap.size 5 1 u5 ys.length (ys.map (Value.int .u8)) by rw [hy]; exact hown)
      have hcv := conv_anyU (P := Tryd.prog) Tryd.underlying22 Tryd.underlying5 Tryd.underlying9 R
      have HR : Hid _ := And.intro hd (And.intro hg hy)
      clear hown hd hg R hy
      go_wp2
      go_ret
      exact ⟨_, rfl, by rw [strU_size]; exact HR.out.2.2, HR.out.1.mono (by omega), HR.out.2.1⟩
end Go.Proofs.YtdommkpeilmdnaaDoor
