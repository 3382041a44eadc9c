import Derived.Test.YtdhkcejfcmobcaaDoorQpH
import Derived.Laws.BytesArg
import Derived.Test.YtdhkcejfcmobcaaDoorBlocks
namespace Go.Proofs.YtdhkcejfcmobcaaDoor
open Go.RowKit
set_option linter.unusedVariables false

/-- A number of three digits as a text. -/
def thr (n : Int) : ByteArray := strOfNums [48 + n / 100, 48 + n / 10 % 10, 48 + n % 10]
set_option maxHeartbeats 1000000 in
theorem threeS (n : Int) (w : World) (h0 : 100 ≤ n) (h1 : n ≤ 599) : Calls Tryd.prog 20 #[.int .i64 n] w fun e w' => e = .returned (.string (thr n)) ∧ Below w.heap.size w w' := by
  have q1 : n.tdiv 100 = n / 100 := Int.tdiv_eq_ediv_of_nonneg (by omega)
  have q2 : n.tdiv 10 = n / 10 := Int.tdiv_eq_ediv_of_nonneg (by omega)
  have q3 : (n / 10).tmod 10 = n / 10 % 10 := Int.tmod_eq_emod_of_nonneg (by omega)
  have q4 : n.tmod 10 = n % 10 := Int.tmod_eq_emod_of_nonneg (by omega)
  obtain ⟨x, ex⟩ : ∃ x, x = n / 100 := ⟨_, rfl⟩
  obtain ⟨y, ey⟩ : ∃ y, y = n / 10 % 10 := ⟨_, rfl⟩
  obtain ⟨z, ez⟩ : ∃ z, z = n % 10 := ⟨_, rfl⟩
  have hx : 1 ≤ x ∧ x ≤ 5 := by omega
  have hy : 0 ≤ y ∧ y ≤ 9 := by omega
  have hz : 0 ≤ z ∧ z ≤ 9 := by omega
  obtain ⟨x0, x1⟩ := hx
  obtain ⟨y0, y1⟩ := hy
  obtain ⟨z0, z1⟩ := hz
  have hcv : (convert 61 9 (.slice (some ⟨w.heap.size, 0, none⟩) 3 3)).run Tryd.prog (w.alloc (.cells #[.int .u8 (48 + x), .int .u8 (48 + y), .int .u8 (48 + z)] 5)) = .ok (.string (strOfNums [48 + x, 48 + y, 48 + z])) (w.alloc (.cells #[.int .u8 (48 + x), .int .u8 (48 + y), .int .u8 (48 + z)] 5)) := by
    refine run_convert_bytes_arg _ 61 5 Tryd.underlying61 Tryd.underlying5 w.heap.size 0 3 3 [48 + x, 48 + y, 48 + z] rfl (fun i hi => ?_) 9 Tryd.underlying9
    have k := heap_alloc_new w (.cells #[.int .u8 (48 + x), .int .u8 (48 + y), .int .u8 (48 + z)] 5)
    obtain rfl | rfl | rfl : i = 0 ∨ i = 1 ∨ i = 2 := by omega
    · exact bk_cell k 0
    · exact bk_cell k 1
    · exact bk_cell k 2
  have e : thr n = strOfNums [48 + x, 48 + y, 48 + z] := by rw [ex, ey, ez]; rfl
  rw [e]
  have b0 : Below w.heap.size w (w.alloc (.cells #[.int .u8 (48 + x), .int .u8 (48 + y), .int .u8 (48 + z)] 5)) := (Below.refl _ _).alloc (Nat.le_refl _) _
  have H : Hid _ := And.intro b0 True.intro
  rw [← ex] at q1
  rw [← ey] at q3
  rw [← ez] at q4
  generalize strOfNums [48 + x, 48 + y, 48 + z] = T at *
  have ex10 : 0 ≤ n / 10 ∧ n / 10 ≤ 59 := by omega
  clear b0 e ex ey ez
  go_enter Tryd.func20, Tryd.ntmps20
  go_wp2
  go_ret
  exact ⟨rfl, H.out.1⟩
end Go.Proofs.YtdhkcejfcmobcaaDoor
