import Derived.Test.YtiiefhpkkjocbakDoorPartsB
import Derived.Test.YtiiefhpkkjocbakDoorDigits
import Derived.Test.YtiiefhpkkjocbakDoorAppRow
namespace Go.Proofs.YtiiefhpkkjocbakDoor
open Go.RowKit
set_option linter.unusedVariables false

/-- A version, and both ids with their lengths ahead. -/
def idsV (v : Int) (d s : List Int) : List Int := (((be v 4 ++ [(d.length : Int)]) ++ d) ++ [(s.length : Int)]) ++ s
theorem idsV_length (v : Int) (d s : List Int) : (idsV v d s).length = 6 + d.length + s.length := by simp [idsV, be_length]; omega
theorem wrap8 (n : Nat) (h : n ≤ 8) : IntKind.u8.wrap (n : Int) = (n : Int) := by rw [IntKind.wrap_u8]; omega
set_option maxRecDepth 20000 in
set_option maxHeartbeats 2000000 in
theorem idsC (v : Int) (ad asv : Option Addr) (n m pd ps : Nat) (d s : List Int) (w : World) (h0 : 0 ≤ v) (h1 : v ≤ 9223372036854775807) (rd : Row w .u8 (.slice ad n pd) d) (rs : Row w .u8 (.slice asv m ps) s) (ed : d.length = n) (es : s.length = m) (hn : n ≤ 8) (hm : m ≤ 8) :
    Calls Tryd.prog 35 #[.int .i64 v, .slice ad n pd, .slice asv m ps] w fun e w' => ∃ r, e = .returned r ∧ w'.ownsRow w.heap.size 5 1 r (idsV v d s).length ((idsV v d s).map (Value.int .u8)) ∧ Below w.heap.size w w' := by
  have HH : Hid _ := And.intro rd (And.intro rs (And.intro ed es))
  have e1 := wrap8 n hn
  have e2 := wrap8 m hm
  clear rd rs ed es
  go_enter Tryd.func35, Tryd.ntmps35
  go_wp2_with fail
  go_at_call 51
  refine (digits 4 v w h0 h1 (by decide)).mono ?_
  rintro e w1 ⟨r1, rfl, o1, b1⟩
  have H1 : Hid _ := And.intro o1 b1
  clear o1 b1
  have P1 : Hid _ := And.intro (H1.out.1.alloc (.cells #[.int .u8 (n : Int)] 5)) (H1.out.2.alloc H1.out.2.size (.cells #[.int .u8 (n : Int)] 5))
  go_wp2_with (first
    | (at_builtin; refine wpList_append_row rfl (.tmp 10) (.tmp 14) rfl w.heap.size r1 4 (be v 4) rfl P1.out.1 _ [(n : Int)] rfl (one_row w1 _) (by simp) P1.out.2.size ?_; intro q2 w2 o2 g2; have H2 : Hid _ := And.intro o2 (P1.out.2.grown g2 P1.out.2.size (fun q hq => (P1.out.1.lt q hq).1)); clear o2 g2)
    | (at_builtin; refine wpList_append_row rfl (.tmp 16) (.tmp 17) rfl w.heap.size q2 _ _ rfl H2.out.1 _ d rfl (HH.out.1.below H2.out.2) (by rw [HH.out.2.2.1]; simp; omega) H2.out.2.size ?_; intro q3 w3 o3 g3; have H3 : Hid _ := And.intro o3 (H2.out.2.grown g3 H2.out.2.size (fun q hq => (H2.out.1.lt q hq).1)); have P3 : Hid _ := And.intro (H3.out.1.alloc (.cells #[.int .u8 (m : Int)] 5)) (H3.out.2.alloc H3.out.2.size (.cells #[.int .u8 (m : Int)] 5)); clear o3 g3)
    | (at_builtin; refine wpList_append_row rfl (.tmp 19) (.tmp 23) rfl w.heap.size q3 _ _ rfl P3.out.1 _ [(m : Int)] rfl (one_row w3 _) (by rw [HH.out.2.2.1]; simp; omega) P3.out.2.size ?_; intro q4 w4 o4 g4; have H4 : Hid _ := And.intro o4 (P3.out.2.grown g4 P3.out.2.size (fun q hq => (P3.out.1.lt q hq).1)); clear o4 g4)
    | (at_builtin; refine wpList_append_row rfl (.tmp 25) (.tmp 26) rfl w.heap.size q4 _ _ rfl H4.out.1 _ s rfl (HH.out.2.1.below H4.out.2) (by rw [HH.out.2.2.1, HH.out.2.2.2]; simp; omega) H4.out.2.size ?_; intro q5 w5 o5 g5; have H5 : Hid _ := And.intro o5 (H4.out.2.grown g5 H4.out.2.size (fun q hq => (H4.out.1.lt q hq).1)); clear o5 g5))
  go_ret
  refine ⟨_, rfl, ?_, H5.out.2⟩
  have := H5.out.1
  have el : (idsV v d s).length = 4 + [(n : Int)].length + d.length + [(m : Int)].length + s.length := by simp [idsV, be_length] <;> omega
  rw [el]
  unfold idsV
  rw [HH.out.2.2.1, HH.out.2.2.2] at *
  exact this
end Go.Proofs.YtiiefhpkkjocbakDoor
