import Derived.Test.YtiiefhpkkjocbalIConcat
import Derived.Test.YtiiefhpkkjocbalIDigest
import Derived.Test.YtiiefhpkkjocbalRpS
namespace Go.Proofs.Ytiiefhpkkjocbal
open Go.RowKit
set_option linter.unusedVariables false

set_option maxHeartbeats 1000000 in
theorem irp_bad (ak ac : Option Addr) (n m pk pc : Nat) (w : World) (h : n ≠ 8 ∨ m < 13 ∨ 100 < m) (hn : n ≤ 9223372036854775807) (hm : m ≤ 9223372036854775807) :
    Calls Try.prog 13 #[.slice ak n pk, .slice ac m pc] w fun e w' => ∃ r, e = .returned (.tuple #[r, .int .i64 1]) ∧ w'.ownsRow w.heap.size 5 1 r 0 (([] : List Int).map (Value.int .u8)) ∧ Below w.heap.size w w' := by
  by_cases h8 : n = 8
  · subst h8
    by_cases h13 : m < 13
    · clear h
      go_enter Try.func13, Try.ntmps13
      go_wp2
      go_ret2
      exact ⟨_, rfl, World.ownsRow_nil _ _ _ _, Below.refl _ _⟩
    · have h100 : 100 < m := by omega
      clear h
      go_enter Try.func13, Try.ntmps13
      go_wp2
      go_ret2
      exact ⟨_, rfl, World.ownsRow_nil _ _ _ _, Below.refl _ _⟩
  · have hne : ((n : Int) != 8) = true := by simp; omega
    clear h h8
    go_enter Try.func13, Try.ntmps13
    go_wp2
    go_ret2
    exact ⟨_, rfl, World.ownsRow_nil _ _ _ _, Below.refl _ _⟩
set_option maxRecDepth 20000 in
set_option maxHeartbeats 1000000 in
theorem irp_ok (ak ac : Option Addr) (m pk pc : Nat) (ts js : List Int) (w : World) (hk : Row w .u8 (.slice ak 8 pk) ts) (hc : Row w .u8 (.slice ac m pc) js) (lk : ts.length = 8) (em : js.length = m) (h13 : 13 ≤ m) (h100 : m ≤ 100) (bj : Bytes js) :
    Calls Try.prog 13 #[.slice ak 8 pk, .slice ac m pc] w fun e w' => ∃ r, e = .returned (.tuple #[r, .int .i64 0]) ∧ w'.ownsRow w.heap.size 5 1 r (rpV ts js).length ((rpV ts js).map (Value.int .u8)) ∧ Below w.heap.size w w' := by
  have bx := bj.at 0
  have e64 := rp_byte (js.getD 0 0) bx.1 bx.2
  have HC : Hid _ := And.intro (iconcat _ [js, ts] _ (parts2 hc hk 22) (by simp) (by simp; omega)) True.intro
  have eg : (js ++ ts).getD 0 0 = js.getD 0 0 := by
    match js, em with
    | [], h => simp at h; omega
    | a :: b, _ => rfl
  have er : rpV ts js = (js ++ ts).set 0 (64 + js.getD 0 0 % 64) := by
    match js, em with
    | [], h => simp at h; omega
    | a :: b, _ => rfl
  have HH : Hid _ := And.intro eg (And.intro er (And.intro lk em))
  clear hk hc bj lk em eg er
  obtain ⟨x, ex⟩ : ∃ x, x = js.getD 0 0 := ⟨_, rfl⟩
  rw [← ex] at bx e64 HH
  clear ex
  go_enter Try.func13, Try.ntmps13
  go_wp2_with fail
  go_at_call 23
  refine HC.out.1.mono ?_
  rintro e w2 ⟨q2, rfl, o2, b2⟩
  have ef : ([js, ts] : List (List Int)).flatten = js ++ ts := by simp
  have el : (js ++ ts).length = m + 8 := by rw [List.length_append, HH.out.2.2.1, HH.out.2.2.2]
  rw [ef, el] at o2
  obtain ⟨g2, p2, rfl, _, _⟩ := owns_shape o2 (by omega)
  have c0 := owns_cell o2 el (k := 0) (by omega)
  rw [HH.out.1] at c0
  have f0 := o2.frozenAt 0
  have r2 := (o2.stored 0 (.int .u8 (64 + x % 64))).1
  rw [← List.map_set] at r2
  have b0 := (Below.refl w.heap.size w).alloc (Nat.le_refl _) (.cells #[.slice ac m pc, .slice ak 8 pk] 22)
  have B2 := (b0.trans (b2.mono b0.size)).setCell (p := ⟨g2, 0, none⟩) (Nat.le_trans b0.size (o2.lt g2 rfl).1) (.int .u8 (64 + x % 64))
  have H2 : Hid _ := And.intro (owns_mono r2 b0.size) (And.intro B2 el)
  clear r2 B2 b2 o2 b0 ef el
  go_wp2
  go_ret2
  refine ⟨_, rfl, ?_, H2.out.2.1⟩
  rw [HH.out.2.1, List.length_set, H2.out.2.2]
  exact H2.out.1
end Go.Proofs.Ytiiefhpkkjocbal
