import Derived.Test.YtiiefhpkkjocbalHeadS
import Derived.Test.YtiiefhpkkjocbalAppRow
namespace Go.Proofs.Ytiiefhpkkjocbal
open Go.RowKit
set_option linter.unusedVariables false

/-- A reset: junk with a short packet's first byte, then the token. -/
def rpV (tok junk : List Int) : List Int := junk.set 0 (64 + junk.getD 0 0 % 64) ++ tok
theorem rpV_length (tok junk : List Int) : (rpV tok junk).length = junk.length + tok.length := by simp [rpV]
theorem rp_byte (x : Int) (h0 : 0 ≤ x) (h1 : x < 256) : IntKind.u8.wrap (64 + IntKind.u8.wrap (x.tmod 64)) = 64 + x % 64 := by
  rw [IntKind.wrap_u8, IntKind.wrap_u8, Int.tmod_eq_emod_of_nonneg h0]; omega
set_option maxHeartbeats 1000000 in
theorem rp_bad (ak ac : Option Addr) (n m pk pc : Nat) (w : World) (h : n ≠ 8 ∨ m < 13 ∨ 100 < m) (hn : n ≤ 9223372036854775807) (hm : m ≤ 9223372036854775807) :
    Calls Try.prog 12 #[.slice ak n pk, .slice ac m pc] w fun e w' => ∃ r, e = .returned (.tuple #[r, .int .i64 1]) ∧ w'.ownsRow w.heap.size 5 1 r 0 (([] : List Int).map (Value.int .u8)) ∧ Below w.heap.size w w' := by
  by_cases h8 : n = 8
  · subst h8
    by_cases h13 : m < 13
    · clear h
      go_enter Try.func12, Try.ntmps12
      go_wp2
      go_ret2
      exact ⟨_, rfl, World.ownsRow_lit _ #[] 0 (Nat.le_refl _) (by decide) rfl, (Below.refl _ _).alloc (Nat.le_refl _) _⟩
    · have h100 : 100 < m := by omega
      clear h
      go_enter Try.func12, Try.ntmps12
      go_wp2
      go_ret2
      exact ⟨_, rfl, World.ownsRow_lit _ #[] 0 (Nat.le_refl _) (by decide) rfl, (Below.refl _ _).alloc (Nat.le_refl _) _⟩
  · have hne : ((n : Int) != 8) = true := by simp; omega
    clear h h8
    go_enter Try.func12, Try.ntmps12
    go_wp2
    go_ret2
    exact ⟨_, rfl, World.ownsRow_lit _ #[] 0 (Nat.le_refl _) (by decide) rfl, (Below.refl _ _).alloc (Nat.le_refl _) _⟩
set_option maxRecDepth 20000 in
set_option maxHeartbeats 1000000 in
theorem rp_ok (ak ac : Option Addr) (m pk pc : Nat) (ts js : List Int) (w : World) (hk : Row w .u8 (.slice ak 8 pk) ts) (hc : Row w .u8 (.slice ac m pc) js) (lk : ts.length = 8) (em : js.length = m) (h13 : 13 ≤ m) (h100 : m ≤ 100) (bj : Bytes js) :
    Calls Try.prog 12 #[.slice ak 8 pk, .slice ac m pc] w fun e w' => ∃ r, e = .returned (.tuple #[r, .int .i64 0]) ∧ w'.ownsRow w.heap.size 5 1 r (rpV ts js).length ((rpV ts js).map (Value.int .u8)) ∧ Below w.heap.size w w' := by
  have bx := bj.at 0
  have HH : Hid _ := And.intro (And.intro hk hc) (And.intro bj (And.intro lk em))
  have HC : Hid _ := And.intro (copyC _ js w hc (by omega) (by omega)) True.intro
  clear hk hc bj lk em
  go_enter Try.func12, Try.ntmps12
  go_wp2_with fail
  go_at_call 19
  refine HC.out.1.mono ?_
  rintro e w2 ⟨q2, rfl, o2, b2⟩
  have em := HH.out.2.2.2
  rw [em] at o2
  obtain ⟨g2, p2, rfl, _, _⟩ := owns_shape o2 (by omega)
  have c0 := owns_cell o2 em (k := 0) (by omega)
  have f0 := o2.frozenAt 0
  have r2 := (o2.stored 0 (.int .u8 (64 + js.getD 0 0 % 64))).1
  rw [← List.map_set] at r2
  have B2 := b2.setCell (p := ⟨g2, 0, none⟩) (o2.lt g2 rfl).1 (.int .u8 (64 + js.getD 0 0 % 64))
  have H2 : Hid _ := And.intro r2 (And.intro B2 True.intro)
  have e64 := rp_byte (js.getD 0 0) bx.1 bx.2
  clear r2 B2 b2 o2 em
  obtain ⟨x, ex⟩ : ∃ x, x = js.getD 0 0 := ⟨_, rfl⟩
  rw [← ex] at c0 bx e64 H2
  have EX : Hid _ := ex
  clear ex
  go_wp2_with (at_builtin; refine wpList_append_row rfl (.tmp 30) (.tmp 31) rfl w.heap.size _ m _ rfl H2.out.1 _ ts rfl (HH.out.1.1.below H2.out.2.1) (by rw [HH.out.2.2.1]; omega) H2.out.2.1.size ?_; intro q5 w5 o5 g5; have H5 : Hid _ := And.intro o5 (H2.out.2.1.grown g5 H2.out.2.1.size (fun q hq => (H2.out.1.lt q hq).1)); clear o5 g5)
  go_ret2
  refine ⟨_, rfl, ?_, H5.out.2⟩
  have := H5.out.1
  rw [rpV_length, HH.out.2.2.2, rpV, ← EX.out]
  exact this
end Go.Proofs.Ytiiefhpkkjocbal
