import Derived.Test.YtiiefhpkkjocbakDoorIConcat
import Derived.Test.YtiiefhpkkjocbakDoorLongS
import Derived.Test.YtiiefhpkkjocbakDoorHigh
import Derived.Test.YtiiefhpkkjocbakDoorBook
namespace Go.Proofs.YtiiefhpkkjocbakDoor
open Go.RowKit
set_option linter.unusedVariables false

theorem parts_at {w : World} {p n cap : Nat} {vs : List Value} {L : List (List Int)} {t : TypeId} (hp : w.heap[p]? = some (.cells vs.toArray t (0, 0))) (hn : n = L.length) (hr : ∀ j, j < L.length → ∃ v, vs[j]? = some v ∧ Row w .u8 v (L.getD j [])) :
    Parts w (.slice (some ⟨p, 0, none⟩) n cap) L := by
  subst hn
  refine ⟨p, cap, rfl, (Array.getElem?_eq_some_iff.1 hp).1, fun j hj => ?_⟩
  obtain ⟨v, h1, h2⟩ := hr j hj
  exact ⟨v, by rw [blkS_cell hp]; simpa using h1, h2⟩
theorem parts6 {w : World} {v1 v2 v3 v4 v5 v6 : Value} {x1 x2 x3 x4 x5 x6 : List Int} (t : TypeId) (h1 : Row w .u8 v1 x1) (h2 : Row w .u8 v2 x2) (h3 : Row w .u8 v3 x3) (h4 : Row w .u8 v4 x4) (h5 : Row w .u8 v5 x5) (h6 : Row w .u8 v6 x6) :
    Parts (w.alloc (.cells #[v1, v2, v3, v4, v5, v6] t)) (.slice (some ⟨w.heap.size, 0, none⟩) 6 6) [x1, x2, x3, x4, x5, x6] := by
  have hb := (Below.refl w.heap.size w).alloc (Nat.le_refl _) (.cells #[v1, v2, v3, v4, v5, v6] t)
  refine parts_at (vs := [v1, v2, v3, v4, v5, v6]) (MapKept.heap_alloc w _).1 rfl (fun j hj => ?_)
  rcases (show j = 0 ∨ j = 1 ∨ j = 2 ∨ j = 3 ∨ j = 4 ∨ j = 5 by simp at hj; omega) with rfl | rfl | rfl | rfl | rfl | rfl
  · exact ⟨v1, rfl, h1.below hb⟩
  · exact ⟨v2, rfl, h2.below hb⟩
  · exact ⟨v3, rfl, h3.below hb⟩
  · exact ⟨v4, rfl, h4.below hb⟩
  · exact ⟨v5, rfl, h5.below hb⟩
  · exact ⟨v6, rfl, h6.below hb⟩
theorem below_new (w : World) (o : Obj) : Below w.heap.size w (w.alloc o) := (Below.refl _ _).alloc (Nat.le_refl _) _
set_option maxRecDepth 20000 in
set_option maxHeartbeats 2000000 in
/-- What all long packets begin with. -/
theorem ilong (f v : Int) (ad asv : Option Addr) (n m pd ps : Nat) (d s : List Int) (w : World) (h0 : 0 ≤ v) (h1 : v ≤ 9223372036854775807) (rd : Row w .u8 (.slice ad n pd) d) (rs : Row w .u8 (.slice asv m ps) s) (ed : d.length = n) (es : s.length = m) (hn : n ≤ 8) (hm : m ≤ 8) :
    Calls Tryd.prog 39 #[.int .u8 f, .int .i64 v, .slice ad n pd, .slice asv m ps] w fun e w' => ∃ r, e = .returned r ∧ w'.ownsRow w.heap.size 5 1 r (f :: idsV v d s).length ((f :: idsV v d s).map (Value.int .u8)) ∧ Below w.heap.size w w' := by
  have HH : Hid _ := And.intro rd (And.intro rs (And.intro ed es))
  have e1 := wrap8 n hn
  have e2 := wrap8 m hm
  have hv : IntKind.u64.wrap v = v := by rw [IntKind.wrap_u64]; omega
  clear rd rs ed es
  go_enter Tryd.func39, Tryd.ntmps39
  go_wp2_with fail
  go_at_call 54
  refine (high v 4 _ h0 h1 (by decide)).mono ?_
  rintro e w1 ⟨r1, rfl, o1, b1⟩
  obtain ⟨g1, p1, rfl, _, _⟩ := owns_shape o1 (by decide)
  have hb1 := (below_new w (.cells #[.int .u8 f] 5)).trans (b1.mono (by simp))
  have H1 : Hid _ := And.intro o1 (And.intro hb1 (And.intro b1 ((one_row w f).below b1)))
  clear o1 b1 hb1
  go_wp2_with fail
  go_at_call 53
  have a2 := below_new w1 (.cells #[.int .u8 (n : Int)] 5)
  have a3 := below_new (w1.alloc (.cells #[.int .u8 (n : Int)] 5)) (.cells #[.int .u8 (m : Int)] 5)
  have a23 := a2.trans (a3.mono a2.size)
  have H3 : Hid _ := And.intro a23 (H1.out.2.1.trans (a23.mono H1.out.2.1.size))
  have es1 : (w1.alloc (.cells #[.int .u8 (n : Int)] 5)).heap.size = w1.heap.size + 1 := by simp
  have es2 : ((w1.alloc (.cells #[.int .u8 (n : Int)] 5)).alloc (.cells #[.int .u8 (m : Int)] 5)).heap.size = w1.heap.size + 1 + 1 := by simp
  have r5 := one_row (w1.alloc (.cells #[.int .u8 (n : Int)] 5)) (m : Int)
  rw [es1] at r5
  have HP := parts6 22 (H1.out.2.2.2.below a23) ((row_of_owns H1.out.1).below a23) ((one_row w1 _).below a3) (HH.out.1.below H3.out.2) r5 (HH.out.2.1.below H3.out.2)
  rw [es2] at HP
  have HL : ([[f], be v 4, [(n : Int)], d, [(m : Int)], s] : List (List Int)).flatten.length ≤ 1099511627776 := by have := HH.out.2.2.1; have := HH.out.2.2.2; simp [be_length]; omega
  refine (iconcat _ _ _ HP (by simp) HL).mono ?_
  rintro e w4 ⟨r4, rfl, o4, b4⟩
  have e : ([[f], be v 4, [(n : Int)], d, [(m : Int)], s] : List (List Int)).flatten = f :: idsV v d s := by simp [idsV, HH.out.2.2.1, HH.out.2.2.2]
  rw [e] at o4
  have z := H3.out.2.size
  have H4 : Hid _ := And.intro (owns_mono o4 (base' := w.heap.size) (by simp at z ⊢; omega)) ((H3.out.2.alloc H3.out.2.size _).trans (b4.mono (by simp at z ⊢; omega)))
  clear o4 b4 a2 a3 a23 e z es1 es2 r5 HP HL
  go_wp2
  go_ret
  exact ⟨_, rfl, H4.out.1, H4.out.2⟩
end Go.Proofs.YtiiefhpkkjocbakDoor
