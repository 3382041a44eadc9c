import Derived.Test.YtjachnpcplmdgajKeysOK
import Derived.Test.YtjachnpcplmdgajKeysOf
import Derived.Test.YtjachnpcplmdgajBook
namespace Go.Proofs.Ytjachnpcplmdgaj
open Go.RowKit
set_option linter.unusedVariables false

theorem hm_cap {w : World} {base g cap n : Nat} {xs : List Value} (h : w.ownsRow base 5 1 (.slice (some ⟨g, 0, none⟩) n cap) n xs) : n ≤ cap ∧ cap ≤ 9223372036854775807 := by
  rcases h.2 with ⟨e, _⟩ | ⟨g', cap', cur, e, _, _, h1, h2, _⟩
  · cases e
  · cases e; unfold maxLen at h2; omega
theorem hm_take {w : World} {base g cap m n : Nat} {xs : List Int} (h : w.ownsRow base 5 1 (.slice (some ⟨g, 0, none⟩) n cap) n (xs.map (Value.int .u8))) (hm : m ≤ n) : Row w .u8 (.slice (some ⟨g, 0, none⟩) m cap) (xs.take m) := by
  have hl : xs.length = n := by simpa using h.1
  have hcap : n ≤ cap ∧ cap ≤ maxLen := by
    rcases h.2 with ⟨e, _⟩ | ⟨g', cap', cur, e, _, _, h1, h2, _⟩
    · cases e
    · cases e; exact ⟨h1, h2⟩
  have hlt : g < w.heap.size := (h.lt g rfl).2
  have hc : ∀ j, j < xs.length → w.cell? ⟨g, 0 + j, none⟩ = some (.int .u8 (xs.getD j 0)) := by
    intro j hj
    have := h.cellAt j (by omega)
    rw [Nat.zero_add, this]
    simp [List.getD, hj]
  have := row_cut (at' := 0) (n := m) (cap' := cap) (cap := cap) hlt hc (by omega) ⟨by omega, hcap.2⟩
  simpa using this

/-- The mask of a sample. -/
def headV (k : K4) (ss : List Int) : List Int := (digV k.d ss).take 5
theorem headV_length (k : K4) (ss : List Int) : (headV k ss).length = 5 := by simp [headV, digV_length]
set_option maxHeartbeats 1000000 in
theorem head_badkey (v sv : Value) (k : K4) (w : World) (hk : KRow w v k) (hb : ¬ kok k) :
    Calls Try.prog 18 #[v, sv] w fun e w' => ∃ r, e = .returned r ∧ w'.ownsRow w.heap.size 5 1 r 0 (([] : List Int).map (Value.int .u8)) ∧ Below w.heap.size w w' := by
  obtain ⟨v0, v1, v2, v3, rfl, r0, r1, r2, r3⟩ := id hk
  have B0 : Below w.heap.size w (w.alloc (.cells #[v0, v1, v2, v3] 28)) := (Below.refl _ _).alloc (Nat.le_refl _) _
  have C := kok_false _ k _ (hk.below B0) hb
  have HB : Hid _ := B0
  clear hk hb r0 r1 r2 r3 B0
  go_enter Try.func18, Try.ntmps18
  go_wp2_with fail
  go_at_call 21
  refine C.mono ?_
  rintro e w1 ⟨rfl, b1⟩
  have HF : Hid _ := HB.out.trans (b1.mono HB.out.size)
  clear b1 C
  go_wp2
  go_ret
  exact ⟨_, rfl, World.ownsRow_lit _ #[] 0 HF.out.size (by decide) rfl, HF.out.alloc HF.out.size _⟩
set_option maxHeartbeats 1000000 in
theorem head_badlen (v : Value) (ao : Option Addr) (n p : Nat) (k : K4) (w : World) (hk : KRow w v k) (hb : kok k) (hn : n ≠ 8) (hn1 : n ≤ 9223372036854775807) :
    Calls Try.prog 18 #[v, .slice ao n p] w fun e w' => ∃ r, e = .returned r ∧ w'.ownsRow w.heap.size 5 1 r 0 (([] : List Int).map (Value.int .u8)) ∧ Below w.heap.size w w' := by
  obtain ⟨v0, v1, v2, v3, rfl, r0, r1, r2, r3⟩ := id hk
  have B0 : Below w.heap.size w (w.alloc (.cells #[v0, v1, v2, v3] 28)) := (Below.refl _ _).alloc (Nat.le_refl _) _
  have C := kok_true _ k _ (hk.below B0) hb
  have hne : ((n : Int) != 8) = true := by simp; omega
  have HB : Hid _ := B0
  clear hk hb r0 r1 r2 r3 B0 hn
  go_enter Try.func18, Try.ntmps18
  go_wp2_with fail
  go_at_call 21
  refine C.mono ?_
  rintro e w1 ⟨rfl, b1⟩
  have HF : Hid _ := HB.out.trans (b1.mono HB.out.size)
  clear b1 C
  go_wp2
  go_ret
  exact ⟨_, rfl, World.ownsRow_lit _ #[] 0 HF.out.size (by decide) rfl, HF.out.alloc HF.out.size _⟩
set_option maxHeartbeats 1000000 in
theorem head_ok (v : Value) (ao : Option Addr) (p : Nat) (k : K4) (ss : List Int) (w : World) (hk : KRow w v k) (kb : k.bytes) (hb : kok k) (hs : Row w .u8 (.slice ao 8 p) ss) (hl : ss.length = 8) (bs : Bytes ss) :
    Calls Try.prog 18 #[v, .slice ao 8 p] w fun e w' => ∃ r, e = .returned r ∧ w'.ownsRow w.heap.size 5 1 r (headV k ss).length ((headV k ss).map (Value.int .u8)) ∧ Below w.heap.size w w' := by
  obtain ⟨v0, v1, v2, v3, rfl, r0, r1, r2, r3⟩ := id hk
  have B0 : Below w.heap.size w (w.alloc (.cells #[v0, v1, v2, v3] 28)) := (Below.refl _ _).alloc (Nat.le_refl _) _
  have K0 := (Book.nil w).add (.cells #[v0, v1, v2, v3] 28)
  have C := kok_true _ k _ (hk.below B0) hb
  have HB : Hid _ := And.intro B0 K0
  have HH : Hid _ := And.intro (And.intro r3 hs) (And.intro (And.intro kb bs) (And.intro hb hl))
  clear hk hb r0 r1 r2 r3 B0 K0 hs kb bs hl
  go_enter Try.func18, Try.ntmps18
  go_wp2_with fail
  go_at_call 21
  refine C.mono ?_
  rintro e w1 ⟨rfl, b1⟩
  have c3 := ((HB.out.2.below b1).c4 (b := w.heap.size) (x0 := v0) (x1 := v1) (x2 := v2) (x3 := v3) (t := 28) (by simp)).2.2.2
  have H1 : Hid _ := HB.out.1.trans (b1.mono HB.out.1.size)
  clear b1 C
  go_wp2_with fail
  go_at_call 32
  refine (specDigest _ _ k.d ss _ (HH.out.1.1.below H1.out) (HH.out.1.2.below H1.out) HH.out.2.1.1.2.2.2 HH.out.2.1.2 (by rw [HH.out.2.2.1.2.2.2]; decide) (by rw [HH.out.2.2.2]; decide)).mono ?_
  rintro e w2 ⟨q2, rfl, o2, b2⟩
  obtain ⟨g2, p2, rfl, _, _⟩ := owns_shape o2 (by decide)
  obtain ⟨hc1, hc2⟩ := hm_cap o2
  have hc5 : (5 : Int) ≤ (p2 : Int) := by omega
  have H2 : Hid _ := And.intro (hm_take (m := 5) o2 (by decide)) (H1.out.trans (b2.mono H1.out.size))
  clear o2 b2 c3
  go_wp2_with fail
  go_at_call 31
  refine (copyC _ ((digV k.d ss).take 5) _ H2.out.1 (by rw [List.length_take, digV_length]; decide) (by rw [List.length_take, digV_length]; decide)).mono ?_
  rintro e w3 ⟨q3, rfl, o3, b3⟩
  have HF : Hid _ := And.intro (owns_mono o3 H2.out.2.size) (H2.out.2.trans (b3.mono H2.out.2.size))
  clear o3 b3
  go_wp2
  go_ret
  exact ⟨_, rfl, HF.out.1, HF.out.2⟩
end Go.Proofs.Ytjachnpcplmdgaj
