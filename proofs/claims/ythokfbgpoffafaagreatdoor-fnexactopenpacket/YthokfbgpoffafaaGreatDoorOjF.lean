import Derived.Test.YthokfbgpoffafaaGreatDoorKeysOK
import Derived.Test.YthokfbgpoffafaaGreatDoorKeysOf
import Derived.Test.YthokfbgpoffafaaGreatDoorBook
import Derived.Test.YthokfbgpoffafaaGreatDoorXor
import Derived.Test.YthokfbgpoffafaaGreatDoorOjA
import Derived.Test.YthokfbgpoffafaaGreatDoorOpenS
import Derived.Test.YthokfbgpoffafaaGreatDoorOjE
import Derived.Test.YthokfbgpoffafaaGreatDoorICopy
import Derived.Deep.QuietTactic
import Derived.BigQuiet
import Derived.BigRegion
import Derived.Test.YthokfbgpoffafaaGreatDoorIPart
import Derived.Test.YthokfbgpoffafaaGreatDoorIOpenAll
import Derived.Test.YthokfbgpoffafaaGreatDoorAppRow
import Derived.Deep.RegionWith
import Derived.Deep.CutRange
namespace Go.Proofs.YthokfbgpoffafaaGreatDoor
open Go.RowKit
set_option linter.unusedVariables false

theorem hm_cap {w : World} {base g cap n : Nat} {xs : List Value} (h : w.ownsRow base 5 1 (.slice (some ⟨g, 0, none⟩) n cap) n xs) : n ≤ cap ∧ cap ≤ 9223372036854775807 := by
  rcases h.2 with ⟨e, _⟩ | ⟨g', cap', cur, e, _, _, h1, h2, _⟩
  · cases e
  · cases e; unfold maxLen at h2; omega
theorem hm_take {w : World} {base g cap m n : Nat} {xs : List Int} (h : w.ownsRow base 5 1 (.slice (some ⟨g, 0, none⟩) n cap) n (xs.map (Value.int .u8))) (hm : m ≤ n) : Row w .u8 (.slice (some ⟨g, 0, none⟩) m cap) (xs.take m) := by
  have hl : xs.length = n := by simpa using h.1
  have hcap : n ≤ cap ∧ cap ≤ maxLen := by
    rcases h.2 with ⟨e, _⟩ | ⟨g', cap', cur, e, _, _, h1, h2, _⟩
    · cases e
    · cases e; exact ⟨h1, h2⟩
  have hlt : g < w.heap.size := (h.lt g rfl).2
  have hc : ∀ j, j < xs.length → w.cell? ⟨g, 0 + j, none⟩ = some (.int .u8 (xs.getD j 0)) := by
    intro j hj
    have := h.cellAt j (by omega)
    rw [Nat.zero_add, this]
    simp [List.getD, hj]
  have := row_cut (at' := 0) (n := m) (cap' := cap) (cap := cap) hlt hc (by omega) ⟨by omega, hcap.2⟩
  simpa using this

/-- The mask of a sample. -/
def headV (k : K4) (ss : List Int) : List Int := (digV k.d ss).take 5
theorem headV_length (k : K4) (ss : List Int) : (headV k ss).length = 5 := by simp [headV, digV_length]
set_option maxHeartbeats 1000000 in
theorem head_badkey (v sv : Value) (k : K4) (w : World) (hk : KRow w v k) (hb : ¬ kok k) :
    Calls Tryz.prog 21 #[v, sv] w fun e w' => ∃ r, e = .returned r ∧ w'.ownsRow w.heap.size 5 1 r 0 (([] : List Int).map (Value.int .u8)) ∧ Below w.heap.size w w' := by
  obtain ⟨v0, v1, v2, v3, rfl, r0, r1, r2, r3⟩ := id hk
  have B0 : Below w.heap.size w (w.alloc (.cells #[v0, v1, v2, v3] 30)) := (Below.refl _ _).alloc (Nat.le_refl _) _
  have C := kok_false _ k _ (hk.below B0) hb
  have HB : Hid _ := B0
  clear hk hb r0 r1 r2 r3 B0
  go_enter Tryz.func21, Tryz.ntmps21
  go_wp2_with fail
  go_at_call 18
  refine C.mono ?_
  rintro e w1 ⟨rfl, b1⟩
  have HF : Hid _ := HB.out.trans (b1.mono HB.out.size)
  clear b1 C
  go_wp2
  go_ret
  exact ⟨_, rfl, World.ownsRow_lit _ #[] 0 HF.out.size (by decide) rfl, HF.out.alloc HF.out.size _⟩
set_option maxHeartbeats 1000000 in
theorem head_badlen (v : Value) (ao : Option Addr) (n p : Nat) (k : K4) (w : World) (hk : KRow w v k) (hb : kok k) (hn : n ≠ 8) (hn1 : n ≤ 9223372036854775807) :
    Calls Tryz.prog 21 #[v, .slice ao n p] w fun e w' => ∃ r, e = .returned r ∧ w'.ownsRow w.heap.size 5 1 r 0 (([] : List Int).map (Value.int .u8)) ∧ Below w.heap.size w w' := by
  obtain ⟨v0, v1, v2, v3, rfl, r0, r1, r2, r3⟩ := id hk
  have B0 : Below w.heap.size w (w.alloc (.cells #[v0, v1, v2, v3] 30)) := (Below.refl _ _).alloc (Nat.le_refl _) _
  have C := kok_true _ k _ (hk.below B0) hb
  have hne : ((n : Int) != 8) = true := by simp; omega
  have HB : Hid _ := B0
  clear hk hb r0 r1 r2 r3 B0 hn
  go_enter Tryz.func21, Tryz.ntmps21
  go_wp2_with fail
  go_at_call 18
  refine C.mono ?_
  rintro e w1 ⟨rfl, b1⟩
  have HF : Hid _ := HB.out.trans (b1.mono HB.out.size)
  clear b1 C
  go_wp2
  go_ret
  exact ⟨_, rfl, World.ownsRow_lit _ #[] 0 HF.out.size (by decide) rfl, HF.out.alloc HF.out.size _⟩
set_option maxHeartbeats 1000000 in
theorem head_ok (v : Value) (ao : Option Addr) (p : Nat) (k : K4) (ss : List Int) (w : World) (hk : KRow w v k) (kb : k.bytes) (hb : kok k) (hs : Row w .u8 (.slice ao 8 p) ss) (hl : ss.length = 8) (bs : Bytes ss) :
    Calls Tryz.prog 21 #[v, .slice ao 8 p] w fun e w' => ∃ r, e = .returned r ∧ w'.ownsRow w.heap.size 5 1 r (headV k ss).length ((headV k ss).map (Value.int .u8)) ∧ Below w.heap.size w w' := by
  obtain ⟨v0, v1, v2, v3, rfl, r0, r1, r2, r3⟩ := id hk
  have B0 : Below w.heap.size w (w.alloc (.cells #[v0, v1, v2, v3] 30)) := (Below.refl _ _).alloc (Nat.le_refl _) _
  have K0 := (Book.nil w).add (.cells #[v0, v1, v2, v3] 30)
  have C := kok_true _ k _ (hk.below B0) hb
  have HB : Hid _ := And.intro B0 K0
  have HH : Hid _ := And.intro (And.intro r3 hs) (And.intro (And.intro kb bs) (And.intro hb hl))
  clear hk hb r0 r1 r2 r3 B0 K0 hs kb bs hl
  go_enter Tryz.func21, Tryz.ntmps21
  go_wp2_with fail
  go_at_call 18
  refine C.mono ?_
  rintro e w1 ⟨rfl, b1⟩
  have c3 := ((HB.out.2.below b1).c4 (b := w.heap.size) (x0 := v0) (x1 := v1) (x2 := v2) (x3 := v3) (t := 30) (by simp)).2.2.2
  have H1 : Hid _ := HB.out.1.trans (b1.mono HB.out.1.size)
  clear b1 C
  go_wp2_with fail
  go_at_call 39
  refine (specDigest _ _ k.d ss _ (HH.out.1.1.below H1.out) (HH.out.1.2.below H1.out) HH.out.2.1.1.2.2.2 HH.out.2.1.2 (by rw [HH.out.2.2.1.2.2.2]; decide) (by rw [HH.out.2.2.2]; decide)).mono ?_
  rintro e w2 ⟨q2, rfl, o2, b2⟩
  obtain ⟨g2, p2, rfl, _, _⟩ := owns_shape o2 (by decide)
  obtain ⟨hc1, hc2⟩ := hm_cap o2
  have hc5 : (5 : Int) ≤ (p2 : Int) := by omega
  have H2 : Hid _ := And.intro (hm_take (m := 5) o2 (by decide)) (H1.out.trans (b2.mono H1.out.size))
  clear o2 b2 c3
  go_wp2_with fail
  go_at_call 22
  refine (copyC _ ((digV k.d ss).take 5) _ H2.out.1 (by rw [List.length_take, digV_length]; decide) (by rw [List.length_take, digV_length]; decide)).mono ?_
  rintro e w3 ⟨q3, rfl, o3, b3⟩
  have HF : Hid _ := And.intro (owns_mono o3 H2.out.2.size) (H2.out.2.trans (b3.mono H2.out.2.size))
  clear o3 b3
  go_wp2
  go_ret
  exact ⟨_, rfl, HF.out.1, HF.out.2⟩
end Go.Proofs.YthokfbgpoffafaaGreatDoor

namespace Go.Proofs.YthokfbgpoffafaaGreatDoor
open Go.RowKit
set_option linter.unusedVariables false

theorem xor8_valB (x y : Int) : bits .xor .u8 x y = (((BitVec.ofInt 8 x ^^^ BitVec.ofInt 8 y).toNat : Nat) : Int) := by
  have h : bits .xor .u8 x y = IntKind.u8.wrap ((BitVec.ofInt 8 x ^^^ BitVec.ofInt 8 y).toNat : Int) := rfl
  rw [h]
  have hb := (BitVec.ofInt 8 x ^^^ BitVec.ofInt 8 y).isLt
  generalize (BitVec.ofInt 8 x ^^^ BitVec.ofInt 8 y).toNat = m at hb ⊢
  simp [IntKind.wrap, IntKind.bits, IntKind.signed]
  omega
theorem and8_val (x y : Int) : bits .and .u8 x y = (((BitVec.ofInt 8 x &&& BitVec.ofInt 8 y).toNat : Nat) : Int) := by
  have h : bits .and .u8 x y = IntKind.u8.wrap ((BitVec.ofInt 8 x &&& BitVec.ofInt 8 y).toNat : Int) := rfl
  rw [h]
  have hb := (BitVec.ofInt 8 x &&& BitVec.ofInt 8 y).isLt
  generalize (BitVec.ofInt 8 x &&& BitVec.ofInt 8 y).toNat = m at hb ⊢
  simp [IntKind.wrap, IntKind.bits, IntKind.signed]
  omega
theorem bv8_nat (x : Int) (h0 : 0 ≤ x) (h1 : x < 256) : (BitVec.ofInt 8 x).toNat = x.toNat := by
  rw [BitVec.toNat_ofInt]
  omega
theorem and8_bd (x y : Int) : 0 ≤ bits .and .u8 x y ∧ bits .and .u8 x y < 256 := by
  rw [and8_val]
  have hb := (BitVec.ofInt 8 x &&& BitVec.ofInt 8 y).isLt
  omega
theorem and8_m (x m : Int) (k : Nat) (hk : k ≤ 8) (hm : m = ((2 ^ k - 1 : Nat) : Int)) (hm1 : m < 256) (h0 : 0 ≤ x) (h1 : x < 256) : bits .and .u8 x m = x % ((2 ^ k : Nat) : Int) := by
  have hm0 : 0 ≤ m := by rw [hm]; omega
  have e : m.toNat = 2 ^ k - 1 := by rw [hm]; omega
  rw [and8_val, BitVec.toNat_and, bv8_nat x h0 h1, bv8_nat m hm0 hm1, e, Nat.and_two_pow_sub_one_eq_mod]
  rw [Int.natCast_emod]
  congr 1
  omega
/-- The high bits stay. -/
theorem xor8_hi (x a : Int) (h0 : 0 ≤ x) (h1 : x < 256) (a0 : 0 ≤ a) (a1 : a < 32) : bits .xor .u8 x a / 32 = x / 32 := by
  rw [xor8_valB, BitVec.toNat_xor, bv8_nat x h0 h1, bv8_nat a a0 (by omega)]
  have e : (x.toNat ^^^ a.toNat) / 2 ^ 5 = x.toNat / 2 ^ 5 := by
    rw [Nat.xor_div_two_pow, Nat.div_eq_of_lt (show a.toNat < 2 ^ 5 by omega)]
    simp
  generalize x.toNat ^^^ a.toNat = m at e ⊢
  omega
/-- The first byte from under the mask. -/
def fstV (x m : Int) : Int := bits .xor .u8 x (bits .and .u8 m (if 128 ≤ x then 15 else 31))
theorem fstV_bd (x m : Int) : 0 ≤ fstV x m ∧ fstV x m < 256 := xor8_bd _ _
theorem fstV_hi (x m : Int) (h0 : 0 ≤ x) (h1 : x < 256) (m0 : 0 ≤ m) (m1 : m < 256) : fstV x m / 32 = x / 32 := by
  unfold fstV
  by_cases h : 128 ≤ x
  · rw [if_pos h, and8_m m 15 4 (by decide) rfl (by decide) m0 m1]
    exact xor8_hi x _ h0 h1 (by omega) (by omega)
  · rw [if_neg h, and8_m m 31 5 (by decide) rfl (by decide) m0 m1]
    exact xor8_hi x _ h0 h1 (by omega) (by omega)
end Go.Proofs.YthokfbgpoffafaaGreatDoor

namespace Go.Proofs.YthokfbgpoffafaaGreatDoor
open Go.RowKit
set_option linter.unusedVariables false

/-- Where a packet that can be opened has its number. -/
def OpK (xs : List Int) (K : PK) : Prop :=
  (K.na = 0 ∧ (K.f = 3 ∨ K.f = 5)) ∨
  (0 < K.na ∧ K.na + 12 ≤ K.fin ∧ K.fin ≤ xs.length ∧
    ((K.f = 4 ∧ 64 ≤ xs.getD 0 0 ∧ xs.getD 0 0 < 128 ∧ K.na = 1 + K.d.length) ∨
     (192 ≤ xs.getD 0 0 ∧ ((K.f = 2 ∧ varOK xs (7 + K.d.length + K.s.length) ∧ K.na = varN xs (7 + K.d.length + K.s.length)) ∨
       (K.f = 1 ∧ varOK xs (7 + K.d.length + K.s.length) ∧ varOK xs (varN xs (7 + K.d.length + K.s.length) + K.t.length) ∧ K.na = varN xs (varN xs (7 + K.d.length + K.s.length) + K.t.length))))))
theorem beh_open {xs : List Int} {p a q : Nat} (h : pkBeh xs p = .ok (a, q)) : varOK xs p ∧ a = varN xs p ∧ a + 12 ≤ q ∧ q ≤ xs.length ∧ 0 < a := by
  unfold pkBeh at h
  split at h
  · rename_i hv
    split at h
    · cases h
    · rename_i h1
      split at h
      · cases h
      · cases h
        have := varN_bd xs p hv
        exact ⟨hv, rfl, by omega, by omega, by omega⟩
  · cases h
theorem ini_open {xs d s : List Int} {v : Int} {p : Nat} {K : PK} (h : pkIni xs v d s p = .ok K) : K.f = 1 ∧ K.d = d ∧ K.s = s ∧ varOK xs p ∧ varOK xs (varN xs p + K.t.length) ∧ K.na = varN xs (varN xs p + K.t.length) ∧ K.na + 12 ≤ K.fin ∧ K.fin ≤ xs.length ∧ 0 < K.na := by
  unfold pkIni at h
  split at h
  · rename_i hv
    split at h
    · cases h
    · split at h
      · cases h
      · rename_i h2
        split at h
        · cases h
        · rename_i hb
          cases h
          obtain ⟨b1, b2, b3, b4, b5⟩ := beh_open hb
          have e : (sub xs (varN xs p) (varV xs p).toNat).length = (varV xs p).toNat := sub_len _ _ _ (by omega)
          refine ⟨rfl, rfl, rfl, hv, ?_, ?_, b3, b4, b5⟩
          · show varOK xs (varN xs p + (sub xs (varN xs p) (varV xs p).toNat).length)
            rw [e]; exact b1
          · show _ = varN xs (varN xs p + (sub xs (varN xs p) (varV xs p).toNat).length)
            rw [e]; exact b2
  · cases h
theorem lform_1 {f : Int} (h : lform f = 1) : 192 ≤ f := by unfold lform at h; repeat' split at h <;> omega
theorem lform_2 {f : Int} (h : lform f = 2) : 192 ≤ f := by unfold lform at h; repeat' split at h <;> omega
theorem tail_open {xs d s : List Int} {f v : Int} {K : PK} (hf : f = xs.getD 0 0) (h : pkTail xs f v d s (7 + d.length + s.length) = .ok K) : OpK xs K := by
  unfold pkTail at h
  split at h
  · split at h
    · cases h
    · split at h
      · cases h
      · cases h; exact Or.inl ⟨rfl, Or.inr rfl⟩
  · split at h
    · split at h
      · cases h
      · cases h; exact Or.inl ⟨rfl, Or.inl rfl⟩
    · split at h
      · rename_i hl
        obtain ⟨i1, i2, i3, i4, i5, i6, i7, i8, i9⟩ := ini_open h
        refine Or.inr ⟨i9, i7, i8, Or.inr ⟨by rw [← hf]; exact lform_1 hl, Or.inr ⟨i1, ?_, ?_, ?_⟩⟩⟩
        · rw [i2, i3]; exact i4
        · rw [i2, i3]; exact i5
        · rw [i2, i3]; exact i6
      · split at h
        · rename_i hl
          split at h
          · cases h
          · rename_i hb
            cases h
            obtain ⟨b1, b2, b3, b4, b5⟩ := beh_open hb
            exact Or.inr ⟨b5, b3, b4, Or.inr ⟨by rw [← hf]; exact lform_2 hl, Or.inl ⟨rfl, b1, b2⟩⟩⟩
        · cases h
theorem first_val (xs : List Int) (h : ¬ xs.length < 1) : vals (sub xs 0 1) = xs.getD 0 0 := by
  cases xs with
  | nil => simp at h
  | cons x r => simp [sub, vals]
theorem pk_open {xs : List Int} {cl : Int} {K : PK} (h : pk xs cl = .ok K) : OpK xs K ∧ xs.length ≤ 65536 ∧ 0 < xs.length ∧ 64 ≤ xs.getD 0 0 := by
  unfold pk at h
  split at h
  · cases h
  · rename_i h16
    split at h
    · cases h
    · rename_i hc
      split at h
      · cases h
      · rename_i hx
        have hv := first_val xs hx
        split at h
        · cases h
        · rename_i h64
          refine ⟨?_, by omega, by omega, by omega⟩
          split at h
          · rename_i h128
            unfold pkShP pkSho at h
            split at h
            · cases h
            · rename_i hq
              split at hq
              · cases hq
              · cases hq
                cases h
                rename_i hn
                have e : (sub xs 1 cl.toNat).length = cl.toNat := sub_len _ _ _ (by omega)
                exact Or.inr ⟨by show 0 < 1 + cl.toNat; omega, by show 1 + cl.toNat + 12 ≤ xs.length; omega, Nat.le_refl _, Or.inl ⟨rfl, by omega, by omega, by show 1 + cl.toNat = 1 + (sub xs 1 cl.toNat).length; rw [e]⟩⟩
          · unfold pkLong at h
            split at h
            · cases h
            · split at h
              · cases h
              · split at h
                · cases h
                · rename_i c1 _ _ _ c2
                  have s1 := cid_spec c1
                  have s2 := cid_spec c2
                  have e : ∀ a b c d : Nat, a = 5 + 1 + c → b = a + 1 + d → b = 7 + c + d := by omega
                  rw [e _ _ _ _ s1.1 s2.1] at h
                  exact tail_open hv h

/-- The mask of a packet whose number begins at na. -/
def opMask (k : K4) (xs : List Int) (na : Nat) : List Int := headV k (sub xs (na + 4) 8)
def opF (k : K4) (xs : List Int) (na : Nat) : Int := fstV (xs.getD 0 0) ((opMask k xs na).getD 0 0)
def opL (k : K4) (xs : List Int) (na : Nat) : Nat := (opF k xs na % 4).toNat + 1
def opD (k : K4) (xs : List Int) (na : Nat) : List Int := xl (sub xs na (opL k xs na)) ((opMask k xs na).drop 1) (opL k xs na)
def opHead (k : K4) (xs : List Int) (na : Nat) : List Int := opF k xs na :: (sub xs 1 (na - 1) ++ opD k xs na)
def opNum (k : K4) (xs : List Int) (na : Nat) (l : Int) : Int := expV l (vals (opD k xs na)) (opL k xs na)
def opRest (k : K4) (xs : List Int) (K : PK) : List Int := sub xs (K.na + opL k xs K.na) (K.fin - (K.na + opL k xs K.na))
def opPh (k : K4) (xs : List Int) (na : Nat) : Int := if 128 ≤ xs.getD 0 0 then 0 else opF k xs na / 4 % 2
def opIdle (k : K4) (xs : List Int) (na : Nat) : Int := bits .and .u8 (opF k xs na) (if 128 ≤ xs.getD 0 0 then 12 else 24)
def zH : H8 := ⟨0, 0, [], [], [], 0, 0, 0⟩
/-- What OpenSealed answers, for keys and a number that are right and at least 8 bytes. -/
def osV (k : K4) (num : Int) (hd xs : List Int) : List Int := if 1508 < hd.length + xs.length then [] else openV k num hd xs
def osE (k : K4) (num : Int) (hd xs : List Int) : Int := if 1508 < hd.length + xs.length then 4 else openE k num hd xs
def opT (k : K4) (xs : List Int) (K : PK) (l : Int) : H8 × List Int × Int :=
  if opNum k xs K.na l < 0 then (zH, [], 3)
  else if osE k (opNum k xs K.na l) (opHead k xs K.na) (opRest k xs K) ≠ 0 then (zH, [], osE k (opNum k xs K.na l) (opHead k xs K.na) (opRest k xs K))
  else if opIdle k xs K.na ≠ 0 then (zH, [], 3)
  else (⟨K.f, K.v, K.d, K.s, K.t, opNum k xs K.na l, opL k xs K.na, opPh k xs K.na⟩, osV k (opNum k xs K.na l) (opHead k xs K.na) (opRest k xs K), 0)
open Classical in
/-- What OpenPacket answers. -/
noncomputable def opR (k : K4) (xs : List Int) (cl l : Int) : H8 × List Int × Int :=
  if 65536 < xs.length then (zH, [], 4)
  else if ¬ kok k ∨ ¬ (0 ≤ cl ∧ cl ≤ 8) ∨ l < -1 ∨ 4611686018427387903 < l then (zH, [], 1)
  else match pk xs cl with
    | .error c => (zH, [], c)
    | .ok K => if K.na = 0 then (zH, [], 3) else opT k xs K l
theorem opL_bd (k : K4) (xs : List Int) (na : Nat) : 1 ≤ opL k xs na ∧ opL k xs na ≤ 4 := by unfold opL; omega
theorem opMask_length (k : K4) (xs : List Int) (na : Nat) : (opMask k xs na).length = 5 := headV_length _ _
theorem opD_length (k : K4) (xs : List Int) (na : Nat) : (opD k xs na).length = opL k xs na := xl_length _ _ _
theorem opD_bytes (k : K4) (xs : List Int) (na : Nat) : Bytes (opD k xs na) := xl_bytes _ _ _
theorem opHead_length (k : K4) (xs : List Int) (na : Nat) (h : 0 < na) (h1 : na ≤ xs.length) : (opHead k xs na).length = na + opL k xs na := by
  unfold opHead
  rw [List.length_cons, List.length_append, opD_length, sub_len _ _ _ (by omega)]
  omega
end Go.Proofs.YthokfbgpoffafaaGreatDoor

namespace Go.Proofs.YthokfbgpoffafaaGreatDoor
open Go.RowKit
set_option linter.unusedVariables false

theorem maskedI (f : Int) (w : World) (h0 : 64 ≤ f) : Calls Tryz.prog 80 #[.int .u8 f] w fun e w' => e = .returned (.int .u8 (if 128 ≤ f then 15 else 31)) ∧ w' = w := by
  have C := shortB f w h0
  by_cases h : f < 128
  · rw [decide_eq_true h] at C
    rw [if_neg (by omega)]
    go_enter Tryz.func80, Tryz.ntmps80
    go_wp2_with (go_at_call 49; refine C.mono ?_; rintro e w' ⟨rfl, rfl⟩)
    go_ret
    exact ⟨rfl, rfl⟩
  · rw [decide_eq_false h] at C
    rw [if_pos (by omega)]
    go_enter Tryz.func80, Tryz.ntmps80
    go_wp2_with (go_at_call 49; refine C.mono ?_; rintro e w' ⟨rfl, rfl⟩)
    go_ret
    exact ⟨rfl, rfl⟩
theorem idleI (f : Int) (w : World) (h0 : 64 ≤ f) : Calls Tryz.prog 61 #[.int .u8 f] w fun e w' => e = .returned (.int .u8 (if 128 ≤ f then 12 else 24)) ∧ w' = w := by
  have C := shortB f w h0
  by_cases h : f < 128
  · rw [decide_eq_true h] at C
    rw [if_neg (by omega)]
    go_enter Tryz.func61, Tryz.ntmps61
    go_wp2_with (go_at_call 49; refine C.mono ?_; rintro e w' ⟨rfl, rfl⟩)
    go_ret
    exact ⟨rfl, rfl⟩
  · rw [decide_eq_false h] at C
    rw [if_pos (by omega)]
    go_enter Tryz.func61, Tryz.ntmps61
    go_wp2_with (go_at_call 49; refine C.mono ?_; rintro e w' ⟨rfl, rfl⟩)
    go_ret
    exact ⟨rfl, rfl⟩
theorem numLenI (f : Int) (w : World) (h0 : 0 ≤ f) (h1 : f < 256) : Calls Tryz.prog 55 #[.int .u8 f] w fun e w' => e = .returned (.int .i64 (f % 4 + 1)) ∧ w' = w := by
  have e : bits .and .u8 f 3 = f % 4 := and8_m f 3 2 (by decide) rfl (by decide) h0 h1
  go_enter Tryz.func55, Tryz.ntmps55
  go_wp2
  go_ret
  exact ⟨rfl, rfl⟩
theorem phaseI (f : Int) (w : World) (h0 : 64 ≤ f) (h1 : f < 256) : Calls Tryz.prog 56 #[.int .u8 f] w fun e w' => e = .returned (.int .i64 (if 128 ≤ f then 0 else f / 4 % 2)) ∧ w' = w := by
  have C := shortB f w h0
  have e : bits .and .u8 (f / 4) 1 = f / 4 % 2 := and8_m (f / 4) 1 1 (by decide) rfl (by decide) (by omega) (by omega)
  by_cases h : f < 128
  · rw [decide_eq_true h] at C
    rw [if_neg (by omega)]
    go_enter Tryz.func56, Tryz.ntmps56
    go_wp2_with (go_at_call 49; refine C.mono ?_; rintro e w' ⟨rfl, rfl⟩)
    go_ret
    exact ⟨rfl, rfl⟩
  · rw [decide_eq_false h] at C
    rw [if_pos (by omega)]
    go_enter Tryz.func56, Tryz.ntmps56
    go_wp2_with (go_at_call 49; refine C.mono ?_; rintro e w' ⟨rfl, rfl⟩)
    go_ret
    exact ⟨rfl, rfl⟩
set_option maxRecDepth 20000 in
theorem underI (x : Int) (b off c : Nat) (m0 : Int) (w : World) (h0 : 64 ≤ x) (hc : w.cell? ⟨b, off, none⟩ = some (.int .u8 m0)) :
    Calls Tryz.prog 54 #[.int .u8 x, .slice (some ⟨b, off, none⟩) 5 c] w fun e w' => e = .returned (.int .u8 (fstV x m0)) ∧ ∃ m, w' = w.drewN m := by
  have C : ∀ n, _ := fun n => maskedI x (w.drewN n) h0
  unfold fstV
  generalize (if 128 ≤ x then (15 : Int) else 31) = y at C ⊢
  have HC : Hid _ := And.intro C True.intro
  clear C h0
  go_enter Tryz.func54, Tryz.ntmps54
  go_wp2_with fail
  go_quiet (first | (go_at_call 80; exact Calls.quiet_of_same (HC.out.1 _)))
  go_wp2
  go_ret
  exact ⟨rfl, nq, rfl⟩

/-- A row from whose place p on k places were laid under the mask. -/
def zL (xs ms : List Int) (p : Nat) : Nat → List Int
  | 0 => xs
  | k + 1 => (zL xs ms p k).set (p + k) (bits .xor .u8 (xs.getD (p + k) 0) (ms.getD (k + 1) 0))
theorem zL_length (xs ms : List Int) (p : Nat) : ∀ k, (zL xs ms p k).length = xs.length
  | 0 => rfl
  | k + 1 => by unfold zL; rw [List.length_set]; exact zL_length xs ms p k
theorem zL_at (xs ms : List Int) (p j : Nat) : ∀ k, p + k ≤ xs.length → (zL xs ms p k).getD j 0 = if p ≤ j ∧ j < p + k then bits .xor .u8 (xs.getD j 0) (ms.getD (j - p + 1) 0) else xs.getD j 0
  | 0, _ => by unfold zL; rw [if_neg (by omega)]
  | k + 1, h => by
    have ih := zL_at xs ms p j k (by omega)
    have hl := zL_length xs ms p k
    unfold zL
    by_cases e : j = p + k
    · subst e
      rw [if_pos (by omega)]
      simp only [List.getD, List.getElem?_set]
      rw [show p + k - p + 1 = k + 1 by omega]
      simp [hl, show p + k < xs.length by omega]
    · have : ((zL xs ms p k).set (p + k) (bits .xor .u8 (xs.getD (p + k) 0) (ms.getD (k + 1) 0))).getD j 0 = (zL xs ms p k).getD j 0 := by
        simp only [List.getD, List.getElem?_set]
        rw [if_neg (by omega)]
      rw [this, ih]
      by_cases h1 : p ≤ j ∧ j < p + k
      · rw [if_pos h1, if_pos (by omega)]
      · rw [if_neg h1, if_neg (by omega)]

theorem Only.cell {g : Nat} {w w' : World} (h : Only (some g) w w') {b : Nat} (hb : b ≠ g) (o : Nat) : w'.cell? ⟨b, o, none⟩ = w.cell? ⟨b, o, none⟩ := cell_of_heap (h.5 b (by simpa using hb)) o
set_option maxRecDepth 20000 in
set_option maxHeartbeats 2000000 in
theorem layI (g cap base p nl bm om cm : Nat) (xs ms : List Int) (w : World) (hown : w.ownsRow base 5 1 (.slice (some ⟨g, 0, none⟩) (p + nl) cap) (p + nl) (xs.map (Value.int .u8))) (hl : xs.length = p + nl) (hp : 0 < p) (h1 : 1 ≤ nl) (h4 : nl ≤ 4) (hnm : p + nl ≤ 65536)
    (hm : ∀ j, j < 5 → w.cell? ⟨bm, om + j, none⟩ = some (.int .u8 (ms.getD j 0))) (hbm : bm ≠ g) (hx : 64 ≤ xs.getD 0 0) :
    Calls Tryz.prog 57 #[.slice (some ⟨g, 0, none⟩) (p + nl) cap, .slice (some ⟨bm, om, none⟩) 5 cm, .int .i64 (nl : Int)] w fun e w' => e = .returned (.tuple #[]) ∧
      w'.ownsRow base 5 1 (.slice (some ⟨g, 0, none⟩) (p + nl) cap) (p + nl) ((zL (xs.set 0 (fstV (xs.getD 0 0) (ms.getD 0 0))) ms p nl).map (Value.int .u8)) ∧ Only (some g) w w' := by
  have c0 := owns_cell hown hl (k := 0) (by omega)
  have f0 := hown.frozenAt 0
  have m0 := hm 0 (by omega)
  rw [Nat.add_zero] at m0
  have CU := underI (xs.getD 0 0) bm om cm (ms.getD 0 0) w hx m0
  have hst : ∀ (m : Nat) (x : Int), _ := fun m x => (((owns_drewN hown m).stored 0 (.int .u8 x)).1)
  generalize hX : xs.getD 0 0 = X at c0 CU hx ⊢
  generalize hF : fstV X (ms.getD 0 0) = F at CU ⊢
  have hwp : IntKind.i64.wrap (((p + nl : Nat) : Int) - (nl : Int)) = (p : Int) := by rw [IntKind.wrap_i64]; omega
  have hcap : p + nl ≤ cap ∧ cap ≤ 9223372036854775807 := hm_cap hown
  obtain ⟨hcap1, hcap2⟩ := hcap
  have hO : ∀ q, Only (some g) w ((w.drewN q).setCell ⟨g, 0, none⟩ (.int .u8 F)) := fun q => Only.trans (g := some g) (b := w.drewN q) ⟨rfl, rfl, rfl, rfl, fun _ _ => rfl⟩ (Only.setCell (w := w.drewN q) ⟨g, 0, none⟩ _)
  have HH : Hid _ := And.intro hl (And.intro hm (And.intro hst (And.intro hbm hO)))
  clear hown hl hm hst hx m0 hX hF hO
  go_enter Tryz.func57, Tryz.ntmps57
  go_wp2_with fail
  go_at_call 54
  refine CU.mono ?_
  rintro e w1 ⟨rfl, q, rfl⟩
  clear CU
  go_wp2_with fail
  clear c0 f0
  go_loopg [23] nl (fun q i wr => ∃ k : Nat, k ≤ nl ∧ q = nl - k ∧ i = .int .i64 (k : Int) ∧ wr.ownsRow base 5 1 (.slice (some ⟨g, 0, none⟩) (p + nl) cap) (p + nl) ((zL (xs.set 0 F) ms p k).map (Value.int .u8)) ∧ Only (some g) w wr)
  case atStart =>
    refine ⟨0, by omega, by omega, rfl, ?_, HH.out.2.2.2.2 q⟩
    have := HH.out.2.2.1 q F
    rwa [← List.map_set] at this
  case round =>
    obtain ⟨k, hk, hq, rfl, ow, on⟩ := hrel
    by_cases hlt : k < nl
    · have hz : (zL (xs.set 0 F) ms p k).length = p + nl := by rw [zL_length, List.length_set]; exact HH.out.1
      have c1 := owns_cell ow hz (k := p + k) (by omega)
      have c2 := (on.cell HH.out.2.2.2.1 (om + (k + 1))).trans (HH.out.2.1 (k + 1) (by omega))
      have f1 := ow.frozenAt (p + k)
      have e1 : (zL (xs.set 0 F) ms p k).getD (p + k) 0 = (xs.set 0 F).getD (p + k) 0 := by
        rw [zL_at _ _ _ _ _ (by rw [List.length_set, HH.out.1]; omega), if_neg (by omega)]
      rw [e1] at c1
      have e2 : zL (xs.set 0 F) ms p (k + 1) = (zL (xs.set 0 F) ms p k).set (p + k) (bits .xor .u8 ((xs.set 0 F).getD (p + k) 0) (ms.getD (k + 1) 0)) := rfl
      have st := fun x : Int => (ow.stored (p + k) (.int .u8 x)).1
      generalize (xs.set 0 F).getD (p + k) 0 = y at c1 e2
      generalize ms.getD (k + 1) 0 = z at c2 e2
      have H2 : Hid _ := And.intro st (And.intro on (And.intro e2 True.intro))
      clear ow on hz e1 e2 st
      have c3 := c2
      rw [show om + (k + 1) = om + (1 + k) by omega] at c3
      go_wp2_with fail
      go_region
      all_goals
        go_wp2
        go_roundg (nl - (k + 1))
        case measure => omega
        case rel =>
          refine ⟨k + 1, by omega, rfl, by go_num, ?_, (H2.out.2.1.drew).trans (Only.setCell (w := wr.drew) ⟨g, p + k, none⟩ _)⟩
          rw [H2.out.2.2.1, List.map_set]
          exact H2.out.1 _
    · obtain rfl : k = nl := by omega
      have H2 : Hid _ := And.intro ow (And.intro on True.intro)
      clear ow on
      go_wp2
      go_end0
      exact ⟨rfl, H2.out.1, H2.out.2.1⟩
end Go.Proofs.YthokfbgpoffafaaGreatDoor

namespace Go.Proofs.YthokfbgpoffafaaGreatDoor
open Go.RowKit
set_option linter.unusedVariables false

theorem row_partc {w : World} {g t off n c : Nat} {fr : Nat × Nat} {xs : List Int} (h : w.heap[g]? = some (.cells (u8s xs).toArray t fr)) (hn : off + n ≤ xs.length) (hc : n ≤ c) (hm : c ≤ maxLen) : Row w .u8 (.slice (some ⟨g, off, none⟩) n c) ((xs.drop off).take n) := by
  have := row_cut (w := w) (k := .u8) (xs := xs) (b := g) (off := 0) (cap := 0) (at' := off) (n := n) (cap' := c) (Array.getElem?_eq_some_iff.1 h).1 (fun j hj => ?_) hn ⟨hc, hm⟩
  · rwa [Nat.zero_add] at this
  · rw [Nat.zero_add, blkS_cell h]
    simp [u8s, List.getD, hj]

set_option maxRecDepth 20000 in
set_option maxHeartbeats 4000000 in
theorem ihead_badkey (v sv : Value) (k : K4) (w : World) (hk : KRow w v k) (ho : ¬ kok k) :
    Calls Tryz.prog 53 #[v, sv] w fun e w' => ∃ r, e = .returned r ∧ w'.ownsRow w.heap.size 5 1 r 0 [] ∧ Below w.heap.size w w' := by
  obtain ⟨v0, v1, v2, v3, rfl, r0, r1, r2, r3⟩ := id hk
  have C0 : Below w.heap.size w (w.alloc (.cells #[v0, v1, v2, v3] 30)) := (Below.refl _ _).alloc (Nat.le_refl _) _
  have HW : Hid _ := And.intro (innerOf_bad _ k _ (hk.below C0) ho) C0
  clear r0 r1 r2 r3 C0 ho hk
  go_enter Tryz.func53, Tryz.ntmps53
  go_wp2_with fail
  go_at_call 78
  refine HW.out.1.mono ?_
  rintro e w1 ⟨rfl, b1⟩
  have H1 : Hid _ := And.intro (HW.out.2.trans (b1.mono HW.out.2.size)) True.intro
  have z1 : w.heap.size ≤ w1.heap.size := H1.out.1.size
  clear b1
  go_wp2_with (refine wpList_store_at rfl 119 (.tmp 5) (.tmp 11) rfl w1.heap.size _ rfl rfl 119 _ (MapKept.heap_alloc w1 _).1 (infoIs _ (by simp)) (by simp [u8s_length]) (u8s_all _) ?_; intro w2 h2 m2)
  go_ret
  exact ⟨_, rfl, World.ownsRow_nil _ _ _ _, (H1.out.1.alloc (by omega) _).trans (m2.below (by omega))⟩

set_option maxRecDepth 20000 in
set_option maxHeartbeats 4000000 in
theorem ihead_badlen (v : Value) (ao : Option Addr) (n p : Nat) (k : K4) (w : World) (hk : KRow w v k) (ho : kok k) (hn : n ≠ 8) (hn1 : n ≤ 9223372036854775807) :
    Calls Tryz.prog 53 #[v, .slice ao n p] w fun e w' => ∃ r, e = .returned r ∧ w'.ownsRow w.heap.size 5 1 r 0 [] ∧ Below w.heap.size w w' := by
  obtain ⟨v0, v1, v2, v3, rfl, r0, r1, r2, r3⟩ := id hk
  have C0 : Below w.heap.size w (w.alloc (.cells #[v0, v1, v2, v3] 30)) := (Below.refl _ _).alloc (Nat.le_refl _) _
  have HW : Hid _ := And.intro (innerOf_ok _ k _ (hk.below C0) ho) (And.intro C0 (inL_length k ho))
  have hne : ((n : Int) != 8) = true := by simp; omega
  clear r0 r1 r2 r3 C0 ho hk
  go_enter Tryz.func53, Tryz.ntmps53
  go_wp2_with fail
  go_at_call 78
  refine HW.out.1.mono ?_
  rintro e w1 ⟨rfl, b1⟩
  have H1 : Hid _ := And.intro (HW.out.2.1.trans (b1.mono HW.out.2.1.size)) True.intro
  have z1 : w.heap.size ≤ w1.heap.size := H1.out.1.size
  clear b1
  go_wp2_with (refine wpList_store_at rfl 119 (.tmp 5) (.tmp 11) rfl w1.heap.size _ rfl rfl 119 _ (MapKept.heap_alloc w1 _).1 (infoIs _ HW.out.2.2) (by simp [u8s_length, HW.out.2.2]) (u8s_all _) ?_; intro w2 h2 m2)
  go_ret
  exact ⟨_, rfl, World.ownsRow_nil _ _ _ _, (H1.out.1.alloc (by omega) _).trans (m2.below (by omega))⟩

set_option maxRecDepth 20000 in
set_option maxHeartbeats 8000000 in
theorem ihead_ok (v : Value) (ao : Option Addr) (p : Nat) (k : K4) (ss : List Int) (w : World) (hk : KRow w v k) (kb : k.bytes) (ho : kok k) (hs : Row w .u8 (.slice ao 8 p) ss) (hl : ss.length = 8) (bs : Bytes ss) :
    Calls Tryz.prog 53 #[v, .slice ao 8 p] w fun e w' => ∃ r, e = .returned r ∧ w'.ownsRow w.heap.size 5 1 r (headV k ss).length ((headV k ss).map (Value.int .u8)) ∧ Below w.heap.size w w' := by
  obtain ⟨v0, v1, v2, v3, rfl, r0, r1, r2, r3⟩ := id hk
  have C0 : Below w.heap.size w (w.alloc (.cells #[v0, v1, v2, v3] 30)) := (Below.refl _ _).alloc (Nat.le_refl _) _
  have HW : Hid _ := And.intro (innerOf_ok _ k _ (hk.below C0) ho) (And.intro C0 (And.intro (inL_length k ho) (And.intro ho (And.intro kb (And.intro hs (And.intro hl bs))))))
  clear r0 r1 r2 r3 C0 ho hk kb hs hl bs
  go_enter Tryz.func53, Tryz.ntmps53
  go_wp2_with fail
  go_at_call 78
  refine HW.out.1.mono ?_
  rintro e w1 ⟨rfl, b1⟩
  have H1 : Hid _ := And.intro (HW.out.2.1.trans (b1.mono HW.out.2.1.size)) True.intro
  have z1 : w.heap.size ≤ w1.heap.size := H1.out.1.size
  clear b1
  go_wp2_with (refine wpList_store_at rfl 119 (.tmp 5) (.tmp 11) rfl w1.heap.size _ rfl rfl 119 _ (MapKept.heap_alloc w1 _).1 (infoIs _ HW.out.2.2.1) (by simp [u8s_length, HW.out.2.2.1]) (u8s_all _) ?_; intro w2 h2 m2)
  go_at_call 79
  have C2 : Below w.heap.size w w2 := (H1.out.1.alloc (by omega) _).trans (m2.below (by omega))
  have H2 : Hid _ := And.intro C2 h2
  clear h2 m2 C2
  refine (iparts _ _ k.d [ss] _ ((inL_rows H2.out.2 HW.out.2.2.2.1).2.2.1.below ((Below.refl _ _).alloc (Nat.le_refl _) _)) HW.out.2.2.2.2.1.2.2.2 (by rw [HW.out.2.2.2.1.2.2.2]; decide) (parts1 (HW.out.2.2.2.2.2.1.below H2.out.1) _) (bytes_getD1 HW.out.2.2.2.2.2.2.2) (by have := HW.out.2.2.2.2.2.2.1; simp; omega) (by simp)).mono ?_
  rintro e w3 ⟨rfl, b3⟩
  have ef : [ss].flatten = ss := by simp
  rw [ef]
  have hdl := digV_length k.d ss
  have H3 : Hid (Below w.heap.size w w3 ∧ (digV k.d ss).length = 16) := And.intro ((H2.out.1.alloc H2.out.1.size _).trans (b3.mono (by have := H2.out.1.size; simp; omega))) hdl
  have z3 : w.heap.size ≤ w3.heap.size := H3.out.1.size
  clear b3 ef hdl
  obtain ⟨D, eD⟩ : ∃ D, D = digV k.d ss := ⟨_, rfl⟩
  rw [← eD] at H3 ⊢
  have ED : Hid _ := eD
  clear eD
  go_wp2_with (first
    | (refine wpList_store_at rfl 122 (.tmp 7) (.tmp 24) rfl w3.heap.size _ rfl rfl 122 _ (MapKept.heap_alloc w3 _).1 (infoBs _ H3.out.2) (by simp [u8s_length, H3.out.2]) (u8s_all _) ?_; intro w4 h4 m4; have C4 : Hid (Below w.heap.size w w4) := (H3.out.1.alloc (by omega) _).trans (m4.below (by omega)); have R4 : Hid (Row w4 .u8 (.slice (some ⟨w3.heap.size, 0, none⟩) 5 16) (D.take 5)) := by show Row _ _ _ _; have := row_partc (off := 0) (n := 5) (c := 16) h4 (by rw [H3.out.2]; decide) (by decide) (by decide); rwa [List.drop_zero] at this)
    | (at_builtin; refine wpList_append_row rfl (.const _) (.tmp 25) rfl w4.heap.size (.slice none 0 0) 0 [] rfl (World.ownsRow_nil _ _ _ _) (.slice (some ⟨w3.heap.size, 0, none⟩) 5 16) (D.take 5) rfl R4.out (by rw [List.length_take, H3.out.2]; decide) (Nat.le_refl _) ?_; intro q5 w5 o5 g5))
  go_ret
  refine ⟨_, rfl, ?_, C4.out.trans ((grown_belowO g5).mono C4.out.size)⟩
  have e : headV k ss = D.take 5 := by rw [ED.out]; rfl
  rw [e]
  have := owns_mono o5 C4.out.size
  simpa using this
end Go.Proofs.YthokfbgpoffafaaGreatDoor

namespace Go.Proofs.YthokfbgpoffafaaGreatDoor
open Go.RowKit
set_option linter.unusedVariables false

theorem osI (v : Value) (ah : Option Addr) (nh ph b off nx pb : Nat) (k : K4) (num : Int) (hd xs : List Int) (w : World) (hk : KRow w v k) (kb : k.bytes) (ho : kok k) (h0 : 0 ≤ num) (h1 : num ≤ 4611686018427387903)
    (eh : hd.length = nh) (ex : xs.length = nx) (hm : nh ≤ 65536) (hx8 : 8 ≤ nx) (hxm : nx ≤ 65536) (hh : Row w .u8 (.slice ah nh ph) hd) (hx : Row w .u8 (.slice (some ⟨b, off, none⟩) nx pb) xs) (bh : Bytes hd) (bx : Bytes xs) :
    Calls Tryz.prog 60 #[v, .int .i64 num, .slice ah nh ph, .slice (some ⟨b, off, none⟩) nx pb] w fun e w' => ∃ r, e = .returned (.tuple #[r, .int .i64 (osE k num hd xs)]) ∧ w'.ownsRow w.heap.size 5 1 r (osV k num hd xs).length ((osV k num hd xs).map (Value.int .u8)) ∧ Below w.heap.size w w' := by
  subst eh ex
  by_cases hl : 1508 < hd.length + xs.length
  · have e1 : osE k num hd xs = 4 := by unfold osE; rw [if_pos hl]
    have e2 : osV k num hd xs = [] := by unfold osV; rw [if_pos hl]
    rw [e1, e2]
    exact iopen_long v ah _ _ _ ph pb k num w hk ho h0 h1 hl (by omega) (by omega)
  · have e1 : osE k num hd xs = openE k num hd xs := by unfold osE; rw [if_neg hl]
    have e2 : osV k num hd xs = openV k num hd xs := by unfold osV; rw [if_neg hl]
    rw [e1, e2]
    obtain ⟨n, hn⟩ : ∃ n, xs.length = n + 8 := ⟨xs.length - 8, by omega⟩
    have en : xs.length - 8 = n := by omega
    unfold openE openV
    rw [en]
    rw [hn] at hx ⊢
    by_cases hc : tagV k.b (nonV k num) hd (xs.take n) = xs.drop n
    · rw [if_pos hc, if_pos hc]
      exact iopen_right v ah ph b off n pb k num hd xs w hk kb ho h0 h1 hn (by omega) hh hx bh bx hc
    · rw [if_neg hc, if_neg hc]
      exact iopen_wrong v ah ph b off n pb k num hd xs w hk kb ho h0 h1 hn (by omega) hh hx bh bx hc

theorem exV_bd (e c : Int) (W : Int) (hW : W = 256 ∨ W = 65536 ∨ W = 16777216 ∨ W = 4294967296) (he : 0 ≤ e) (he1 : e ≤ 4611686018427387904) (hc : 0 ≤ c) (hc1 : c < W) : exV e c W = -1 ∨ (0 ≤ exV e c W ∧ exV e c W ≤ 4611686018427387903) := by
  unfold exV
  rcases hW with rfl | rfl | rfl | rfl <;> (repeat' split) <;> omega
theorem expV_bd (l c n : Int) : expV l c n = -1 ∨ (0 ≤ expV l c n ∧ expV l c n ≤ 4611686018427387903) := by
  unfold expV
  split
  · exact Or.inl rfl
  · repeat' split
    all_goals first
      | exact Or.inl rfl
      | exact exV_bd _ _ _ (by omega) (by omega) (by omega) (by omega) (by omega)
theorem opNum_bd (k : K4) (xs : List Int) (na : Nat) (l : Int) : opNum k xs na l = -1 ∨ (0 ≤ opNum k xs na l ∧ opNum k xs na l ≤ 4611686018427387903) := expV_bd _ _ _
theorem vals_small (ys : List Int) (h : ys.length ≤ 4) (hb : Bytes ys) : 0 ≤ vals ys ∧ vals ys < 4294967296 := by
  refine ⟨vals_nonneg _ hb, ?_⟩
  have hv := vals_lt ys hb
  generalize ys.length = m at *
  have : m = 0 ∨ m = 1 ∨ m = 2 ∨ m = 3 ∨ m = 4 := by omega
  rcases this with rfl | rfl | rfl | rfl | rfl <;> simp at hv <;> omega
/-- The head as the program lays it out. -/
theorem opHead_zL (k : K4) (xs : List Int) (na : Nat) (h0 : 0 < na) (h : na + opL k xs na ≤ xs.length) :
    zL ((sub xs 0 (na + opL k xs na)).set 0 (fstV ((sub xs 0 (na + opL k xs na)).getD 0 0) ((opMask k xs na).getD 0 0))) (opMask k xs na) na (opL k xs na) = opHead k xs na := by
  have hb := opL_bd k xs na
  have e0 : (sub xs 0 (na + opL k xs na)).getD 0 0 = xs.getD 0 0 := by simp [sub, List.getD, show 0 < na + opL k xs na by omega]
  rw [e0]
  have hl : (sub xs 0 (na + opL k xs na)).length = na + opL k xs na := sub_len _ _ _ (by omega)
  apply list_eq_of_getD (n := na + opL k xs na)
  · rw [zL_length, List.length_set, hl]
  · exact opHead_length k xs na h0 (by omega)
  · intro j hj
    rw [zL_at _ _ _ _ _ (by rw [List.length_set, hl]; exact Nat.le_refl _)]
    have ej : ∀ i, i < na + opL k xs na → (sub xs 0 (na + opL k xs na)).getD i 0 = xs.getD i 0 := by
      intro i hi
      simp [sub, List.getD, hi]
    have es : ∀ i x, 0 < i → ((sub xs 0 (na + opL k xs na)).set 0 x).getD i 0 = (sub xs 0 (na + opL k xs na)).getD i 0 := by
      intro i x hi
      simp only [List.getD, List.getElem?_set]
      rw [if_neg (by omega)]
    by_cases hc : na ≤ j ∧ j < na + opL k xs na
    · rw [if_pos hc, es j _ (by omega), ej j hj]
      obtain ⟨i, rfl⟩ : ∃ i, j = na + i := ⟨j - na, by omega⟩
      have hi : i < opL k xs na := by omega
      have e1 : (opHead k xs na).getD (na + i) 0 = (opD k xs na).getD i 0 := by
        unfold opHead
        rw [show na + i = (na - 1 + i) + 1 by omega]
        have hs : (sub xs 1 (na - 1)).length = na - 1 := sub_len _ _ _ (by omega)
        simp only [List.getD, List.getElem?_cons_succ]
        rw [List.getElem?_append_right (by omega), hs, show na - 1 + i - (na - 1) = i by omega]
      rw [e1, show na + i - na + 1 = i + 1 by omega]
      unfold opD xl
      have e2 : (sub xs na (opL k xs na)).getD i 0 = xs.getD (na + i) 0 := by simp [sub, List.getD, hi]
      have e3 : ((opMask k xs na).drop 1).getD i 0 = (opMask k xs na).getD (i + 1) 0 := by simp [List.getD]
      simp only [List.getD, List.getElem?_map, List.getElem?_range hi, Option.map_some, Option.getD_some] at e2 e3 ⊢
      rw [e2, e3]
    · rw [if_neg hc]
      have hj2 : j < na := by omega
      cases j with
      | zero => simp [opHead, opF, List.getD, hl, show 0 < na + opL k xs na by omega]
      | succ i =>
        rw [es _ _ (by omega), ej _ hj]
        unfold opHead
        have hs : (sub xs 1 (na - 1)).length = na - 1 := sub_len _ _ _ (by omega)
        simp only [List.getD, List.getElem?_cons_succ]
        rw [List.getElem?_append_left (by omega)]
        have hi : i < na - 1 := by omega
        simp [sub, hi]
theorem cell_lt {w : World} {b o : Nat} {v : Value} (h : w.cell? ⟨b, o, none⟩ = some v) : b < w.heap.size := by
  by_cases hb : b < w.heap.size
  · exact hb
  · have : w.heap[b]? = none := by simp; omega
    simp [World.cell?, this] at h
theorem opHead_tail (k : K4) (xs : List Int) (na i : Nat) (h0 : 0 < na) (h : na ≤ xs.length) : (opHead k xs na).getD (na + i) 0 = (opD k xs na).getD i 0 := by
  unfold opHead
  rw [show na + i = (na - 1 + i) + 1 by omega]
  have hs : (sub xs 1 (na - 1)).length = na - 1 := sub_len _ _ _ (by omega)
  simp only [List.getD, List.getElem?_cons_succ]
  rw [List.getElem?_append_right (by omega), hs, show na - 1 + i - (na - 1) = i by omega]
/-- What stands while a packet is opened. -/
structure OpA (o w W : World) (gp kb b off n cap : Nat) (k : K4) (u0 u1 u2 u3 : Value) (cs : Array Value) (xs : List Int) : Prop where
  key : KRow o (.agg #[u0, u1, u2, u3]) k
  lie : Lies o b off n cap xs
  old : Below o.heap.size o W
  kbk : W.heap[kb]? = some (.cells #[u0, u1, u2, u3] 30 (0, 0))
  pbk : W.heap[gp]? = some (.cells cs 53 (0, 0))
  chg : Chg (· = gp) w W
  ne : kb ≠ gp
  og : o.heap.size ≤ gp
theorem OpA.step {o w W W' : World} {gp kb b off n cap : Nat} {k : K4} {u0 u1 u2 u3 : Value} {cs : Array Value} {xs : List Int} (h : OpA o w W gp kb b off n cap k u0 u1 u2 u3 cs xs) (hb : Below W.heap.size W W') : OpA o w W' gp kb b off n cap k u0 u1 u2 u3 cs xs :=
  ⟨h.key, h.lie, h.old.trans (hb.mono h.old.size), (hb.block kb (Array.getElem?_eq_some_iff.1 h.kbk).1).trans h.kbk, (hb.block gp (Array.getElem?_eq_some_iff.1 h.pbk).1).trans h.pbk, h.chg.trans (Chg.of_below hb), h.ne, h.og⟩
theorem OpA.set {o w W : World} {gp kb b off n cap : Nat} {k : K4} {u0 u1 u2 u3 : Value} {cs : Array Value} {xs : List Int} (h : OpA o w W gp kb b off n cap k u0 u1 u2 u3 cs xs) (i : Nat) (x : Value) : OpA o w (W.setCell ⟨gp, i, none⟩ x) gp kb b off n cap k u0 u1 u2 u3 (cs.setIfInBounds i x) xs :=
  ⟨h.key, h.lie, h.old.setCell h.og _, (bk_other h.ne i x).trans h.kbk, bk_set h.pbk i x, h.chg.set gp i x rfl, h.ne, h.og⟩
theorem OpA.c4 {o w W : World} {gp kb b off n cap : Nat} {k : K4} {u0 u1 u2 u3 : Value} {cs : Array Value} {xs : List Int} (h : OpA o w W gp kb b off n cap k u0 u1 u2 u3 cs xs) :
    W.cell? ⟨kb, 0, none⟩ = some u0 ∧ W.cell? ⟨kb, 1, none⟩ = some u1 ∧ W.cell? ⟨kb, 2, none⟩ = some u2 ∧ W.cell? ⟨kb, 3, none⟩ = some u3 :=
  ⟨(bk_cell h.kbk 0).trans rfl, (bk_cell h.kbk 1).trans rfl, (bk_cell h.kbk 2).trans rfl, (bk_cell h.kbk 3).trans rfl⟩
theorem OpA.keyW {o w W : World} {gp kb b off n cap : Nat} {k : K4} {u0 u1 u2 u3 : Value} {cs : Array Value} {xs : List Int} (h : OpA o w W gp kb b off n cap k u0 u1 u2 u3 cs xs) : KRow W (.agg #[u0, u1, u2, u3]) k := h.key.below h.old
theorem Lies.below' {o W : World} {b off n cap : Nat} {xs : List Int} (h : Lies o b off n cap xs) (hb : Below o.heap.size o W) : Lies W b off n cap xs :=
  ⟨h.len, Nat.lt_of_lt_of_le h.lt hb.size, h.fits, h.most, fun j hj => (hb.cell (p := ⟨b, off + j, none⟩) h.lt).trans (h.cell j hj)⟩

set_option maxRecDepth 20000 in
set_option maxHeartbeats 4000000 in
theorem openI (o w : World) (gp b off n cap : Nat) (k : K4) (a0 a1 a2 a3 ad as' at' av : Option Addr) (p0 p1 p2 p3 nd ns nt nv pd ps pt pv : Nat) (K : PK) (l : Int) (xs : List Int)
    (hk : KRow o (.agg #[.slice a0 k.a.length p0, .slice a1 k.b.length p1, .slice a2 k.c.length p2, .slice a3 k.d.length p3]) k) (kb : k.bytes) (ho : kok k) (hl : Lies o b off n cap xs) (hB : Bytes xs) (hn : n ≤ 65536) (hold : Below o.heap.size o w) (hog : o.heap.size ≤ gp)
    (hp : pkB w gp K.f K.v (.slice ad nd pd) (.slice as' ns ps) (.slice at' nt pt) (.slice av nv pv) K.na K.fin) (hna : 0 < K.na) (hf : K.na + 12 ≤ K.fin) (hfn : K.fin ≤ n) (h64 : 64 ≤ xs.getD 0 0) (hl0 : -1 ≤ l) (hl1 : l ≤ 4611686018427387903) :
    Calls Tryz.prog 31 #[.pointer (some ⟨gp, 0, none⟩), .agg #[.slice a0 k.a.length p0, .slice a1 k.b.length p1, .slice a2 k.c.length p2, .slice a3 k.d.length p3], .slice (some ⟨b, off, none⟩) K.fin cap, .int .i64 l] w
      fun e w' => ∃ r, e = .returned (.tuple #[r, .int .i64 (opT k xs K l).2.2]) ∧ w'.ownsRow w.heap.size 5 1 r (opT k xs K l).2.1.length ((opT k xs K l).2.1.map (Value.int .u8)) ∧ Chg (· = gp) w w' ∧
        ((opT k xs K l).2.2 = 0 → w'.heap[gp]? = some (.cells #[.int .i64 K.f, .int .i64 K.v, .slice ad nd pd, .slice as' ns ps, .slice at' nt pt, .int .i64 (opNum k xs K.na l), .int .i64 (opL k xs K.na), .int .i64 (opPh k xs K.na), .slice av nv pv, .int .i64 K.na, .int .i64 K.fin] 53 (0, 0))) := by
  obtain ⟨f, v, d, s, t, vers, na, fin⟩ := K
  simp only at hp hna hf hfn ⊢
  have hgl : gp < w.heap.size := (Array.getElem?_eq_some_iff.1 hp).1
  have A0 : Hid (OpA o w (w.alloc (.cells #[.slice a0 k.a.length p0, .slice a1 k.b.length p1, .slice a2 k.c.length p2, .slice a3 k.d.length p3] 30)) gp w.heap.size b off n cap k (.slice a0 k.a.length p0) (.slice a1 k.b.length p1) (.slice a2 k.c.length p2) (.slice a3 k.d.length p3) #[.int .i64 f, .int .i64 v, .slice ad nd pd, .slice as' ns ps, .slice at' nt pt, .int .i64 0, .int .i64 0, .int .i64 0, .slice av nv pv, .int .i64 na, .int .i64 fin] xs) :=
    ⟨hk, hl, hold.alloc hold.size _, heap_alloc_new w _, (Below.heap_alloc _ _ _ hgl).trans hp, Chg.of_below ((Below.refl _ _).alloc (Nat.le_refl _) _), by omega, hog⟩
  have hcap : n ≤ cap ∧ cap ≤ 9223372036854775807 := ⟨hl.fits, hl.most⟩
  obtain ⟨hcap1, hcap2⟩ := hcap
  have H0 : Hid _ := And.intro kb (And.intro ho (And.intro hB hl.len))
  have hkd : k.a.length = 16 ∧ k.b.length = 16 ∧ k.c.length = 8 ∧ k.d.length = 16 := ho
  obtain ⟨c0, f0⟩ : (w.alloc (.cells #[.slice a0 k.a.length p0, .slice a1 k.b.length p1, .slice a2 k.c.length p2, .slice a3 k.d.length p3] 30)).cell? ⟨gp, 9, none⟩ = some (.int .i64 (na : Int)) ∧ True := ⟨(bk_cell A0.out.pbk 9).trans rfl, trivial⟩
  clear hk kb ho hl hB hold hp hkd
  go_enter Tryz.func31, Tryz.ntmps31
  go_upto_region 2 with fail
  clear c0
  generalize ew0 : (w.alloc (.cells #[.slice a0 k.a.length p0, .slice a1 k.b.length p1, .slice a2 k.c.length p2, .slice a3 k.d.length p3] 30)) = W0 at A0 ⊢
  go_cut [11] from 23 to 29 (fun cm wx => ∃ g c, cm = .slice (some ⟨g, 0, none⟩) 5 c ∧ wx.ownsRow W0.heap.size 5 1 cm 5 ((opMask k xs na).map (Value.int .u8)) ∧ Below W0.heap.size W0 wx)
  case first =>
    have D : Hid (Below W0.heap.size W0 W0.drew) := ⟨rfl, rfl, rfl, Nat.le_refl _, fun _ _ => rfl⟩
    have AD : Hid _ := A0.out.step D.out
    obtain ⟨e0, e1, e2, e3⟩ := AD.out.c4
    have R : Hid _ := And.intro ((AD.out.lie.below' AD.out.old).row (na + 4) 8 (by omega)) (show (sub xs (na + 4) 8).length = 8 from sub_len _ _ _ (by have := H0.out.2.2.2; omega))
    have hcn : ¬ cap = na + 4 := by omega
    have q0 : na ≤ 65524 := by omega
    have q1 : na + 12 ≤ cap := by omega
    have t1 : IntKind.i64.wrap ((na : Int) + 4 + 8) = (na : Int) + 12 := by rw [IntKind.wrap_i64]; omega
    have t2 : 0 ≤ (na : Int) + 12 ∧ (na : Int) + 12 ≤ (cap : Int) := by omega
    have t3 : 0 ≤ (na : Int) + 4 ∧ (na : Int) + 4 ≤ max ((na : Int) + 12) 0 := by omega
    have t4 : ((na : Int) + 4).toNat = na + 4 := by omega
    have t5 : ((na : Int) + 12).toNat - (na + 4) = 8 := by omega
    have t6 : (cap = na + 4) = False := by simp; omega
    clear hf hfn hcap1 hna hcn
    go_region_with (go_at_call 53; refine (ihead_ok _ _ _ k (sub xs (na + 4) 8) W0.drew AD.out.keyW H0.out.1 H0.out.2.1 R.out.1 R.out.2 (sub_bytes H0.out.2.2.1 _ _)).mono ?_; rintro e wy ⟨r, rfl, orr, br⟩)
    all_goals
      obtain ⟨g, c, er, _, _⟩ := owns_shape orr (by rw [headV_length]; decide)
      rw [headV_length] at er orr
      subst er
      go_wp2_with fail
      go_meet
      exact ⟨g, c, rfl, owns_mono orr (Nat.le_refl _), D.out.trans (br.mono D.out.size)⟩
  case rest =>
    obtain ⟨g, c, rfl, om, bm⟩ := hcut
    have A1 : Hid _ := A0.out.step bm
    have hml : (opMask k xs na).length = 5 := opMask_length _ _ _
    have mc : ∀ j, j < 5 → wc.cell? ⟨g, j, none⟩ = some (.int .u8 ((opMask k xs na).getD j 0)) := fun j hj => owns_cell om hml hj
    obtain ⟨hgW, hgl2⟩ : W0.heap.size ≤ g ∧ g < wc.heap.size := by obtain ⟨g', c', e, h1, h2⟩ := owns_shape om (by decide); cases e; exact ⟨h1, h2⟩
    have hmB : Bytes (opMask k xs na) := fun x hx => digV_bytes _ _ x (List.mem_of_mem_take hx)
    have x0 := (A1.out.lie.below' A1.out.old).cell 0 (by omega)
    rw [Nat.add_zero] at x0
    have hXb := H0.out.2.2.1.at 0
    have hMb := hmB.at 0
    have CU : Calls Tryz.prog 54 #[.int .u8 (xs.getD 0 0), .slice (some ⟨g, 0, none⟩) 5 c] wc fun e w' => e = .returned (.int .u8 (opF k xs na)) ∧ ∃ m, w' = wc.drewN m := underI (xs.getD 0 0) g 0 c ((opMask k xs na).getD 0 0) wc h64 (mc 0 (by decide))
    have hF32 : opF k xs na / 32 = xs.getD 0 0 / 32 := fstV_hi _ _ (by omega) (by omega) (by omega) (by omega)
    have hFb : 0 ≤ opF k xs na ∧ opF k xs na < 256 := fstV_bd _ _
    have hNL : opF k xs na % 4 + 1 = ((opL k xs na : Nat) : Int) := by unfold opL; omega
    have hPH : (if 128 ≤ opF k xs na then 0 else opF k xs na / 4 % 2) = opPh k xs na := by
      unfold opPh
      by_cases h : 128 ≤ xs.getD 0 0
      · rw [if_pos h, if_pos (by omega)]
      · rw [if_neg h, if_neg (by omega)]
    have hID : (if 128 ≤ opF k xs na then (12 : Int) else 24) = (if 128 ≤ xs.getD 0 0 then 12 else 24) := by
      by_cases h : 128 ≤ xs.getD 0 0
      · rw [if_pos h, if_pos (by omega)]
      · rw [if_neg h, if_neg (by omega)]
    have hLb := opL_bd k xs na
    have CI : ∀ u : World, Calls Tryz.prog 61 #[.int .u8 (opF k xs na)] u fun e w' => e = .returned (.int .u8 (if 128 ≤ xs.getD 0 0 then 12 else 24)) ∧ w' = u := fun u => by rw [← hID]; exact idleI _ u (by omega)
    have CN : ∀ u : World, Calls Tryz.prog 55 #[.int .u8 (opF k xs na)] u fun e w' => e = .returned (.int .i64 ((opL k xs na : Nat) : Int)) ∧ w' = u := fun u => by rw [← hNL]; exact numLenI _ u hFb.1 hFb.2
    have CP : ∀ u : World, Calls Tryz.prog 56 #[.int .u8 (opF k xs na)] u fun e w' => e = .returned (.int .i64 (opPh k xs na)) ∧ w' = u := fun u => by rw [← hPH]; exact phaseI _ u (by omega) hFb.2
    have eHd := opHead_zL k xs na hna (by have := H0.out.2.2.2; omega)
    have eIdl : opIdle k xs na = bits .and .u8 (opF k xs na) (if 128 ≤ xs.getD 0 0 then 12 else 24) := rfl
    have HM : Hid _ := And.intro mc (And.intro hgW (And.intro hgl2 (And.intro hml (And.intro eHd (And.intro eIdl (And.intro CI True.intro))))))
    have c6 : wc.cell? ⟨gp, 6, none⟩ = some (.int .i64 0) := (bk_cell A1.out.pbk 6).trans rfl
    have c7 : wc.cell? ⟨gp, 7, none⟩ = some (.int .i64 0) := (bk_cell A1.out.pbk 7).trans rfl
    have f6 := bk_free A1.out.pbk 6
    have f7 := bk_free A1.out.pbk 7
    have hfin : 1 ≤ fin := by omega
    have HX : Hid (64 ≤ xs.getD 0 0) := h64
    generalize hNLe : opL k xs na = nl at CN hLb HM
    generalize hFe : opF k xs na = F at CU CN CP HM
    generalize hPe : opPh k xs na = ph at CP
    generalize hXe : xs.getD 0 0 = X at x0 CU HM HX
    have HE : Hid _ := And.intro hNLe (And.intro hFe (And.intro hPe (And.intro hXe True.intro)))
    have HC : Hid _ := And.intro CN (And.intro CP True.intro)
    clear om bm hml mc hmB hXb hMb hF32 hFb hNL hPH hID CI CN CP eHd eIdl hNLe hFe hPe hXe h64
    go_wp2_with fail
    go_at_call 54
    refine CU.mono ?_
    rintro e w1 ⟨rfl, q, rfl⟩
    clear CU
    go_wp2_with fail
    go_at_call 55
    refine (HC.out.1 _).mono ?_
    rintro e w1 ⟨rfl, rfl⟩
    go_wp2_with fail
    go_at_call 56
    refine (HC.out.2.1 _).mono ?_
    rintro e w1 ⟨rfl, rfl⟩
    go_wp2_with fail
    have A2 : Hid _ := ((A1.out.step (below_drewN (Below.refl _ wc) q)).set 6 (.int .i64 (nl : Int))).set 7 (.int .i64 ph)
    have B2 : Below wc.heap.size wc (wc.drewN q) := below_drewN (Below.refl _ wc) q
    have M2 : Hid (∀ j, j < 5 → (((wc.drewN q).setCell ⟨gp, 6, none⟩ (.int .i64 (nl : Int))).setCell ⟨gp, 7, none⟩ (.int .i64 ph)).cell? ⟨g, 0 + j, none⟩ = some (.int .u8 ((opMask k xs na).getD j 0))) := by
      intro j hj
      have hgg : g ≠ gp := by have := HM.out.2.1; have := A0.out.chg.size; omega
      rw [Nat.zero_add, cell_of_heap (bk_other hgg 7 _) j, cell_of_heap (bk_other hgg 6 _) j]
      exact HM.out.1 j hj
    clear A1 c6 c7 f6 f7 B2 x0
    generalize ((wc.drewN q).setCell ⟨gp, 6, none⟩ (.int .i64 (nl : Int))).setCell ⟨gp, 7, none⟩ (.int .i64 ph) = W2 at A2 M2 ⊢
    have c9 : W2.cell? ⟨gp, 9, none⟩ = some (.int .i64 (na : Int)) := (bk_cell A2.out.pbk 9).trans rfl
    have c6 : W2.cell? ⟨gp, 6, none⟩ = some (.int .i64 (nl : Int)) := (bk_cell A2.out.pbk 6).trans rfl
    have hnb : na + nl ≤ 65536 := by omega
    have hwr : IntKind.i64.wrap ((na : Int) + (nl : Int)) = ((na + nl : Nat) : Int) := by rw [IntKind.wrap_i64]; omega
    go_quiet (fail)
    have A3 : Hid _ := A2.out.step (below_drewN (Below.refl _ W2) nq)
    have M3 : Hid (∀ j, j < 5 → (W2.drewN nq).cell? ⟨g, 0 + j, none⟩ = some (.int .u8 ((opMask k xs na).getD j 0))) := M2.out
    clear A2 M2 c9 c6 hwr
    generalize W2.drewN nq = W3 at A3 M3 ⊢
    have R3 : Hid (Row W3 .u8 (.slice (some ⟨b, off, none⟩) (na + nl) cap) (sub xs 0 (na + nl))) := by
      have := (A3.out.lie.below' A3.out.old).row 0 (na + nl) (by omega)
      rwa [Nat.add_zero, Nat.sub_zero] at this
    have hs0 : (sub xs 0 (na + nl)).length = na + nl := sub_len _ _ _ (by have := H0.out.2.2.2; omega)
    have hlt : na + nl < fin := by omega
    have HS : Hid _ := And.intro hs0 True.intro
    clear hs0
    go_wp2_with (at_builtin; refine wpList_append_row rfl (.const _) (.tmp 59) rfl W3.heap.size (.slice none 0 0) 0 [] rfl (World.ownsRow_nil _ _ _ _) (.slice (some ⟨b, off, none⟩) (na + nl) cap) (sub xs 0 (na + nl)) rfl R3.out (by rw [HS.out.1]; omega) (Nat.le_refl _) ?_; intro q5 w5 o5 g5; rw [HS.out.1, Nat.zero_add, List.nil_append] at o5; obtain ⟨hg, hc, e5, hg1, hg2⟩ := owns_shape o5 (by omega); subst e5; have A5 : Hid _ := A3.out.step (grown_belowO g5); have c6 : w5.cell? ⟨gp, 6, none⟩ = some (.int .i64 (nl : Int)) := (bk_cell A5.out.pbk 6).trans rfl)
    go_at_call 57
    have hX0 : (sub xs 0 (na + nl)).getD 0 0 = X := by rw [← HE.out.2.2.2.1]; simp [sub, List.getD, show 0 < na + nl by omega]
    refine (layI hg hc W3.heap.size na nl g 0 c (sub xs 0 (na + nl)) (opMask k xs na) w5 o5 HS.out.1 hna (by omega) (by omega) hnb (fun j hj => ((grown_belowO g5).cell (p := ⟨g, 0 + j, none⟩) (by have := cell_lt (M3.out 0 (by decide)); exact this)).trans (M3.out j hj)) (by have := cell_lt (M3.out 0 (by decide)); omega) (by rw [hX0]; exact HX.out)).mono ?_
    rintro e w6 ⟨rfl, o6, on6⟩
    rw [HM.out.2.2.2.2.1] at o6
    have B36 : Below W3.heap.size W3 w6 := (grown_belowO g5).trans (on6.below hg1)
    have A6 : Hid _ := A3.out.step B36
    have hggp : hg ≠ gp := by have := (Array.getElem?_eq_some_iff.1 A3.out.pbk).1; omega
    have HO : Hid _ := And.intro o6 (And.intro hggp (And.intro hg1 True.intro))
    have ehl : (opHead k xs na).length = na + nl := by rw [← HE.out.1]; exact opHead_length k xs na hna (by have := H0.out.2.2.2; omega)
    have hcc := hm_cap o6
    obtain ⟨hcc1, hcc2⟩ := hcc
    have VD := vals_small (opD k xs na) (by rw [opD_length, HE.out.1]; omega) (opD_bytes _ _ _)
    have CR : ∀ u : World, (∀ j, u.cell? ⟨hg, j, none⟩ = w6.cell? ⟨hg, j, none⟩) → Calls Tryz.prog 59 #[.slice (some ⟨hg, na, none⟩) nl (hc - na)] u fun e w' => e = .returned (.int .u64 (vals (opD k xs na))) ∧ w' = u := by
      intro u hu
      refine read_core nl (opD k xs na) hg na (hc - na) u (by omega) (by rw [opD_length, HE.out.1]) (opD_bytes _ _ _) (fun j hj => ?_)
      rw [hu, owns_cell o6 ehl (show na + j < na + nl by omega), opHead_tail k xs na j hna (by have := H0.out.2.2.2; omega)]
    have CE : ∀ u : World, Calls Tryz.prog 58 #[.int .i64 l, .int .i64 (vals (opD k xs na)), .int .i64 (nl : Int)] u fun e w' => e = .returned (.int .i64 (opNum k xs na l)) ∧ w' = u := by
      intro u
      have := implEx l (vals (opD k xs na)) nl u (by omega)
      unfold opNum
      rw [HE.out.1]
      exact this
    have hNb := opNum_bd k xs na l
    have HR : Hid _ := And.intro CR (And.intro CE True.intro)
    generalize vals (opD k xs na) = V at VD CE HR
    generalize hnum : opNum k xs na l = num at HR hNb
    have HN : Hid _ := hnum
    clear o6 on6 B36 ehl CR CE c6 A5 hnum hX0 R3 M3
    go_upto_region 9 with fail
    go_cut [] from 68 to 84 (fun wx => OpA o w wx gp w.heap.size b off n cap k (.slice a0 k.a.length p0) (.slice a1 k.b.length p1) (.slice a2 k.c.length p2) (.slice a3 k.d.length p3) #[.int .i64 f, .int .i64 v, .slice ad nd pd, .slice as' ns ps, .slice at' nt pt, .int .i64 num, .int .i64 nl, .int .i64 ph, .slice av nv pv, .int .i64 na, .int .i64 fin] xs ∧ wx.ownsRow W3.heap.size 5 1 (.slice (some ⟨hg, 0, none⟩) (na + nl) hc) (na + nl) ((opHead k xs na).map (Value.int .u8)))
    case first =>
      have c9 : w6.cell? ⟨gp, 9, none⟩ = some (.int .i64 (na : Int)) := (bk_cell A6.out.pbk 9).trans rfl
      have c6 : w6.cell? ⟨gp, 6, none⟩ = some (.int .i64 (nl : Int)) := (bk_cell A6.out.pbk 6).trans rfl
      have c5 : w6.cell? ⟨gp, 5, none⟩ = some (.int .i64 0) := (bk_cell A6.out.pbk 5).trans rfl
      have f5 := bk_free A6.out.pbk 5
      have s1 : (na : Int) ≤ (na : Int) + (nl : Int) := by omega
      have s2 : (hc = na) = False := by simp; omega
      obtain ⟨VD1, VD2⟩ := VD
      have s3 : IntKind.i64.wrap V = V := by rw [IntKind.wrap_i64]; omega
      go_region_with (first
        | (go_at_call 59; refine (HR.out.1 w6.drew (fun j => rfl)).mono ?_; rintro e wy ⟨rfl, rfl⟩)
        | (go_at_call 58; refine (HR.out.2.1 _).mono ?_; rintro e wy ⟨rfl, rfl⟩))
      all_goals
        go_wp2_with fail
        go_meet
        refine ⟨(A6.out.step ((Below.refl _ w6).drew)).set 5 (.int .i64 num), ?_⟩
        have o7 : w6.drew.ownsRow W3.heap.size 5 1 (.slice (some ⟨hg, 0, none⟩) (na + nl) hc) (na + nl) ((opHead k xs na).map (Value.int .u8)) := HO.out.1
        exact (Only.setCell (w := w6.drew) ⟨gp, 5, none⟩ _).owns o7 (fun k2 h2 => by simp [Value.ownBlock] at h2; subst h2; simpa using HO.out.2.1)
    case rest =>
      obtain ⟨A7', o7⟩ := hcut
      have A7 : Hid _ := A7'
      have O7 : Hid _ := And.intro o7 True.intro
      clear A7' o7 A6 A3 A0
      have c5 : wc.cell? ⟨gp, 5, none⟩ = some (.int .i64 num) := (bk_cell A7.out.pbk 5).trans rfl
      by_cases hneg : num = -1
      · have eT : opT k xs ⟨f, v, d, s, t, vers, na, fin⟩ l = (zH, [], 3) := by
          unfold opT
          rw [if_pos (by show opNum k xs na l < 0; rw [HN.out]; omega)]
        have HT : Hid _ := eT
        clear eT
        subst hneg
        go_wp2
        go_ret2
        rw [HT.out]
        exact ⟨_, rfl, World.ownsRow_nil _ _ _ _, A7.out.chg, fun h => by simp at h⟩
      · have hn0 : 0 ≤ num := by omega
        have hn1 : num ≤ 4611686018427387903 := by omega
        have ehl : (opHead k xs na).length = na + nl := by rw [← HE.out.1]; exact opHead_length k xs na hna (by have := H0.out.2.2.2; omega)
        have erl : (sub xs (na + nl) (fin - (na + nl))).length = fin - (na + nl) := sub_len _ _ _ (by have := H0.out.2.2.2; omega)
        have R8 := (A7.out.lie.below' A7.out.old).row (na + nl) (fin - (na + nl)) (by omega)
        have bhd : Bytes (opHead k xs na) := by
          unfold opHead
          intro x hx
          rcases List.mem_cons.1 hx with rfl | hx
          · exact fstV_bd _ _
          · rcases List.mem_append.1 hx with hx | hx
            · exact sub_bytes H0.out.2.2.1 _ _ x hx
            · exact opD_bytes _ _ _ x hx
        have D : Hid (Below wc.heap.size wc wc.drew) := ⟨rfl, rfl, rfl, Nat.le_refl _, fun _ _ => rfl⟩
        have AD : Hid _ := A7.out.step D.out
        have CS : Hid _ := And.intro (osI _ (some ⟨hg, 0, none⟩) (na + nl) hc b (off + (na + nl)) (fin - (na + nl)) (cap - (na + nl)) k num (opHead k xs na) (sub xs (na + nl) (fin - (na + nl))) wc.drew AD.out.keyW H0.out.1 H0.out.2.1 hn0 hn1 ehl erl hnb (by omega) (by omega) ((row_of_owns O7.out.1).below D.out) (R8.below D.out) bhd (sub_bytes H0.out.2.2.1 _ _)) True.intro
        have eRest : Hid (sub xs (na + nl) (fin - (na + nl)) = opRest k xs ⟨f, v, d, s, t, vers, na, fin⟩) := by
          show _ = sub xs (na + opL k xs na) (fin - (na + opL k xs na))
          rw [HE.out.1]
        rw [eRest.out] at CS
        generalize hoe : osE k num (opHead k xs na) (opRest k xs ⟨f, v, d, s, t, vers, na, fin⟩) = oe at CS
        generalize hov : osV k num (opHead k xs na) (opRest k xs ⟨f, v, d, s, t, vers, na, fin⟩) = ov at CS
        have HQ : Hid _ := And.intro hoe (And.intro hov True.intro)
        clear hoe hov ehl erl R8 bhd
        go_upto_region 12 with fail
        go_cut [16, 17] from 89 to 102 (fun cb ce wx => ce = .int .i64 oe ∧ wx.ownsRow wc.heap.size 5 1 cb ov.length (ov.map (Value.int .u8)) ∧ Below wc.heap.size wc wx)
        case first =>
          obtain ⟨e0, e1, e2, e3⟩ := AD.out.c4
          have s1 : (na : Int) + (nl : Int) ≤ (fin : Int) := by omega
          have s2 : (cap = na + nl) = False := by simp; omega
          have s4 : ((na : Int) + (nl : Int)).toNat = na + nl := by omega
          have s5 : 0 ≤ (na : Int) + (nl : Int) := by omega
          go_region_with (go_at_call 60; refine CS.out.1.mono ?_; rintro e wy ⟨r, rfl, orr, br⟩)
          all_goals
            obtain ⟨ra, rp, er⟩ := (row_of_owns orr).form
            subst er
            go_wp2_with fail
            go_meet
            exact ⟨rfl, orr, D.out.trans (br.mono D.out.size)⟩
        case rest =>
          obtain ⟨rfl, o8, b8⟩ := hcut
          obtain ⟨ra, rp, er⟩ := (row_of_owns o8).form
          subst er
          have A8 : Hid _ := A7.out.step b8
          have O8 : Hid _ := And.intro o8 (show w.heap.size ≤ _ from A7.out.chg.size)
          clear o8 b8 A7 O7 AD D CS c5
          by_cases hoe0 : oe = 0
          · by_cases hid : bits .and .u8 F (if 128 ≤ X then 12 else 24) = 0
            · have eT : opT k xs ⟨f, v, d, s, t, vers, na, fin⟩ l = (⟨f, v, d, s, t, num, nl, ph⟩, ov, 0) := by
                unfold opT
                rw [if_neg (by show ¬ opNum k xs na l < 0; rw [HN.out]; omega), if_neg (by show ¬ osE k (opNum k xs na l) _ _ ≠ 0; rw [HN.out, HQ.out.1]; simpa using hoe0), if_neg (by show ¬ opIdle k xs na ≠ 0; rw [HM.out.2.2.2.2.2.1]; simpa using hid)]
                show (H8.mk f v d s t (opNum k xs na l) (opL k xs na) (opPh k xs na), osV k (opNum k xs na l) _ _, (0 : Int)) = _
                rw [HN.out, HQ.out.2.1, HE.out.1, HE.out.2.2.1]
              have HT : Hid _ := eT
              clear eT
              subst hoe0
              generalize hII : (if 128 ≤ X then (12 : Int) else 24) = I at hid HM
              go_wp2_with (go_at_call 61; refine (HM.out.2.2.2.2.2.2.1 _).mono ?_; rintro e wy ⟨rfl, rfl⟩)
              go_ret2
              rw [HT.out]
              refine ⟨_, rfl, owns_mono O8.out.1 O8.out.2, A8.out.chg, fun _ => ?_⟩
              rw [HN.out, HE.out.1, HE.out.2.2.1]
              exact A8.out.pbk
            · have eT : opT k xs ⟨f, v, d, s, t, vers, na, fin⟩ l = (zH, [], 3) := by
                unfold opT
                rw [if_neg (by show ¬ opNum k xs na l < 0; rw [HN.out]; omega), if_neg (by show ¬ osE k (opNum k xs na l) _ _ ≠ 0; rw [HN.out, HQ.out.1]; simpa using hoe0), if_pos (by show opIdle k xs na ≠ 0; rw [HM.out.2.2.2.2.2.1]; exact hid)]
              have HT : Hid _ := eT
              clear eT
              subst hoe0
              generalize hII : (if 128 ≤ X then (12 : Int) else 24) = I at hid HM
              have hidd : (bits .and .u8 F I != 0) = true := by simpa using hid
              go_wp2_with (go_at_call 61; refine (HM.out.2.2.2.2.2.2.1 _).mono ?_; rintro e wy ⟨rfl, rfl⟩)
              go_ret2
              rw [HT.out]
              exact ⟨_, rfl, World.ownsRow_nil _ _ _ _, A8.out.chg, fun h => by simp at h⟩
          · have eT : opT k xs ⟨f, v, d, s, t, vers, na, fin⟩ l = (zH, [], oe) := by
              unfold opT
              rw [if_neg (by show ¬ opNum k xs na l < 0; rw [HN.out]; omega), if_pos (by show osE k (opNum k xs na l) _ _ ≠ 0; rw [HN.out, HQ.out.1]; exact hoe0)]
              show (zH, [], osE k (opNum k xs na l) _ _) = _
              rw [HN.out, HQ.out.1]
            have HT : Hid _ := eT
            clear eT
            have hod : (oe != 0) = true := by simpa using hoe0
            go_wp2
            go_ret2
            rw [HT.out]
            exact ⟨_, rfl, World.ownsRow_nil _ _ _ _, A8.out.chg, fun h => absurd h hoe0⟩
end Go.Proofs.YthokfbgpoffafaaGreatDoor
