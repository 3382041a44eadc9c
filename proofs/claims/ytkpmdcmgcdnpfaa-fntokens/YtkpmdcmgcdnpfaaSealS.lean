import Derived.Test.YtkpmdcmgcdnpfaaTag
import Derived.Test.YtkpmdcmgcdnpfaaKeysOK
import Derived.Deep.CutRange
namespace Go.Proofs.Ytkpmdcmgcdnpfaa
open Go.RowKit
set_option linter.unusedVariables false

/-- The nonce of a number. -/
def nonV (k : K4) (num : Int) : List Int := xl k.c (be num 8) k.c.length
/-- A text with the stream laid over it. -/
def overV (k : K4) (num : Int) (xs : List Int) : List Int := xl xs (sblk k.b (nonV k num) ((xs.length + 15) / 16)) xs.length
def sealV (k : K4) (num : Int) (hd bd : List Int) : List Int := overV k num bd ++ tagV k.b (nonV k num) hd (overV k num bd)
theorem nonV_length (k : K4) (num : Int) : (nonV k num).length = k.c.length := xl_length _ _ _
theorem overV_length (k : K4) (num : Int) (xs : List Int) : (overV k num xs).length = xs.length := xl_length _ _ _
theorem sealV_length (k : K4) (num : Int) (hd bd : List Int) : (sealV k num hd bd).length = bd.length + 8 := by unfold sealV; rw [List.length_append, overV_length, tagV_length]

set_option maxHeartbeats 1000000 in
theorem seal_badkey (v hv bv : Value) (k : K4) (num : Int) (w : World) (hk : KRow w v k) (hb : ¬ kok k) :
    Calls Try.prog 20 #[v, .int .i64 num, hv, bv] w fun e w' => ∃ r, e = .returned (.tuple #[r, .int .i64 1]) ∧ w'.ownsRow w.heap.size 5 1 r 0 (([] : List Int).map (Value.int .u8)) ∧ Below w.heap.size w w' := by
  obtain ⟨v0, v1, v2, v3, rfl, r0, r1, r2, r3⟩ := id hk
  have B0 : Below w.heap.size w (w.alloc (.cells #[v0, v1, v2, v3] 38)) := (Below.refl _ _).alloc (Nat.le_refl _) _
  have C := kok_false _ k _ (hk.below B0) hb
  have HB : Hid _ := B0
  clear hk hb r0 r1 r2 r3 B0
  go_enter Try.func20, Try.ntmps20
  go_wp2_with fail
  go_at_call 41
  refine C.mono ?_
  rintro e w1 ⟨rfl, b1⟩
  have HF : Hid _ := HB.out.trans (b1.mono HB.out.size)
  clear b1 C
  go_wp2
  go_ret2
  exact ⟨_, rfl, World.ownsRow_lit _ #[] 0 HF.out.size (by decide) rfl, HF.out.alloc HF.out.size _⟩
set_option maxHeartbeats 1000000 in
theorem seal_badnum (v hv bv : Value) (k : K4) (num : Int) (w : World) (hk : KRow w v k) (hb : kok k) (hn : num < 0 ∨ 4611686018427387903 < num) :
    Calls Try.prog 20 #[v, .int .i64 num, hv, bv] w fun e w' => ∃ r, e = .returned (.tuple #[r, .int .i64 1]) ∧ w'.ownsRow w.heap.size 5 1 r 0 (([] : List Int).map (Value.int .u8)) ∧ Below w.heap.size w w' := by
  obtain ⟨v0, v1, v2, v3, rfl, r0, r1, r2, r3⟩ := id hk
  have B0 : Below w.heap.size w (w.alloc (.cells #[v0, v1, v2, v3] 38)) := (Below.refl _ _).alloc (Nat.le_refl _) _
  have C := kok_true _ k _ (hk.below B0) hb
  have HB : Hid _ := B0
  clear hk hb r0 r1 r2 r3 B0
  by_cases h0 : num < 0
  · clear hn
    go_enter Try.func20, Try.ntmps20
    go_wp2_with fail
    go_at_call 41
    refine C.mono ?_
    rintro e w1 ⟨rfl, b1⟩
    have HF : Hid _ := HB.out.trans (b1.mono HB.out.size)
    clear b1 C
    go_wp2
    go_ret2
    exact ⟨_, rfl, World.ownsRow_lit _ #[] 0 HF.out.size (by decide) rfl, HF.out.alloc HF.out.size _⟩
  · have h1 : 4611686018427387903 < num := by omega
    clear hn
    go_enter Try.func20, Try.ntmps20
    go_wp2_with fail
    go_at_call 41
    refine C.mono ?_
    rintro e w1 ⟨rfl, b1⟩
    have HF : Hid _ := HB.out.trans (b1.mono HB.out.size)
    clear b1 C
    go_wp2
    go_ret2
    exact ⟨_, rfl, World.ownsRow_lit _ #[] 0 HF.out.size (by decide) rfl, HF.out.alloc HF.out.size _⟩
set_option maxHeartbeats 1000000 in
theorem seal_long (v : Value) (ah ab : Option Addr) (nh nb ph pb : Nat) (k : K4) (num : Int) (w : World) (hk : KRow w v k) (hb : kok k) (h0 : 0 ≤ num) (h1 : num ≤ 4611686018427387903) (hl : 1500 < nh + nb) (hh : nh ≤ 1099511627776) (hbb : nb ≤ 1099511627776) :
    Calls Try.prog 20 #[v, .int .i64 num, .slice ah nh ph, .slice ab nb pb] w fun e w' => ∃ r, e = .returned (.tuple #[r, .int .i64 4]) ∧ w'.ownsRow w.heap.size 5 1 r 0 (([] : List Int).map (Value.int .u8)) ∧ Below w.heap.size w w' := by
  obtain ⟨v0, v1, v2, v3, rfl, r0, r1, r2, r3⟩ := id hk
  have B0 : Below w.heap.size w (w.alloc (.cells #[v0, v1, v2, v3] 38)) := (Below.refl _ _).alloc (Nat.le_refl _) _
  have C := kok_true _ k _ (hk.below B0) hb
  have HB : Hid _ := B0
  clear hk hb r0 r1 r2 r3 B0
  go_enter Try.func20, Try.ntmps20
  go_wp2_with fail
  go_at_call 41
  refine C.mono ?_
  rintro e w1 ⟨rfl, b1⟩
  have HF : Hid _ := HB.out.trans (b1.mono HB.out.size)
  clear b1 C
  go_wp2
  go_ret2
  exact ⟨_, rfl, World.ownsRow_lit _ #[] 0 HF.out.size (by decide) rfl, HF.out.alloc HF.out.size _⟩

set_option maxRecDepth 20000 in
set_option maxHeartbeats 4000000 in
theorem seal_ok (v : Value) (ah ab : Option Addr) (ph pb : Nat) (k : K4) (num : Int) (hd bd : List Int) (w : World) (hk : KRow w v k) (kb : k.bytes) (hb : kok k) (h0 : 0 ≤ num) (h1 : num ≤ 4611686018427387903) (hl : hd.length + bd.length ≤ 1500)
    (hh : Row w .u8 (.slice ah hd.length ph) hd) (hbd : Row w .u8 (.slice ab bd.length pb) bd) (bh : Bytes hd) (bb : Bytes bd) :
    Calls Try.prog 20 #[v, .int .i64 num, .slice ah hd.length ph, .slice ab bd.length pb] w fun e w' => ∃ r, e = .returned (.tuple #[r, .int .i64 0]) ∧ w'.ownsRow w.heap.size 5 1 r (sealV k num hd bd).length ((sealV k num hd bd).map (Value.int .u8)) ∧ Below w.heap.size w w' := by
  obtain ⟨v0, v1, v2, v3, rfl, r0, r1, r2, r3⟩ := id hk
  have B0 : Below w.heap.size w (w.alloc (.cells #[v0, v1, v2, v3] 38)) := (Below.refl _ _).alloc (Nat.le_refl _) _
  have C := kok_true _ k _ (hk.below B0) hb
  have K0 := (Book.nil w).add (.cells #[v0, v1, v2, v3] 38)
  have HB : Hid _ := And.intro B0 K0
  have HH : Hid _ := And.intro (And.intro r2 (And.intro hh hbd)) (And.intro (And.intro bh bb) (And.intro kb hb))
  have HK : Hid (KRow w (.agg #[v0, v1, v2, v3]) k) := hk
  obtain ⟨nh, enh⟩ : ∃ n, n = hd.length := ⟨_, rfl⟩
  obtain ⟨nb, enb⟩ : ∃ n, n = bd.length := ⟨_, rfl⟩
  have EN : Hid _ := And.intro enh enb
  rw [← enh] at hl ⊢
  rw [← enb] at hl ⊢
  clear hk hb r0 r1 r2 r3 B0 K0 hh hbd bh bb kb enh enb
  go_enter Try.func20, Try.ntmps20
  go_wp2_with fail
  go_at_call 41
  refine C.mono ?_
  rintro e w1 ⟨rfl, b1⟩
  have C1 := HB.out.1.trans (b1.mono HB.out.1.size)
  have K1 := HB.out.2.below b1
  have z1 : w.heap.size + 1 ≤ w1.heap.size := K1.lt (b := w.heap.size) (o := .cells #[v0, v1, v2, v3] 38) (by simp)
  have H1 : Hid _ := And.intro C1 K1
  clear b1 C C1 K1
  go_upto_region 5 with fail
  go_cut [10] from 31 to 35 (fun nv wx => wx.ownsRow (w.heap.size + 1) 5 1 nv k.c.length ((nonV k num).map (Value.int .u8)) ∧ Below w1.heap.size w1 wx)
  case first =>
    have D : Hid (Below w1.heap.size w1 w1.drew) := ⟨rfl, rfl, rfl, Nat.le_refl _, fun _ _ => rfl⟩
    have cw : w1.drew.cell? ⟨w.heap.size, 2, none⟩ = some v2 := (H1.out.2.drew.c4 (b := w.heap.size) (x0 := v0) (x1 := v1) (x2 := v2) (x3 := v3) (t := 38) (by simp)).2.2.1
    go_region_with (first
      | (go_at_call 22; refine (digits 8 num w1.drew ?_ ?_ ?_).mono ?_; omega; omega; decide; rintro e w2 ⟨q2, rfl, o2, b2⟩; have c2 := ((H1.out.2.drew.below b2).c4 (b := w.heap.size) (x0 := v0) (x1 := v1) (x2 := v2) (x3 := v3) (t := 38) (by simp)).2.2.1)
      | (go_at_call 42; refine (xorC v2 q2 k.c (be num 8) w2 (HH.out.1.1.below (H1.out.1.trans ((D.out.trans b2).mono H1.out.1.size))) (row_of_owns o2) ?_ ?_).mono ?_; (rw [be_length, HH.out.2.2.2.2.2.1]; decide); (rw [be_length]; decide); rintro e w3 ⟨q3, rfl, o3, b3⟩))
    all_goals (go_wp2_with fail; go_meet; exact ⟨owns_mono o3 (Nat.le_trans z1 b2.size), D.out.trans (b2.trans (b3.mono b2.size))⟩)
  case rest =>
    obtain ⟨on, bc⟩ := hcut
    have C2 := H1.out.1.trans (bc.mono H1.out.1.size)
    have K2 := H1.out.2.below bc
    obtain ⟨e0, e1, e2, e3⟩ := K2.c4 (b := w.heap.size) (x0 := v0) (x1 := v1) (x2 := v2) (x3 := v3) (t := 38) (by simp)
    have H2 : Hid _ := And.intro (row_of_owns on) (And.intro C2 K2)
    have l8 : (nonV k num).length = 8 := by rw [nonV_length]; exact HH.out.2.2.2.2.2.1
    have l16 : k.b.length = 16 := HH.out.2.2.2.2.1
    have HL : Hid _ := And.intro l8 l16
    clear on bc C2 K2 l8 l16
    go_wp2_with fail
    go_at_call 43
    refine (streamC _ _ k (nonV k num) nb _ (HK.out.below H2.out.2.1) H2.out.1 HH.out.2.2.1.2.1 (xl_bytes _ _ _) (by rw [HL.out.2]; decide) (by rw [HL.out.1]; decide) (by omega)).mono ?_
    rintro e w3 ⟨q3, rfl, o3, b3⟩
    have C3 := H2.out.2.1.trans (b3.mono H2.out.2.1.size)
    have H3 : Hid _ := And.intro (row_of_owns o3) (And.intro C3 (And.intro (H2.out.2.2.below b3) (H2.out.1.below b3)))
    have HX : Hid (bd.length ≤ (sblk k.b (nonV k num) ((nb + 15) / 16)).length ∧ (sblk k.b (nonV k num) ((nb + 15) / 16)).length ≤ 1099511627776) := by
      have h2 := EN.out.2
      rw [sblk_length]
      exact ⟨by omega, by omega⟩
    clear o3 b3 C3 e0 e1 e2 e3
    go_wp2_with fail
    go_at_call 42
    refine (xorC _ q3 bd (sblk k.b (nonV k num) ((nb + 15) / 16)) w3 (by rw [EN.out.2]; exact HH.out.1.2.2.below H3.out.2.1) H3.out.1 HX.out.1 HX.out.2).mono ?_
    rintro e w4 ⟨q4, rfl, o4, b4⟩
    have C4 := H3.out.2.1.trans (b4.mono H3.out.2.1.size)
    have K4' := H3.out.2.2.1.below b4
    obtain ⟨e0, e1, e2, e3⟩ := K4'.c4 (b := w.heap.size) (x0 := v0) (x1 := v1) (x2 := v2) (x3 := v3) (t := 38) (by simp)
    have o4' : w4.ownsRow w.heap.size 5 1 q4 (overV k num bd).length ((overV k num bd).map (Value.int .u8)) := by
      rw [overV_length]
      unfold overV
      rw [← EN.out.2]
      have h := owns_mono o4 H3.out.2.1.size
      rw [← EN.out.2] at h
      exact h
    have H4 : Hid _ := And.intro o4' (And.intro C4 (H3.out.2.2.2.below b4))
    clear o4 o4' b4 C4 K4'
    go_wp2_with fail
    go_at_call 44
    refine (tagC _ _ _ q4 k (nonV k num) hd (overV k num bd) w4 (HK.out.below H4.out.2.1) H4.out.2.2 (by rw [EN.out.1]; exact HH.out.1.2.1.below H4.out.2.1) (row_of_owns H4.out.1) HH.out.2.2.1.2.1 (xl_bytes _ _ _) HH.out.2.1.1 (xl_bytes _ _ _) (by rw [HL.out.2]; decide) (by rw [HL.out.1]; decide) (by have := EN.out.1; omega) (by rw [overV_length]; have := EN.out.2; omega)).mono ?_
    rintro e w5 ⟨q5, rfl, r5, b5⟩
    have C5 := H4.out.2.1.trans (b5.mono H4.out.2.1.size)
    have H5 : Hid _ := And.intro (owns_below H4.out.1 b5) (And.intro C5 r5)
    have hl5 : (overV k num bd).length + (tagV k.b (nonV k num) hd (overV k num bd)).length ≤ 140737488355328 := by rw [overV_length, tagV_length]; have := EN.out.2; omega
    have HL5 : Hid _ := hl5
    clear r5 b5 C5 hl5 e0 e1 e2 e3
    go_wp2_with (at_builtin; refine wpList_append_row rfl (.tmp 43) (.tmp 48) rfl w.heap.size q4 _ _ rfl H5.out.1 q5 _ rfl H5.out.2.2 HL5.out H5.out.2.1.size ?_; intro v6 w6 o6 g6)
    have HF : Hid _ := And.intro o6 (H5.out.2.1.grown g6 H5.out.2.1.size (fun j hj => (H5.out.1.lt j hj).1))
    clear o6 g6
    go_wp2
    go_ret2
    refine ⟨_, rfl, ?_, HF.out.2⟩
    unfold sealV
    rw [List.length_append]
    exact HF.out.1
end Go.Proofs.Ytkpmdcmgcdnpfaa
