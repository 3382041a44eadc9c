import Derived.Test.YtkpmdcmgcdnpfaaSealS
import Derived.Test.YtkpmdcmgcdnpfaaStrNe
namespace Go.Proofs.Ytkpmdcmgcdnpfaa
open Go.RowKit
set_option linter.unusedVariables false

set_option maxHeartbeats 1000000 in
theorem open_badkey (v hv bv : Value) (k : K4) (num : Int) (w : World) (hk : KRow w v k) (hb : ¬ kok k) :
    Calls Try.prog 25 #[v, .int .i64 num, hv, bv] w fun e w' => ∃ r, e = .returned (.tuple #[r, .int .i64 1]) ∧ w'.ownsRow w.heap.size 5 1 r 0 (([] : List Int).map (Value.int .u8)) ∧ Below w.heap.size w w' := by
  obtain ⟨v0, v1, v2, v3, rfl, r0, r1, r2, r3⟩ := id hk
  have B0 : Below w.heap.size w (w.alloc (.cells #[v0, v1, v2, v3] 38)) := (Below.refl _ _).alloc (Nat.le_refl _) _
  have C := kok_false _ k _ (hk.below B0) hb
  have HB : Hid _ := B0
  clear hk hb r0 r1 r2 r3 B0
  go_enter Try.func25, Try.ntmps25
  go_wp2_with fail
  go_at_call 41
  refine C.mono ?_
  rintro e w1 ⟨rfl, b1⟩
  have HF : Hid _ := HB.out.trans (b1.mono HB.out.size)
  clear b1 C
  go_wp2
  go_ret2
  exact ⟨_, rfl, World.ownsRow_lit _ #[] 0 HF.out.size (by decide) rfl, HF.out.alloc HF.out.size _⟩
set_option maxHeartbeats 1000000 in
theorem open_badnum (v hv bv : Value) (k : K4) (num : Int) (w : World) (hk : KRow w v k) (hb : kok k) (hn : num < 0 ∨ 4611686018427387903 < num) :
    Calls Try.prog 25 #[v, .int .i64 num, hv, bv] w fun e w' => ∃ r, e = .returned (.tuple #[r, .int .i64 1]) ∧ w'.ownsRow w.heap.size 5 1 r 0 (([] : List Int).map (Value.int .u8)) ∧ Below w.heap.size w w' := by
  obtain ⟨v0, v1, v2, v3, rfl, r0, r1, r2, r3⟩ := id hk
  have B0 : Below w.heap.size w (w.alloc (.cells #[v0, v1, v2, v3] 38)) := (Below.refl _ _).alloc (Nat.le_refl _) _
  have C := kok_true _ k _ (hk.below B0) hb
  have HB : Hid _ := B0
  clear hk hb r0 r1 r2 r3 B0
  by_cases h0 : num < 0
  · clear hn
    go_enter Try.func25, Try.ntmps25
    go_wp2_with fail
    go_at_call 41
    refine C.mono ?_
    rintro e w1 ⟨rfl, b1⟩
    have HF : Hid _ := HB.out.trans (b1.mono HB.out.size)
    clear b1 C
    go_wp2
    go_ret2
    exact ⟨_, rfl, World.ownsRow_lit _ #[] 0 HF.out.size (by decide) rfl, HF.out.alloc HF.out.size _⟩
  · have h1 : 4611686018427387903 < num := by omega
    clear hn
    go_enter Try.func25, Try.ntmps25
    go_wp2_with fail
    go_at_call 41
    refine C.mono ?_
    rintro e w1 ⟨rfl, b1⟩
    have HF : Hid _ := HB.out.trans (b1.mono HB.out.size)
    clear b1 C
    go_wp2
    go_ret2
    exact ⟨_, rfl, World.ownsRow_lit _ #[] 0 HF.out.size (by decide) rfl, HF.out.alloc HF.out.size _⟩
set_option maxHeartbeats 1000000 in
theorem open_long (v : Value) (ah ab : Option Addr) (nh nb ph pb : Nat) (k : K4) (num : Int) (w : World) (hk : KRow w v k) (hb : kok k) (h0 : 0 ≤ num) (h1 : num ≤ 4611686018427387903) (hl : 1508 < nh + nb) (hh : nh ≤ 1099511627776) (hbb : nb ≤ 1099511627776) :
    Calls Try.prog 25 #[v, .int .i64 num, .slice ah nh ph, .slice ab nb pb] w fun e w' => ∃ r, e = .returned (.tuple #[r, .int .i64 4]) ∧ w'.ownsRow w.heap.size 5 1 r 0 (([] : List Int).map (Value.int .u8)) ∧ Below w.heap.size w w' := by
  obtain ⟨v0, v1, v2, v3, rfl, r0, r1, r2, r3⟩ := id hk
  have B0 : Below w.heap.size w (w.alloc (.cells #[v0, v1, v2, v3] 38)) := (Below.refl _ _).alloc (Nat.le_refl _) _
  have C := kok_true _ k _ (hk.below B0) hb
  have HB : Hid _ := B0
  clear hk hb r0 r1 r2 r3 B0
  go_enter Try.func25, Try.ntmps25
  go_wp2_with fail
  go_at_call 41
  refine C.mono ?_
  rintro e w1 ⟨rfl, b1⟩
  have HF : Hid _ := HB.out.trans (b1.mono HB.out.size)
  clear b1 C
  go_wp2
  go_ret2
  exact ⟨_, rfl, World.ownsRow_lit _ #[] 0 HF.out.size (by decide) rfl, HF.out.alloc HF.out.size _⟩

set_option maxHeartbeats 1000000 in
theorem open_short (v : Value) (ah ab : Option Addr) (nh nb ph pb : Nat) (k : K4) (num : Int) (w : World) (hk : KRow w v k) (hb : kok k) (h0 : 0 ≤ num) (h1 : num ≤ 4611686018427387903) (hl : nh + nb ≤ 1508) (h8 : nb < 8) (hh : nh ≤ 1099511627776) (hbb : nb ≤ 1099511627776) :
    Calls Try.prog 25 #[v, .int .i64 num, .slice ah nh ph, .slice ab nb pb] w fun e w' => ∃ r, e = .returned (.tuple #[r, .int .i64 2]) ∧ w'.ownsRow w.heap.size 5 1 r 0 (([] : List Int).map (Value.int .u8)) ∧ Below w.heap.size w w' := by
  obtain ⟨v0, v1, v2, v3, rfl, r0, r1, r2, r3⟩ := id hk
  have B0 : Below w.heap.size w (w.alloc (.cells #[v0, v1, v2, v3] 38)) := (Below.refl _ _).alloc (Nat.le_refl _) _
  have C := kok_true _ k _ (hk.below B0) hb
  have HB : Hid _ := B0
  clear hk hb r0 r1 r2 r3 B0
  go_enter Try.func25, Try.ntmps25
  go_wp2_with fail
  go_at_call 41
  refine C.mono ?_
  rintro e w1 ⟨rfl, b1⟩
  have HF : Hid _ := HB.out.trans (b1.mono HB.out.size)
  clear b1 C
  go_wp2
  go_ret2
  exact ⟨_, rfl, World.ownsRow_lit _ #[] 0 HF.out.size (by decide) rfl, HF.out.alloc HF.out.size _⟩

theorem conv_row {P : Program} {w : World} {e ts tstr : Nat} {v : Value} {xs : List Int} (hs : P.underlying ts = some (.slice e)) (he : P.underlying e = some (.int .u8)) (hd : P.underlying tstr = some .string)
    (h : Row w .u8 v xs) (h0 : 0 < xs.length) : (convert ts tstr v).run P w = .ok (.string (strOfNums xs)) w := by
  obtain ⟨b, off, cap, rfl, hb, hc⟩ := h.at h0
  exact run_convert_bytes_arg w ts e hs he b off xs.length cap xs rfl hc tstr hd

set_option maxRecDepth 20000 in
set_option maxHeartbeats 8000000 in
/-- Behind the tests of the arguments: the tag is right. -/
theorem open_right (v : Value) (ah : Option Addr) (ph b off n pb : Nat) (k : K4) (num : Int) (hd xs : List Int) (w : World) (hk : KRow w v k) (kb : k.bytes) (hb : kok k) (h0 : 0 ≤ num) (h1 : num ≤ 4611686018427387903) (hN : xs.length = n + 8) (hl : hd.length + (n + 8) ≤ 1508)
    (hh : Row w .u8 (.slice ah hd.length ph) hd) (hx : Row w .u8 (.slice (some ⟨b, off, none⟩) (n + 8) pb) xs) (bh : Bytes hd) (bx : Bytes xs) (hcmp : tagV k.b (nonV k num) hd (xs.take n) = xs.drop n) :
    Calls Try.prog 25 #[v, .int .i64 num, .slice ah hd.length ph, .slice (some ⟨b, off, none⟩) (n + 8) pb] w fun e w' => ∃ r, e = .returned (.tuple #[r, .int .i64 0]) ∧ w'.ownsRow w.heap.size 5 1 r (overV k num (xs.take n)).length ((overV k num (xs.take n)).map (Value.int .u8)) ∧ Below w.heap.size w w' := by
  obtain ⟨v0, v1, v2, v3, rfl, r0, r1, r2, r3⟩ := id hk
  have B0 : Below w.heap.size w (w.alloc (.cells #[v0, v1, v2, v3] 38)) := (Below.refl _ _).alloc (Nat.le_refl _) _
  have C := kok_true _ k _ (hk.below B0) hb
  have K0 := (Book.nil w).add (.cells #[v0, v1, v2, v3] 38)
  have HB : Hid _ := And.intro B0 K0
  obtain ⟨b', off', cap', eq', hbl, hcap, hcs⟩ := hx.full (by omega)
  rw [hN] at eq' hcap
  cases eq'
  have rowA : Row w .u8 (.slice (some ⟨b, off, none⟩) n pb) (xs.take n) := by
    have := row_cut (at' := 0) (n := n) (cap' := pb) (cap := pb) hbl hcs (by omega) ⟨by omega, hcap.2⟩
    simpa using this
  have rowB : Row w .u8 (.slice (some ⟨b, off + n, none⟩) 8 (pb - n)) (xs.drop n) := by
    have := row_cut (at' := n) (n := 8) (cap' := pb - n) (cap := pb) hbl hcs (by omega) ⟨by omega, by have := hcap.2; omega⟩
    rw [List.take_of_length_le (by rw [List.length_drop]; omega)] at this
    exact this
  have bA : Bytes (xs.take n) := fun x hx => bx x (List.mem_of_mem_take hx)
  have bB : Bytes (xs.drop n) := fun x hx => bx x (List.mem_of_mem_drop hx)
  have lA : (xs.take n).length = n := by rw [List.length_take]; omega
  have lB : (xs.drop n).length = 8 := by rw [List.length_drop]; omega
  obtain ⟨ca, eca⟩ : ∃ ca, ca = xs.take n := ⟨_, rfl⟩
  obtain ⟨tg, etg⟩ : ∃ tg, tg = xs.drop n := ⟨_, rfl⟩
  rw [← eca] at rowA bA lA
  rw [← etg] at rowB bB lB
  have HQ9 : Hid (tagV k.b (nonV k num) hd ca = tg) := by rw [eca, etg]; exact hcmp
  have HZ9 : Hid (overV k num (xs.take n) = overV k num ca) := by first | (rw [eca]; rfl) | rfl
  have hp1 := hcap.1
  have hp2 : pb ≤ 9223372036854775807 := by have := hcap.2; unfold maxLen at this; omega
  have HH : Hid _ := And.intro (And.intro r2 (And.intro hh (And.intro rowA rowB))) (And.intro (And.intro bh (And.intro bA bB)) (And.intro kb (And.intro hb (And.intro lA lB))))
  have HK : Hid (KRow w (.agg #[v0, v1, v2, v3]) k) := hk
  obtain ⟨nh, enh⟩ : ∃ n, n = hd.length := ⟨_, rfl⟩
  have EN : Hid _ := enh
  rw [← enh] at hl ⊢
  have hne : ¬ pb = n := by omega
  clear hk hb r0 r1 r2 r3 B0 K0 hh hx bh bx kb enh hcs hbl hcap hN hcmp eca etg rowA rowB bA bB lA lB
  go_enter Try.func25, Try.ntmps25
  go_wp2_with fail
  go_at_call 41
  refine C.mono ?_
  rintro e w1 ⟨rfl, b1⟩
  have C1 := HB.out.1.trans (b1.mono HB.out.1.size)
  have K1 := HB.out.2.below b1
  have z1 : w.heap.size + 1 ≤ w1.heap.size := K1.lt (b := w.heap.size) (o := .cells #[v0, v1, v2, v3] 38) (by simp)
  have H1 : Hid _ := And.intro C1 K1
  clear b1 C C1 K1
  go_upto_region 8 with fail
  go_cut [11] from 37 to 41 (fun nv wx => wx.ownsRow (w.heap.size + 1) 5 1 nv k.c.length ((nonV k num).map (Value.int .u8)) ∧ Below w1.heap.size w1 wx)
  case first =>
    have D : Hid (Below w1.heap.size w1 w1.drew) := ⟨rfl, rfl, rfl, Nat.le_refl _, fun _ _ => rfl⟩
    have cw : w1.drew.cell? ⟨w.heap.size, 2, none⟩ = some v2 := (H1.out.2.drew.c4 (b := w.heap.size) (x0 := v0) (x1 := v1) (x2 := v2) (x3 := v3) (t := 38) (by simp)).2.2.1
    go_region_with (first
      | (go_at_call 22; refine (digits 8 num w1.drew ?_ ?_ ?_).mono ?_; omega; omega; decide; rintro e w2 ⟨q2, rfl, o2, b2⟩; have c2 := ((H1.out.2.drew.below b2).c4 (b := w.heap.size) (x0 := v0) (x1 := v1) (x2 := v2) (x3 := v3) (t := 38) (by simp)).2.2.1)
      | (go_at_call 42; refine (xorC v2 q2 k.c (be num 8) w2 (HH.out.1.1.below (H1.out.1.trans ((D.out.trans b2).mono H1.out.1.size))) (row_of_owns o2) ?_ ?_).mono ?_; (rw [be_length, HH.out.2.2.2.1.2.2.1]; decide); (rw [be_length]; decide); rintro e w3 ⟨q3, rfl, o3, b3⟩))
    all_goals (go_wp2_with fail; go_meet; exact ⟨owns_mono o3 (Nat.le_trans z1 b2.size), D.out.trans (b2.trans (b3.mono b2.size))⟩)
  case rest =>
    obtain ⟨on, bc⟩ := hcut
    have C2 := H1.out.1.trans (bc.mono H1.out.1.size)
    have K2 := H1.out.2.below bc
    have l8 : (nonV k num).length = 8 := by rw [nonV_length]; exact HH.out.2.2.2.1.2.2.1
    have l16 : k.b.length = 16 := HH.out.2.2.2.1.2.1
    have HL : Hid _ := And.intro l8 l16
    have H2 : Hid _ := And.intro (row_of_owns on) (And.intro C2 K2)
    have z2 : w1.heap.size ≤ wc.heap.size := bc.size
    clear on bc C2 K2 l8 l16
    have D : Hid (Below wc.heap.size wc wc.drew) := ⟨rfl, rfl, rfl, Nat.le_refl _, fun _ _ => rfl⟩
    have hpn : (n : Int) ≤ (pb : Int) := by omega
    have hpn8 : (n : Int) ≤ (n : Int) + 8 := by omega
    go_upto_region 9 with fail
    go_cut [54] from 42 to 54 (fun cv wx => cv = .bool false ∧ Below wc.heap.size wc wx)
    case first =>
      obtain ⟨e0, e1, e2, e3⟩ := H2.out.2.2.drew.c4 (b := w.heap.size) (x0 := v0) (x1 := v1) (x2 := v2) (x3 := v3) (t := 38) (by simp)
      have CD := H2.out.2.1.trans (D.out.mono H2.out.2.1.size)
      have kt := conv_row (P := Try.prog) Try.underlying22 Try.underlying5 Try.underlying9 (HH.out.1.2.2.2.below CD) (by rw [HH.out.2.2.2.2.2]; decide)
      have HCD : Hid _ := CD
      clear CD
      have rh : Row wc.drew .u8 (.slice ah nh ph) hd := by rw [EN.out]; exact HH.out.1.2.1.below HCD.out
      have TT := tagC _ _ _ _ k (nonV k num) hd ca wc.drew (HK.out.below HCD.out) (H2.out.1.below D.out) rh (HH.out.1.2.2.1.below HCD.out) HH.out.2.2.1.2.1 (xl_bytes _ _ _) HH.out.2.1.1 HH.out.2.1.2.1 (by rw [HL.out.2]; decide) (by rw [HL.out.1]; decide) (by have := EN.out; omega) (by have := HH.out.2.2.2.2.1; omega)
      have HT : Hid _ := And.intro TT True.intro
      clear TT rh
      go_region_with (go_at_call 44; refine HT.out.1.mono ?_; rintro e w5 ⟨q5, rfl, r5, b5⟩; have kq := conv_row (P := Try.prog) Try.underlying22 Try.underlying5 Try.underlying9 r5 (by rw [tagV_length]; decide); have kt5 := conv_row (P := Try.prog) Try.underlying22 Try.underlying5 Try.underlying9 (HH.out.1.2.2.2.below (HCD.out.trans (b5.mono HCD.out.size))) (by rw [HH.out.2.2.2.2.2]; decide); rw [HQ9.out] at kq)
      all_goals (go_wp2_with fail; go_meet; exact ⟨by simp, D.out.trans b5⟩)
    case rest =>
      obtain ⟨rfl, bc2⟩ := hcut
      have C3 := H2.out.2.1.trans (bc2.mono H2.out.2.1.size)
      have K3 := H2.out.2.2.below bc2
      have H3 : Hid _ := And.intro (H2.out.1.below bc2) (And.intro C3 K3)
      clear bc2 C3 K3
      obtain ⟨e0, e1, e2, e3⟩ := H3.out.2.2.drew.c4 (b := w.heap.size) (x0 := v0) (x1 := v1) (x2 := v2) (x3 := v3) (t := 38) (by simp)
      have D3 : Hid (Below wc.heap.size wc wc.drew) := ⟨rfl, rfl, rfl, Nat.le_refl _, fun _ _ => rfl⟩
      have HCD : Hid _ := H3.out.2.1.trans (D3.out.mono H3.out.2.1.size)
      have HX : Hid (ca.length ≤ (sblk k.b (nonV k num) ((n + 15) / 16)).length ∧ (sblk k.b (nonV k num) ((n + 15) / 16)).length ≤ 1099511627776) := by
        have h2 := HH.out.2.2.2.2.1
        rw [sblk_length]
        exact ⟨by omega, by omega⟩
      have HT : Hid _ := And.intro (streamC _ _ k (nonV k num) n wc.drew (HK.out.below HCD.out) (H3.out.1.below D3.out) HH.out.2.2.1.2.1 (xl_bytes _ _ _) (by rw [HL.out.2]; decide) (by rw [HL.out.1]; decide) (by omega)) True.intro
      go_wp2_with fail
      go_region_with (first
        | (go_at_call 43; refine HT.out.1.mono ?_; rintro e w6 ⟨q6, rfl, o6, b6⟩)
        | (go_at_call 42; refine (xorC _ q6 ca (sblk k.b (nonV k num) ((n + 15) / 16)) w6 (HH.out.1.2.2.1.below (HCD.out.trans (b6.mono HCD.out.size))) (row_of_owns o6) HX.out.1 HX.out.2).mono ?_; rintro e w7 ⟨q7, rfl, o7, b7⟩))
      all_goals
        have C7 := HCD.out.trans ((b6.trans (b7.mono b6.size)).mono HCD.out.size)
        have HF : Hid _ := And.intro (owns_mono o7 (Nat.le_trans HCD.out.size b6.size)) C7
        clear o6 b6 o7 b7 C7 e0 e1 e2 e3
        go_wp2
        go_ret2
        refine ⟨_, rfl, ?_, HF.out.2⟩
        rw [HZ9.out, overV_length]
        unfold overV
        have := HF.out.1
        rw [HH.out.2.2.2.2.1] at this ⊢
        exact this
set_option maxRecDepth 20000 in
set_option maxHeartbeats 8000000 in
/-- Behind the tests of the arguments: the tag is wrong. -/
theorem open_wrong (v : Value) (ah : Option Addr) (ph b off n pb : Nat) (k : K4) (num : Int) (hd xs : List Int) (w : World) (hk : KRow w v k) (kb : k.bytes) (hb : kok k) (h0 : 0 ≤ num) (h1 : num ≤ 4611686018427387903) (hN : xs.length = n + 8) (hl : hd.length + (n + 8) ≤ 1508)
    (hh : Row w .u8 (.slice ah hd.length ph) hd) (hx : Row w .u8 (.slice (some ⟨b, off, none⟩) (n + 8) pb) xs) (bh : Bytes hd) (bx : Bytes xs) (hcmp : tagV k.b (nonV k num) hd (xs.take n) ≠ xs.drop n) :
    Calls Try.prog 25 #[v, .int .i64 num, .slice ah hd.length ph, .slice (some ⟨b, off, none⟩) (n + 8) pb] w fun e w' => ∃ r, e = .returned (.tuple #[r, .int .i64 5]) ∧ w'.ownsRow w.heap.size 5 1 r (([] : List Int)).length ((([] : List Int)).map (Value.int .u8)) ∧ Below w.heap.size w w' := by
  obtain ⟨v0, v1, v2, v3, rfl, r0, r1, r2, r3⟩ := id hk
  have B0 : Below w.heap.size w (w.alloc (.cells #[v0, v1, v2, v3] 38)) := (Below.refl _ _).alloc (Nat.le_refl _) _
  have C := kok_true _ k _ (hk.below B0) hb
  have K0 := (Book.nil w).add (.cells #[v0, v1, v2, v3] 38)
  have HB : Hid _ := And.intro B0 K0
  obtain ⟨b', off', cap', eq', hbl, hcap, hcs⟩ := hx.full (by omega)
  rw [hN] at eq' hcap
  cases eq'
  have rowA : Row w .u8 (.slice (some ⟨b, off, none⟩) n pb) (xs.take n) := by
    have := row_cut (at' := 0) (n := n) (cap' := pb) (cap := pb) hbl hcs (by omega) ⟨by omega, hcap.2⟩
    simpa using this
  have rowB : Row w .u8 (.slice (some ⟨b, off + n, none⟩) 8 (pb - n)) (xs.drop n) := by
    have := row_cut (at' := n) (n := 8) (cap' := pb - n) (cap := pb) hbl hcs (by omega) ⟨by omega, by have := hcap.2; omega⟩
    rw [List.take_of_length_le (by rw [List.length_drop]; omega)] at this
    exact this
  have bA : Bytes (xs.take n) := fun x hx => bx x (List.mem_of_mem_take hx)
  have bB : Bytes (xs.drop n) := fun x hx => bx x (List.mem_of_mem_drop hx)
  have lA : (xs.take n).length = n := by rw [List.length_take]; omega
  have lB : (xs.drop n).length = 8 := by rw [List.length_drop]; omega
  obtain ⟨ca, eca⟩ : ∃ ca, ca = xs.take n := ⟨_, rfl⟩
  obtain ⟨tg, etg⟩ : ∃ tg, tg = xs.drop n := ⟨_, rfl⟩
  rw [← eca] at rowA bA lA
  rw [← etg] at rowB bB lB
  have HQ9 : Hid (tagV k.b (nonV k num) hd ca ≠ tg) := by rw [eca, etg]; exact hcmp
  have HZ9 : Hid (([] : List Int) = ([] : List Int)) := by first | (rw [eca]; rfl) | rfl
  have hp1 := hcap.1
  have hp2 : pb ≤ 9223372036854775807 := by have := hcap.2; unfold maxLen at this; omega
  have HH : Hid _ := And.intro (And.intro r2 (And.intro hh (And.intro rowA rowB))) (And.intro (And.intro bh (And.intro bA bB)) (And.intro kb (And.intro hb (And.intro lA lB))))
  have HK : Hid (KRow w (.agg #[v0, v1, v2, v3]) k) := hk
  obtain ⟨nh, enh⟩ : ∃ n, n = hd.length := ⟨_, rfl⟩
  have EN : Hid _ := enh
  rw [← enh] at hl ⊢
  have hne : ¬ pb = n := by omega
  clear hk hb r0 r1 r2 r3 B0 K0 hh hx bh bx kb enh hcs hbl hcap hN hcmp eca etg rowA rowB bA bB lA lB
  go_enter Try.func25, Try.ntmps25
  go_wp2_with fail
  go_at_call 41
  refine C.mono ?_
  rintro e w1 ⟨rfl, b1⟩
  have C1 := HB.out.1.trans (b1.mono HB.out.1.size)
  have K1 := HB.out.2.below b1
  have z1 : w.heap.size + 1 ≤ w1.heap.size := K1.lt (b := w.heap.size) (o := .cells #[v0, v1, v2, v3] 38) (by simp)
  have H1 : Hid _ := And.intro C1 K1
  clear b1 C C1 K1
  go_upto_region 8 with fail
  go_cut [11] from 37 to 41 (fun nv wx => wx.ownsRow (w.heap.size + 1) 5 1 nv k.c.length ((nonV k num).map (Value.int .u8)) ∧ Below w1.heap.size w1 wx)
  case first =>
    have D : Hid (Below w1.heap.size w1 w1.drew) := ⟨rfl, rfl, rfl, Nat.le_refl _, fun _ _ => rfl⟩
    have cw : w1.drew.cell? ⟨w.heap.size, 2, none⟩ = some v2 := (H1.out.2.drew.c4 (b := w.heap.size) (x0 := v0) (x1 := v1) (x2 := v2) (x3 := v3) (t := 38) (by simp)).2.2.1
    go_region_with (first
      | (go_at_call 22; refine (digits 8 num w1.drew ?_ ?_ ?_).mono ?_; omega; omega; decide; rintro e w2 ⟨q2, rfl, o2, b2⟩; have c2 := ((H1.out.2.drew.below b2).c4 (b := w.heap.size) (x0 := v0) (x1 := v1) (x2 := v2) (x3 := v3) (t := 38) (by simp)).2.2.1)
      | (go_at_call 42; refine (xorC v2 q2 k.c (be num 8) w2 (HH.out.1.1.below (H1.out.1.trans ((D.out.trans b2).mono H1.out.1.size))) (row_of_owns o2) ?_ ?_).mono ?_; (rw [be_length, HH.out.2.2.2.1.2.2.1]; decide); (rw [be_length]; decide); rintro e w3 ⟨q3, rfl, o3, b3⟩))
    all_goals (go_wp2_with fail; go_meet; exact ⟨owns_mono o3 (Nat.le_trans z1 b2.size), D.out.trans (b2.trans (b3.mono b2.size))⟩)
  case rest =>
    obtain ⟨on, bc⟩ := hcut
    have C2 := H1.out.1.trans (bc.mono H1.out.1.size)
    have K2 := H1.out.2.below bc
    have l8 : (nonV k num).length = 8 := by rw [nonV_length]; exact HH.out.2.2.2.1.2.2.1
    have l16 : k.b.length = 16 := HH.out.2.2.2.1.2.1
    have HL : Hid _ := And.intro l8 l16
    have H2 : Hid _ := And.intro (row_of_owns on) (And.intro C2 K2)
    have z2 : w1.heap.size ≤ wc.heap.size := bc.size
    clear on bc C2 K2 l8 l16
    have D : Hid (Below wc.heap.size wc wc.drew) := ⟨rfl, rfl, rfl, Nat.le_refl _, fun _ _ => rfl⟩
    have hpn : (n : Int) ≤ (pb : Int) := by omega
    have hpn8 : (n : Int) ≤ (n : Int) + 8 := by omega
    go_upto_region 9 with fail
    go_cut [54] from 42 to 54 (fun cv wx => cv = .bool true ∧ Below wc.heap.size wc wx)
    case first =>
      obtain ⟨e0, e1, e2, e3⟩ := H2.out.2.2.drew.c4 (b := w.heap.size) (x0 := v0) (x1 := v1) (x2 := v2) (x3 := v3) (t := 38) (by simp)
      have CD := H2.out.2.1.trans (D.out.mono H2.out.2.1.size)
      have kt := conv_row (P := Try.prog) Try.underlying22 Try.underlying5 Try.underlying9 (HH.out.1.2.2.2.below CD) (by rw [HH.out.2.2.2.2.2]; decide)
      have HCD : Hid _ := CD
      clear CD
      have rh : Row wc.drew .u8 (.slice ah nh ph) hd := by rw [EN.out]; exact HH.out.1.2.1.below HCD.out
      have TT := tagC _ _ _ _ k (nonV k num) hd ca wc.drew (HK.out.below HCD.out) (H2.out.1.below D.out) rh (HH.out.1.2.2.1.below HCD.out) HH.out.2.2.1.2.1 (xl_bytes _ _ _) HH.out.2.1.1 HH.out.2.1.2.1 (by rw [HL.out.2]; decide) (by rw [HL.out.1]; decide) (by have := EN.out; omega) (by have := HH.out.2.2.2.2.1; omega)
      have HT : Hid _ := And.intro TT True.intro
      clear TT rh
      go_region_with (go_at_call 44; refine HT.out.1.mono ?_; rintro e w5 ⟨q5, rfl, r5, b5⟩; have kq := conv_row (P := Try.prog) Try.underlying22 Try.underlying5 Try.underlying9 r5 (by rw [tagV_length]; decide); have kt5 := conv_row (P := Try.prog) Try.underlying22 Try.underlying5 Try.underlying9 (HH.out.1.2.2.2.below (HCD.out.trans (b5.mono HCD.out.size))) (by rw [HH.out.2.2.2.2.2]; decide); have hne9 := str_ne _ _ (tagV_bytes k.b (nonV k num) hd ca) HH.out.2.1.2.2 HQ9.out)
      all_goals (go_wp2_with fail; go_meet; exact ⟨by simp, D.out.trans b5⟩)
    case rest =>
      obtain ⟨rfl, bc2⟩ := hcut
      have C3 := H2.out.2.1.trans (bc2.mono H2.out.2.1.size)
      have K3 := H2.out.2.2.below bc2
      have H3 : Hid _ := And.intro (H2.out.1.below bc2) (And.intro C3 K3)
      clear bc2 C3 K3
      go_wp2
      go_ret2
      exact ⟨_, rfl, World.ownsRow_lit _ #[] 0 H3.out.2.1.size (by decide) rfl, H3.out.2.1.alloc H3.out.2.1.size _⟩

/-- What OpenSealed answers, and its code. -/
def openV (k : K4) (num : Int) (hd xs : List Int) : List Int := if tagV k.b (nonV k num) hd (xs.take (xs.length - 8)) = xs.drop (xs.length - 8) then overV k num (xs.take (xs.length - 8)) else []
def openE (k : K4) (num : Int) (hd xs : List Int) : Int := if tagV k.b (nonV k num) hd (xs.take (xs.length - 8)) = xs.drop (xs.length - 8) then 0 else 5
end Go.Proofs.Ytkpmdcmgcdnpfaa
