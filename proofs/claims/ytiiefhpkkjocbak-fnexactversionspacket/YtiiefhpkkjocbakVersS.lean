import Derived.Test.YtiiefhpkkjocbakLongS
namespace Go.Proofs.Ytiiefhpkkjocbak
open Go.RowKit
set_option linter.unusedVariables false

/-- A version that may be told. -/
def vok (v : Int) : Prop := 1 ≤ v ∧ v ≤ 4294967295
/-- Versions in four bytes each. -/
def versV (vs : List Int) : List Int := (vs.map (fun v => be v 4)).flatten
theorem versV_take (vs : List Int) (k : Nat) (h : k < vs.length) : versV (vs.take (k + 1)) = versV (vs.take k) ++ be (vs.getD k 0) 4 := by
  unfold versV
  rw [List.take_add_one, List.map_append, List.flatten_append]
  simp [List.getD, h]
theorem versV_length (vs : List Int) : (versV vs).length = 4 * vs.length := by
  induction vs with
  | nil => rfl
  | cons a t ih =>
    have : versV (a :: t) = be a 4 ++ versV t := rfl
    rw [this, List.length_append, ih, be_length, List.length_cons]; omega
theorem sVok (v : Int) (w : World) (h : vok v) : Calls Try.prog 14 #[.int .i64 v] w fun e w' => e = .returned (.bool true) ∧ w' = w := by
  obtain ⟨h1, h2⟩ := h
  go_enter Try.func14, Try.ntmps14
  go_wp2
  go_ret
  exact ⟨rfl, rfl⟩
theorem sVbad (v : Int) (w : World) (h : ¬ vok v) : Calls Try.prog 14 #[.int .i64 v] w fun e w' => e = .returned (.bool false) ∧ w' = w := by
  by_cases h1 : 1 ≤ v
  · have h2 : 4294967295 < v := by unfold vok at h; omega
    have hd : decide (v ≤ 4294967295) = false := decide_eq_false (by omega)
    clear h
    go_enter Try.func14, Try.ntmps14
    go_wp2
    go_ret
    exact ⟨rfl, rfl⟩
  · have h2 : v < 1 := by omega
    clear h h1
    go_enter Try.func14, Try.ntmps14
    go_wp2
    go_ret
    exact ⟨rfl, rfl⟩
/-- What VersionsPacket gives of versions that are not too few or many. -/
structure VersOut (d s vs y : List Int) (c : Int) : Prop where
  good : (∀ j, j < vs.length → vok (vs.getD j 0)) → c = 0 ∧ y = (128 :: idsV 0 d s) ++ versV vs
  bad : (∃ j, j < vs.length ∧ ¬ vok (vs.getD j 0)) → c = 1 ∧ y = []
set_option maxRecDepth 20000 in
set_option maxHeartbeats 1000000 in
theorem vers_bad (ad asv av : Option Addr) (n m k pd ps pv : Nat) (w : World) (h : 8 < n ∨ 8 < m ∨ k < 1 ∨ 8 < k) (hn : n ≤ 9223372036854775807) (hm : m ≤ 9223372036854775807) (hk : k ≤ 9223372036854775807) :
    Calls Try.prog 4 #[.slice ad n pd, .slice asv m ps, .slice av k pv] w fun e w' => ∃ r, e = .returned (.tuple #[r, .int .i64 1]) ∧ w'.ownsRow w.heap.size 5 1 r 0 (([] : List Int).map (Value.int .u8)) ∧ Below w.heap.size w w' := by
  by_cases h1 : n ≤ 8
  · by_cases h2 : m ≤ 8
    · by_cases h3 : k < 1
      · clear h
        go_enter Try.func4, Try.ntmps4
        go_wp2
        go_ret2
        exact ⟨_, rfl, World.ownsRow_lit _ #[] 0 (Nat.le_refl _) (by decide) rfl, (Below.refl _ _).alloc (Nat.le_refl _) _⟩
      · have h4 : 8 < k := by omega
        clear h
        go_enter Try.func4, Try.ntmps4
        go_wp2
        go_ret2
        exact ⟨_, rfl, World.ownsRow_lit _ #[] 0 (Nat.le_refl _) (by decide) rfl, (Below.refl _ _).alloc (Nat.le_refl _) _⟩
    · have h4 : 8 < m := by omega
      clear h
      go_enter Try.func4, Try.ntmps4
      go_wp2
      go_ret2
      exact ⟨_, rfl, World.ownsRow_lit _ #[] 0 (Nat.le_refl _) (by decide) rfl, (Below.refl _ _).alloc (Nat.le_refl _) _⟩
  · have h4 : 8 < n := by omega
    clear h
    go_enter Try.func4, Try.ntmps4
    go_wp2
    go_ret2
    exact ⟨_, rfl, World.ownsRow_lit _ #[] 0 (Nat.le_refl _) (by decide) rfl, (Below.refl _ _).alloc (Nat.le_refl _) _⟩
set_option maxRecDepth 20000 in
set_option maxHeartbeats 4000000 in
theorem vers_ok (ad asv : Option Addr) (b off n m k pd ps pv : Nat) (d s vs y : List Int) (c : Int) (w : World) (rd : Row w .u8 (.slice ad n pd) d) (rs : Row w .u8 (.slice asv m ps) s) (ed : d.length = n) (es : s.length = m) (ek : vs.length = k) (hn : n ≤ 8) (hm : m ≤ 8) (h1 : 1 ≤ k) (h8 : k ≤ 8)
    (hb : b < w.heap.size) (hc : ∀ j, j < k → w.cell? ⟨b, off + j, none⟩ = some (.int .i64 (vs.getD j 0))) (hy : VersOut d s vs y c) :
    Calls Try.prog 4 #[.slice ad n pd, .slice asv m ps, .slice (some ⟨b, off, none⟩) k pv] w fun e w' => ∃ r, e = .returned (.tuple #[r, .int .i64 c]) ∧ w'.ownsRow w.heap.size 5 1 r y.length (y.map (Value.int .u8)) ∧ Below w.heap.size w w' := by
  have b0 := (Below.refl w.heap.size w).alloc (Nat.le_refl _) (.cells #[.int .u8 128] 5)
  have HC : Hid _ := And.intro (idsC 0 ad asv n m pd ps d s _ (by decide) (by decide) (rd.below b0) (rs.below b0) ed es hn hm) b0
  have o0 : (w.alloc (.cells #[.int .u8 128] 5)).ownsRow w.heap.size 5 1 (.slice (some ⟨w.heap.size, 0, none⟩) 1 1) 1 ([128].map (Value.int .u8)) := World.ownsRow_lit _ #[.int .u8 128] 1 (Nat.le_refl _) (by decide) rfl
  have hil : (idsV 0 d s).length ≤ 22 := by rw [idsV_length]; omega
  have HH : Hid _ := And.intro hc (And.intro hy (And.intro ek (And.intro o0 hil)))
  clear rd rs ed es hc hy ek b0 o0 hil
  go_enter Try.func4, Try.ntmps4
  go_wp2_with fail
  go_at_call 13
  refine HC.out.1.mono ?_
  rintro e w1 ⟨r1, rfl, o1, b1⟩
  have H1 : Hid _ := And.intro (row_of_owns o1) (And.intro (owns_below HH.out.2.2.2.1 b1) (HC.out.2.trans (b1.mono HC.out.2.size)))
  clear o1 b1
  go_wp2_with (at_builtin; refine wpList_append_row rfl (.tmp 29) (.tmp 32) rfl w.heap.size _ 1 [128] rfl H1.out.2.1 _ (idsV 0 d s) rfl H1.out.1 (by have := HH.out.2.2.2.2; omega) H1.out.2.2.size ?_; intro q2 w2 o2 g2; have H2 : Hid _ := And.intro o2 (H1.out.2.2.grown g2 H1.out.2.2.size (fun q hq => (H1.out.2.1.lt q hq).1)); clear o2 g2)
  go_loopw [9, 8] (fun i q wr => ∃ t : Nat, t ≤ k ∧ i = .int .i64 (t : Int) ∧ wr.ownsRow w.heap.size 5 1 q (1 + (idsV 0 d s).length + 4 * t) (((128 :: idsV 0 d s) ++ versV (vs.take t)).map (Value.int .u8)) ∧ Below w.heap.size w wr ∧ ∀ j, j < t → vok (vs.getD j 0)) (fun i _ _ => k - (intOf i).toNat)
  case atStart => exact ⟨0, by omega, rfl, by simpa [versV] using H2.out.1, H2.out.2, fun j hj => by omega⟩
  case round =>
    obtain ⟨t, ht, rfl, ow, bw, hv⟩ := hrel
    by_cases hlt : t < k
    · have c0 : wr.cell? ⟨b, off + t, none⟩ = some (.int .i64 (vs.getD t 0)) := (bw.cell (p := ⟨b, off + t, none⟩) hb).trans (HH.out.1 t hlt)
      have H3 : Hid _ := And.intro ow (And.intro bw hv)
      clear ow bw hv
      obtain ⟨v, ev⟩ : ∃ v, v = vs.getD t 0 := ⟨_, rfl⟩
      rw [← ev] at c0
      have EV : Hid _ := ev
      clear ev
      by_cases hok : vok v
      · have hv1 := hok.1
        have hv2 := hok.2
        go_wp2_with (first
          | (go_at_call 14; refine (sVok v _ hok).mono ?_; rintro e w' ⟨rfl, hw⟩; subst w')
          | (go_at_call 15; refine (digits 4 v _ (by omega) (by omega) (by decide)).mono ?_; rintro e w4 ⟨r4, rfl, o4, b4⟩; have H4 : Hid _ := And.intro (row_of_owns o4) (And.intro (owns_below H3.out.1 b4) (H3.out.2.1.trans (b4.mono H3.out.2.1.size))); clear o4 b4)
          | (at_builtin; refine wpList_append_row rfl (.tmp 47) (.tmp 52) rfl w.heap.size _ _ _ rfl H4.out.2.1 _ (be v 4) rfl H4.out.1 (by rw [be_length]; have := HH.out.2.2.2.2; omega) H4.out.2.2.size ?_; intro q5 w5 o5 g5; have H5 : Hid _ := And.intro o5 (H4.out.2.2.grown g5 H4.out.2.2.size (fun q hq => (H4.out.2.1.lt q hq).1)); clear o5 g5))
        go_roundw
        case rel =>
          refine ⟨t + 1, by omega, by go_num, ?_, H5.out.2, fun j hj => ?_⟩
          · have := H5.out.1
            rw [be_length, List.append_assoc, EV.out, ← versV_take vs t (by have := HH.out.2.2.1; omega)] at this
            exact this
          · by_cases hjt : j = t
            · subst hjt; rw [← EV.out]; exact hok
            · exact H3.out.2.2 j (by omega)
        case measure => simp [intOf]; omega
      · have hB := HH.out.2.1.bad ⟨t, by have := HH.out.2.2.1; omega, by rw [← EV.out]; exact hok⟩
        obtain ⟨rfl, rfl⟩ := hB
        go_wp2_with (go_at_call 14; refine (sVbad v _ hok).mono ?_; rintro e w' ⟨rfl, hw⟩; subst w')
        go_ret2
        exact ⟨_, rfl, World.ownsRow_lit _ #[] 0 H3.out.2.1.size (by decide) rfl, H3.out.2.1.alloc H3.out.2.1.size _⟩
    · obtain rfl : t = k := by omega
      have hG := HH.out.2.1.good (fun j hj => hv j (by have := HH.out.2.2.1; omega))
      obtain ⟨rfl, rfl⟩ := hG
      have el : vs.take t = vs := List.take_of_length_le (by have := HH.out.2.2.1; omega)
      rw [el] at ow
      have H3 : Hid _ := And.intro ow bw
      clear ow bw hv
      go_wp2
      go_ret2
      refine ⟨_, rfl, ?_, H3.out.2⟩
      have := H3.out.1
      have hl : ((128 :: idsV 0 d s) ++ versV vs).length = 1 + (idsV 0 d s).length + 4 * t := by rw [List.length_append, versV_length, HH.out.2.2.1]; simp; omega
      rw [hl]
      exact this
end Go.Proofs.Ytiiefhpkkjocbak
