import Derived.Test.YtiiefhpkkjocbakVersS
import Derived.Test.YtiiefhpkkjocbakILong
namespace Go.Proofs.Ytiiefhpkkjocbak
open Go.RowKit
set_option linter.unusedVariables false

theorem iVok (v : Int) (w : World) (h : vok v) : Calls Try.prog 18 #[.int .i64 v] w fun e w' => e = .returned (.bool true) ∧ w' = w := by
  obtain ⟨h1, h2⟩ := h
  go_enter Try.func18, Try.ntmps18
  go_wp2
  go_ret
  exact ⟨rfl, rfl⟩
theorem iVbad (v : Int) (w : World) (h : ¬ vok v) : Calls Try.prog 18 #[.int .i64 v] w fun e w' => e = .returned (.bool false) ∧ w' = w := by
  by_cases h1 : 1 ≤ v
  · have h2 : 4294967295 < v := by unfold vok at h; omega
    have hd : decide (v ≤ 4294967295) = false := decide_eq_false (by omega)
    clear h
    go_enter Try.func18, Try.ntmps18
    go_wp2
    go_ret
    exact ⟨rfl, rfl⟩
  · have h2 : v < 1 := by omega
    clear h h1
    go_enter Try.func18, Try.ntmps18
    go_wp2
    go_ret
    exact ⟨rfl, rfl⟩
theorem cids2 (n m : Nat) (d s : List Int) (e : d.length = n) (e2 : s.length = m) : (decide (∀ j, j < ([d, s] : List (List Int)).length → (([d, s] : List (List Int)).getD j []).length ≤ 8)) = decide (n ≤ 8 ∧ m ≤ 8) := by
  rw [decide_eq_decide]
  constructor
  · intro h
    have h0 := h 0 (by simp)
    have h1 := h 1 (by simp)
    simp only [List.getD_cons_zero, List.getD_cons_succ] at h0 h1
    omega
  · intro h j hj
    rcases (show j = 0 ∨ j = 1 by simp at hj; omega) with rfl | rfl
    · simp only [List.getD_cons_zero]; omega
    · simp only [List.getD_cons_zero, List.getD_cons_succ]; omega
theorem cids2_len (d s : List Int) (h : d.length ≤ 9223372036854775807) (h2 : s.length ≤ 9223372036854775807) (j : Nat) : (([d, s] : List (List Int)).getD j []).length ≤ 9223372036854775807 := by
  match j with
  | 0 => exact h
  | 1 => exact h2
  | n + 2 => simp [List.getD]
set_option maxRecDepth 20000 in
set_option maxHeartbeats 1000000 in
theorem ivers_bad (ad asv av : Option Addr) (n m k pd ps pv : Nat) (d s : List Int) (w : World) (rd : Row w .u8 (.slice ad n pd) d) (rs : Row w .u8 (.slice asv m ps) s) (ed : d.length = n) (es : s.length = m) (h : 8 < n ∨ 8 < m ∨ k < 1 ∨ 8 < k) (hn : n ≤ 9223372036854775807) (hm : m ≤ 9223372036854775807) (hk : k ≤ 9223372036854775807) :
    Calls Try.prog 7 #[.slice ad n pd, .slice asv m ps, .slice av k pv] w fun e w' => ∃ r, e = .returned (.tuple #[r, .int .i64 1]) ∧ w'.ownsRow w.heap.size 5 1 r 0 (([] : List Int).map (Value.int .u8)) ∧ Below w.heap.size w w' := by
  have HC := icids _ [d, s] _ (parts2 rd rs 22) (by simp) (cids2_len d s (by omega) (by omega))
  rw [cids2 n m d s ed es] at HC
  clear rd rs ed es
  by_cases h1 : n ≤ 8 ∧ m ≤ 8
  · rw [decide_eq_true h1] at HC
    have HD : Hid _ := And.intro HC True.intro
    clear HC
    by_cases h3 : k < 1
    · clear h
      go_enter Try.func7, Try.ntmps7
      go_wp2_with (go_at_call 16; refine HD.out.1.mono ?_; rintro e w' ⟨rfl, hw⟩; subst w')
      go_ret2
      exact ⟨_, rfl, World.ownsRow_nil _ _ _ _, (Below.refl _ _).alloc (Nat.le_refl _) _⟩
    · have h4 : 8 < k := by omega
      clear h
      go_enter Try.func7, Try.ntmps7
      go_wp2_with (go_at_call 16; refine HD.out.1.mono ?_; rintro e w' ⟨rfl, hw⟩; subst w')
      go_ret2
      exact ⟨_, rfl, World.ownsRow_nil _ _ _ _, (Below.refl _ _).alloc (Nat.le_refl _) _⟩
  · rw [decide_eq_false h1] at HC
    have HD : Hid _ := And.intro HC True.intro
    clear HC h h1
    go_enter Try.func7, Try.ntmps7
    go_wp2_with (go_at_call 16; refine HD.out.1.mono ?_; rintro e w' ⟨rfl, hw⟩; subst w')
    go_ret2
    exact ⟨_, rfl, World.ownsRow_nil _ _ _ _, (Below.refl _ _).alloc (Nat.le_refl _) _⟩
set_option maxRecDepth 20000 in
set_option maxHeartbeats 4000000 in
theorem ivers_ok (ad asv : Option Addr) (b off n m k pd ps pv : Nat) (d s vs y : List Int) (c : Int) (w : World) (rd : Row w .u8 (.slice ad n pd) d) (rs : Row w .u8 (.slice asv m ps) s) (ed : d.length = n) (es : s.length = m) (ek : vs.length = k) (hn : n ≤ 8) (hm : m ≤ 8) (h1 : 1 ≤ k) (h8 : k ≤ 8)
    (hb : b < w.heap.size) (hc : ∀ j, j < k → w.cell? ⟨b, off + j, none⟩ = some (.int .i64 (vs.getD j 0))) (hy : VersOut d s vs y c) :
    Calls Try.prog 7 #[.slice ad n pd, .slice asv m ps, .slice (some ⟨b, off, none⟩) k pv] w fun e w' => ∃ r, e = .returned (.tuple #[r, .int .i64 c]) ∧ w'.ownsRow w.heap.size 5 1 r y.length (y.map (Value.int .u8)) ∧ Below w.heap.size w w' := by
  have HP := icids _ [d, s] _ (parts2 rd rs 22) (by simp) (cids2_len d s (by omega) (by omega))
  rw [cids2 n m d s ed es, decide_eq_true ⟨hn, hm⟩] at HP
  have b0 := (Below.refl w.heap.size w).alloc (Nat.le_refl _) (.cells #[.slice ad n pd, .slice asv m ps] 22)
  have HC : Hid _ := And.intro (ilong 128 0 ad asv n m pd ps d s _ (by decide) (by decide) (rd.below b0) (rs.below b0) ed es hn hm) (And.intro b0 HP)
  have hil : (idsV 0 d s).length ≤ 22 := by rw [idsV_length]; omega
  have HH : Hid _ := And.intro hc (And.intro hy (And.intro ek (And.intro True.intro hil)))
  clear rd rs ed es hc hy ek b0 hil HP
  go_enter Try.func7, Try.ntmps7
  go_wp2_with (go_at_call 16; refine HC.out.2.2.mono ?_; rintro e w' ⟨rfl, hw⟩; subst w')
  go_at_call 17
  refine HC.out.1.mono ?_
  rintro e w2 ⟨q2, rfl, o2, b2⟩
  have H2 : Hid _ := And.intro (owns_mono o2 HC.out.2.1.size) (HC.out.2.1.trans (b2.mono HC.out.2.1.size))
  clear o2 b2
  go_wp2_with fail
  go_loopw [31, 8] (fun i q wr => ∃ t : Nat, t ≤ k ∧ i = .int .i64 (t : Int) ∧ wr.ownsRow w.heap.size 5 1 q (1 + (idsV 0 d s).length + 4 * t) (((128 :: idsV 0 d s) ++ versV (vs.take t)).map (Value.int .u8)) ∧ Below w.heap.size w wr ∧ ∀ j, j < t → vok (vs.getD j 0)) (fun i _ _ => k - (intOf i).toNat)
  case atStart => exact ⟨0, by omega, rfl, by have h := H2.out.1; rw [List.length_cons, Nat.add_comm] at h; simpa [versV] using h, H2.out.2, fun j hj => by omega⟩
  case round =>
    obtain ⟨t, ht, rfl, ow, bw, hv⟩ := hrel
    by_cases hlt : t < k
    · have c0 : wr.cell? ⟨b, off + t, none⟩ = some (.int .i64 (vs.getD t 0)) := (bw.cell (p := ⟨b, off + t, none⟩) hb).trans (HH.out.1 t hlt)
      have H3 : Hid _ := And.intro ow (And.intro bw hv)
      clear ow bw hv
      obtain ⟨v, ev⟩ : ∃ v, v = vs.getD t 0 := ⟨_, rfl⟩
      rw [← ev] at c0
      have EV : Hid _ := ev
      clear ev
      by_cases hok : vok v
      · have hv1 := hok.1
        have hv2 := hok.2
        have hw64 : IntKind.u64.wrap v = v := by rw [IntKind.wrap_u64]; omega
        go_wp2_with (first
          | (go_at_call 18; refine (iVok v _ hok).mono ?_; rintro e w' ⟨rfl, hw⟩; subst w')
          | (go_at_call 19; refine (high v 4 _ (by omega) (by omega) (by decide)).mono ?_; rintro e w4 ⟨r4, rfl, o4, b4⟩; have H4 : Hid _ := And.intro (row_of_owns o4) (And.intro (owns_below H3.out.1 b4) (H3.out.2.1.trans (b4.mono H3.out.2.1.size))); clear o4 b4)
          | (at_builtin; refine wpList_append_row rfl (.tmp 38) (.tmp 41) rfl w.heap.size _ _ _ rfl H4.out.2.1 _ (be v 4) rfl H4.out.1 (by rw [be_length]; have := HH.out.2.2.2.2; omega) H4.out.2.2.size ?_; intro q5 w5 o5 g5; have H5 : Hid _ := And.intro o5 (H4.out.2.2.grown g5 H4.out.2.2.size (fun q hq => (H4.out.2.1.lt q hq).1)); clear o5 g5))
        go_roundw
        case rel =>
          refine ⟨t + 1, by omega, by go_num, ?_, H5.out.2, fun j hj => ?_⟩
          · have := H5.out.1
            rw [be_length, List.append_assoc, EV.out, ← versV_take vs t (by have := HH.out.2.2.1; omega)] at this
            exact this
          · by_cases hjt : j = t
            · subst hjt; rw [← EV.out]; exact hok
            · exact H3.out.2.2 j (by omega)
        case measure => simp [intOf]; omega
      · have hB := HH.out.2.1.bad ⟨t, by have := HH.out.2.2.1; omega, by rw [← EV.out]; exact hok⟩
        obtain ⟨rfl, rfl⟩ := hB
        go_wp2_with (go_at_call 18; refine (iVbad v _ hok).mono ?_; rintro e w' ⟨rfl, hw⟩; subst w')
        go_ret2
        exact ⟨_, rfl, World.ownsRow_nil _ _ _ _, H3.out.2.1⟩
    · obtain rfl : t = k := by omega
      have hG := HH.out.2.1.good (fun j hj => hv j (by have := HH.out.2.2.1; omega))
      obtain ⟨rfl, rfl⟩ := hG
      have el : vs.take t = vs := List.take_of_length_le (by have := HH.out.2.2.1; omega)
      rw [el] at ow
      have H3 : Hid _ := And.intro ow bw
      clear ow bw hv
      go_wp2
      go_ret2
      refine ⟨_, rfl, ?_, H3.out.2⟩
      have := H3.out.1
      have hl : ((128 :: idsV 0 d s) ++ versV vs).length = 1 + (idsV 0 d s).length + 4 * t := by rw [List.length_append, versV_length, HH.out.2.2.1]; simp; omega
      rw [hl]
      exact this
end Go.Proofs.Ytiiefhpkkjocbak
