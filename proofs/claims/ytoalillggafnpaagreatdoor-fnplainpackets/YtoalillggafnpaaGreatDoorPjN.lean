import Derived.Test.YtoalillggafnpaaGreatDoorPjK
import Derived.Test.YtoalillggafnpaaGreatDoorPjM
import Derived.Test.YtoalillggafnpaaGreatDoorAppRow
import Derived.Laws.Rows
import Derived.Deep.RegionLaw
import Derived.Deep.CutRange
import Derived.Test.YtoalillggafnpaaGreatDoorPjA
import Derived.Test.YtoalillggafnpaaGreatDoorPjQ
namespace Go.Proofs.YtoalillggafnpaaGreatDoor
open Go.RowKit
set_option linter.unusedVariables false

set_option maxRecDepth 20000 in
set_option maxHeartbeats 4000000 in
theorem retS_core (xv : Int) (a2 a3 a4 ao : Option Addr) (nd ns nt no p2 p3 p4 po : Nat) (xd xs xt o : List Int) (w : World) (r2 : Row w .u8 (.slice a2 nd p2) xd) (r3 : Row w .u8 (.slice a3 ns p3) xs) (r4 : Row w .u8 (.slice a4 nt p4) xt) (ro : Row w .u8 (.slice ao no po) o)
    (ed : xd.length = nd) (es : xs.length = ns) (et : xt.length = nt) (eo : o.length = no) (gv : vok xv) (gd : nd ≤ 8) (gs : ns ≤ 8) (g1 : 1 ≤ nt) (g2 : nt ≤ 64) (go : no ≤ 8) (bo : Bytes o) (bO : Bytes (([240] ++ idsV xv xd xs) ++ xt)) :
    Calls Tryz.prog 6 #[.agg #[.int .i64 3, .int .i64 xv, .slice a2 nd p2, .slice a3 ns p3, .slice a4 nt p4, .int .i64 0, .int .i64 0, .int .i64 0], .slice ao no po] w fun e w' => ∃ r, e = .returned (.tuple #[r, .int .i64 0]) ∧ w'.ownsRow w.heap.size 5 1 r (((([240] ++ idsV xv xd xs) ++ xt) ++ retV o (([240] ++ idsV xv xd xs) ++ xt)).length) (((([240] ++ idsV xv xd xs) ++ xt) ++ retV o (([240] ++ idsV xv xd xs) ++ xt)).map (Value.int .u8)) ∧ Below w.heap.size w w' := by
  have B0 := (Below.refl w.heap.size w).alloc (Nat.le_refl _) (.cells #[.int .i64 3, .int .i64 xv, .slice a2 nd p2, .slice a3 ns p3, .slice a4 nt p4, .int .i64 0, .int .i64 0, .int .i64 0] 24)
  have B1 := B0.alloc B0.size (.cells #[.int .u8 240] 5)
  have es1 : (w.alloc (.cells #[.int .i64 3, .int .i64 xv, .slice a2 nd p2, .slice a3 ns p3, .slice a4 nt p4, .int .i64 0, .int .i64 0, .int .i64 0] 24)).heap.size = w.heap.size + 1 := by simp
  have hbx : ((w.alloc (.cells #[.int .i64 3, .int .i64 xv, .slice a2 nd p2, .slice a3 ns p3, .slice a4 nt p4, .int .i64 0, .int .i64 0, .int .i64 0] 24)).alloc (.cells #[.int .u8 240] 5)).heap[w.heap.size]? = some (.cells #[.int .i64 3, .int .i64 xv, .slice a2 nd p2, .slice a3 ns p3, .slice a4 nt p4, .int .i64 0, .int .i64 0, .int .i64 0] 24 (0, 0)) := (Below.heap_alloc _ _ _ (by rw [es1]; omega)).trans (MapKept.heap_alloc w _).1
  have o1 : ((w.alloc (.cells #[.int .i64 3, .int .i64 xv, .slice a2 nd p2, .slice a3 ns p3, .slice a4 nt p4, .int .i64 0, .int .i64 0, .int .i64 0] 24)).alloc (.cells #[.int .u8 240] 5)).ownsRow w.heap.size 5 1 (.slice (some ⟨(w.alloc (.cells #[.int .i64 3, .int .i64 xv, .slice a2 nd p2, .slice a3 ns p3, .slice a4 nt p4, .int .i64 0, .int .i64 0, .int .i64 0] 24)).heap.size, 0, none⟩) 1 1) 1 (([240] : List Int).map (Value.int .u8)) := World.ownsRow_lit _ #[.int .u8 240] 1 B0.size (by decide) rfl
  rw [es1] at o1
  have hv := gv
  obtain ⟨hv1, hv2⟩ := hv
  have CI := idsC xv a2 a3 nd ns p2 p3 xd xs _ (by omega) (by omega) (r2.below B1) (r3.below B1) ed es gd gs
  have hil : (idsV xv xd xs).length = 6 + nd + ns := by rw [idsV_length]; omega
  have hOl : (([240] ++ idsV xv xd xs) ++ xt).length = 1 + (idsV xv xd xs).length + xt.length := by simp; omega
  have HH : Hid _ := And.intro CI (And.intro o1 (And.intro B1 (And.intro hbx (And.intro (And.intro r4 ro) (And.intro (And.intro et eo) (And.intro hil (And.intro bo (And.intro bO hOl))))))))
  clear CI o1 B1 hbx B0 r2 r3 r4 ro ed es et eo hil bo bO es1 hOl
  go_enter Tryz.func6, Tryz.ntmps6
  go_wp2_with (go_at_call 33; refine (sVok xv _ gv).mono ?_; rintro e w' ⟨rfl, hw⟩; subst w')
  go_at_call 34
  refine HH.out.1.mono ?_
  rintro e w1 ⟨r1, rfl, o1, b1⟩
  have zb : w.heap.size < w1.heap.size := by have h := b1.size; simp at h; omega
  have H1 : Hid _ := And.intro (row_of_owns o1) (And.intro (owns_below HH.out.2.1 b1) (And.intro (HH.out.2.2.1.trans (b1.mono HH.out.2.2.1.size)) ((b1.block w.heap.size (by simp; omega)).trans HH.out.2.2.2.1)))
  clear o1 b1
  go_wp2_with (first
    | (at_builtin; refine wpList_append_row rfl (.tmp 61) (.tmp 68) rfl w.heap.size (.slice (some ⟨w.heap.size + 1, 0, none⟩) 1 1) 1 [240] rfl H1.out.2.1 r1 (idsV xv xd xs) rfl H1.out.1 (by rw [HH.out.2.2.2.2.2.2.1]; omega) H1.out.2.2.1.size ?_; intro q2 w2 o2 gg; have H2 : Hid _ := And.intro o2 (And.intro (H1.out.2.2.1.grown gg H1.out.2.2.1.size (fun q hq => (H1.out.2.1.lt q hq).1)) ((gg.block w.heap.size zb (by simp [Value.ownBlock])).trans H1.out.2.2.2)); have c4 : w2.cell? ⟨w.heap.size, 4, none⟩ = some (.slice a4 nt p4) := (by rw [blkS_cell H2.out.2.2]; rfl); clear o2 gg)
    | (at_builtin; refine wpList_append_row rfl (.tmp 70) (.tmp 72) rfl w.heap.size q2 _ _ rfl H2.out.1 _ xt rfl (HH.out.2.2.2.2.1.1.below H2.out.2.1) (by rw [HH.out.2.2.2.2.2.2.1, HH.out.2.2.2.2.2.1.1]; omega) H2.out.2.1.size ?_; intro q3 w3 o3 gg; have H3 : Hid _ := And.intro o3 (H2.out.2.1.grown gg H2.out.2.1.size (fun q hq => (H2.out.1.lt q hq).1)); clear o3 gg))
  go_at_call 35
  obtain ⟨g3, c3, eq3, _, _⟩ := owns_shape H3.out.1 (by have := HH.out.2.2.2.2.2.1.1; omega)
  subst eq3
  refine (rtagC ao (some ⟨g3, 0, none⟩) no _ po c3 o (([240] ++ idsV xv xd xs) ++ xt) w3 (HH.out.2.2.2.2.1.2.below H3.out.2) (row_of_owns H3.out.1) HH.out.2.2.2.2.2.1.2 HH.out.2.2.2.2.2.2.2.2.2 go (by rw [HH.out.2.2.2.2.2.2.1, HH.out.2.2.2.2.2.1.1]; omega) HH.out.2.2.2.2.2.2.2.1 HH.out.2.2.2.2.2.2.2.2.1).mono ?_
  rintro e w4 ⟨r4, rfl, rr4, b4⟩
  have H4 : Hid _ := And.intro rr4 (And.intro (owns_below H3.out.1 b4) (H3.out.2.trans (b4.mono H3.out.2.size)))
  clear rr4 b4 c4
  go_wp2_with (at_builtin; refine wpList_append_row rfl (.tmp 74) (.tmp 77) rfl w.heap.size _ _ _ rfl H4.out.2.1 r4 (retV o (([240] ++ idsV xv xd xs) ++ xt)) rfl H4.out.1 (by rw [retV_length, HH.out.2.2.2.2.2.2.1, HH.out.2.2.2.2.2.1.1]; omega) H4.out.2.2.size ?_; intro q5 w5 o5 gg; have H5 : Hid _ := And.intro o5 (H4.out.2.2.grown gg H4.out.2.2.size (fun q hq => (H4.out.2.1.lt q hq).1)); clear o5 gg)
  go_ret2
  refine ⟨_, rfl, ?_, H5.out.2⟩
  have hl : ((([240] ++ idsV xv xd xs) ++ xt) ++ retV o (([240] ++ idsV xv xd xs) ++ xt)).length = 1 + (idsV xv xd xs).length + xt.length + (retV o (([240] ++ idsV xv xd xs) ++ xt)).length := by have h := HH.out.2.2.2.2.2.2.2.2.2; rw [List.length_append, h]
  have h5 := H5.out.1
  rw [← hl] at h5
  exact h5
theorem retS_ok (v : Value) (h : H8) (ao : Option Addr) (po : Nat) (o : List Int) (w : World) (hr : HRow w v h) (hb : h.bytes) (ro : Row w .u8 (.slice ao o.length po) o) (bo : Bytes o) (ok : rok h o) :
    Calls Tryz.prog 6 #[v, .slice ao o.length po] w fun e w' => ∃ r, e = .returned (.tuple #[r, .int .i64 0]) ∧ w'.ownsRow w.heap.size 5 1 r (retP h o).length ((retP h o).map (Value.int .u8)) ∧ Below w.heap.size w w' := by
  have bO := retO_bytes h hb ok.2.2.1 ok.2.2.2.1
  obtain ⟨xf, xv, xd, xs, xt, xn, xl, xp⟩ := h
  obtain ⟨v2, v3, v4, rfl, r2, r3, r4⟩ := hr
  obtain ⟨a2, p2, rfl⟩ := r2.form
  obtain ⟨a3, p3, rfl⟩ := r3.form
  obtain ⟨a4, p4, rfl⟩ := r4.form
  unfold rok at ok
  dsimp only at *
  obtain ⟨rfl, gv, gd, gs, g1, g2, rfl, rfl, rfl, go⟩ := ok
  exact retS_core xv a2 a3 a4 ao _ _ _ _ p2 p3 p4 po xd xs xt o w r2 r3 r4 ro rfl rfl rfl rfl gv gd gs g1 g2 go bo bO
end Go.Proofs.YtoalillggafnpaaGreatDoor

namespace Go.Proofs.YtoalillggafnpaaGreatDoor
open Go.RowKit
set_option linter.unusedVariables false

theorem iVok (v : Int) (w : World) (h : vok v) : Calls Tryz.prog 28 #[.int .i64 v] w fun e w' => e = .returned (.bool true) ∧ w' = w := by
  obtain ⟨h1, h2⟩ := h
  go_enter Tryz.func28, Tryz.ntmps28
  go_wp2
  go_ret
  exact ⟨rfl, rfl⟩
theorem iVbad (v : Int) (w : World) (h : ¬ vok v) : Calls Tryz.prog 28 #[.int .i64 v] w fun e w' => e = .returned (.bool false) ∧ w' = w := by
  by_cases h1 : 1 ≤ v
  · have h2 : 4294967295 < v := by unfold vok at h; omega
    have hd : decide (v ≤ 4294967295) = false := decide_eq_false (by omega)
    clear h
    go_enter Tryz.func28, Tryz.ntmps28
    go_wp2
    go_ret
    exact ⟨rfl, rfl⟩
  · have h2 : v < 1 := by omega
    clear h h1
    go_enter Tryz.func28, Tryz.ntmps28
    go_wp2
    go_ret
    exact ⟨rfl, rfl⟩
theorem cids2 (n m : Nat) (d s : List Int) (e : d.length = n) (e2 : s.length = m) : (decide (∀ j, j < ([d, s] : List (List Int)).length → (([d, s] : List (List Int)).getD j []).length ≤ 8)) = decide (n ≤ 8 ∧ m ≤ 8) := by
  rw [decide_eq_decide]
  constructor
  · intro h
    have h0 := h 0 (by simp)
    have h1 := h 1 (by simp)
    simp only [List.getD_cons_zero, List.getD_cons_succ] at h0 h1
    omega
  · intro h j hj
    rcases (show j = 0 ∨ j = 1 by simp at hj; omega) with rfl | rfl
    · simp only [List.getD_cons_zero]; omega
    · simp only [List.getD_cons_zero, List.getD_cons_succ]; omega
theorem cids2_len (d s : List Int) (h : d.length ≤ 9223372036854775807) (h2 : s.length ≤ 9223372036854775807) (j : Nat) : (([d, s] : List (List Int)).getD j []).length ≤ 9223372036854775807 := by
  match j with
  | 0 => exact h
  | 1 => exact h2
  | n + 2 => simp [List.getD]
set_option maxRecDepth 20000 in
set_option maxHeartbeats 1000000 in
theorem ivers_bad (ad asv av : Option Addr) (n m k pd ps pv : Nat) (d s : List Int) (w : World) (rd : Row w .u8 (.slice ad n pd) d) (rs : Row w .u8 (.slice asv m ps) s) (ed : d.length = n) (es : s.length = m) (h : 8 < n ∨ 8 < m ∨ k < 1 ∨ 8 < k) (hn : n ≤ 9223372036854775807) (hm : m ≤ 9223372036854775807) (hk : k ≤ 9223372036854775807) :
    Calls Tryz.prog 12 #[.slice ad n pd, .slice asv m ps, .slice av k pv] w fun e w' => ∃ r, e = .returned (.tuple #[r, .int .i64 1]) ∧ w'.ownsRow w.heap.size 5 1 r 0 (([] : List Int).map (Value.int .u8)) ∧ Below w.heap.size w w' := by
  have HC := icids _ [d, s] _ (parts2 rd rs 22) (by simp) (cids2_len d s (by omega) (by omega))
  rw [cids2 n m d s ed es] at HC
  clear rd rs ed es
  by_cases h1 : n ≤ 8 ∧ m ≤ 8
  · rw [decide_eq_true h1] at HC
    have HD : Hid _ := And.intro HC True.intro
    clear HC
    by_cases h3 : k < 1
    · clear h
      go_enter Tryz.func12, Tryz.ntmps12
      go_wp2_with (go_at_call 29; refine HD.out.1.mono ?_; rintro e w' ⟨rfl, hw⟩; subst w')
      go_ret2
      exact ⟨_, rfl, World.ownsRow_nil _ _ _ _, (Below.refl _ _).alloc (Nat.le_refl _) _⟩
    · have h4 : 8 < k := by omega
      clear h
      go_enter Tryz.func12, Tryz.ntmps12
      go_wp2_with (go_at_call 29; refine HD.out.1.mono ?_; rintro e w' ⟨rfl, hw⟩; subst w')
      go_ret2
      exact ⟨_, rfl, World.ownsRow_nil _ _ _ _, (Below.refl _ _).alloc (Nat.le_refl _) _⟩
  · rw [decide_eq_false h1] at HC
    have HD : Hid _ := And.intro HC True.intro
    clear HC h h1
    go_enter Tryz.func12, Tryz.ntmps12
    go_wp2_with (go_at_call 29; refine HD.out.1.mono ?_; rintro e w' ⟨rfl, hw⟩; subst w')
    go_ret2
    exact ⟨_, rfl, World.ownsRow_nil _ _ _ _, (Below.refl _ _).alloc (Nat.le_refl _) _⟩
set_option maxRecDepth 20000 in
set_option maxHeartbeats 4000000 in
theorem ivers_ok (ad asv : Option Addr) (b off n m k pd ps pv : Nat) (d s vs y : List Int) (c : Int) (w : World) (rd : Row w .u8 (.slice ad n pd) d) (rs : Row w .u8 (.slice asv m ps) s) (ed : d.length = n) (es : s.length = m) (ek : vs.length = k) (hn : n ≤ 8) (hm : m ≤ 8) (h1 : 1 ≤ k) (h8 : k ≤ 8)
    (hb : b < w.heap.size) (hc : ∀ j, j < k → w.cell? ⟨b, off + j, none⟩ = some (.int .i64 (vs.getD j 0))) (hy : VersOut d s vs y c) :
    Calls Tryz.prog 12 #[.slice ad n pd, .slice asv m ps, .slice (some ⟨b, off, none⟩) k pv] w fun e w' => ∃ r, e = .returned (.tuple #[r, .int .i64 c]) ∧ w'.ownsRow w.heap.size 5 1 r y.length (y.map (Value.int .u8)) ∧ Below w.heap.size w w' := by
  have HP := icids _ [d, s] _ (parts2 rd rs 22) (by simp) (cids2_len d s (by omega) (by omega))
  rw [cids2 n m d s ed es, decide_eq_true ⟨hn, hm⟩] at HP
  have b0 := (Below.refl w.heap.size w).alloc (Nat.le_refl _) (.cells #[.slice ad n pd, .slice asv m ps] 22)
  have HC : Hid _ := And.intro (ilong 128 0 ad asv n m pd ps d s _ (by decide) (by decide) (rd.below b0) (rs.below b0) ed es hn hm) (And.intro b0 HP)
  have hil : (idsV 0 d s).length ≤ 22 := by rw [idsV_length]; omega
  have HH : Hid _ := And.intro hc (And.intro hy (And.intro ek (And.intro True.intro hil)))
  clear rd rs ed es hc hy ek b0 hil HP
  go_enter Tryz.func12, Tryz.ntmps12
  go_wp2_with (go_at_call 29; refine HC.out.2.2.mono ?_; rintro e w' ⟨rfl, hw⟩; subst w')
  go_at_call 30
  refine HC.out.1.mono ?_
  rintro e w2 ⟨q2, rfl, o2, b2⟩
  have H2 : Hid _ := And.intro (owns_mono o2 HC.out.2.1.size) (HC.out.2.1.trans (b2.mono HC.out.2.1.size))
  clear o2 b2
  go_wp2_with fail
  go_loopw [31, 8] (fun i q wr => ∃ t : Nat, t ≤ k ∧ i = .int .i64 (t : Int) ∧ wr.ownsRow w.heap.size 5 1 q (1 + (idsV 0 d s).length + 4 * t) (((128 :: idsV 0 d s) ++ versV (vs.take t)).map (Value.int .u8)) ∧ Below w.heap.size w wr ∧ ∀ j, j < t → vok (vs.getD j 0)) (fun i _ _ => k - (intOf i).toNat)
  case atStart => exact ⟨0, by omega, rfl, by have h := H2.out.1; rw [List.length_cons, Nat.add_comm] at h; simpa [versV] using h, H2.out.2, fun j hj => by omega⟩
  case round =>
    obtain ⟨t, ht, rfl, ow, bw, hv⟩ := hrel
    by_cases hlt : t < k
    · have c0 : wr.cell? ⟨b, off + t, none⟩ = some (.int .i64 (vs.getD t 0)) := (bw.cell (p := ⟨b, off + t, none⟩) hb).trans (HH.out.1 t hlt)
      have H3 : Hid _ := And.intro ow (And.intro bw hv)
      clear ow bw hv
      obtain ⟨v, ev⟩ : ∃ v, v = vs.getD t 0 := ⟨_, rfl⟩
      rw [← ev] at c0
      have EV : Hid _ := ev
      clear ev
      by_cases hok : vok v
      · have hv1 := hok.1
        have hv2 := hok.2
        have hw64 : IntKind.u64.wrap v = v := by rw [IntKind.wrap_u64]; omega
        go_wp2_with (first
          | (go_at_call 28; refine (iVok v _ hok).mono ?_; rintro e w' ⟨rfl, hw⟩; subst w')
          | (go_at_call 41; refine (high v 4 _ (by omega) (by omega) (by decide)).mono ?_; rintro e w4 ⟨r4, rfl, o4, b4⟩; have H4 : Hid _ := And.intro (row_of_owns o4) (And.intro (owns_below H3.out.1 b4) (H3.out.2.1.trans (b4.mono H3.out.2.1.size))); clear o4 b4)
          | (at_builtin; refine wpList_append_row rfl (.tmp 38) (.tmp 41) rfl w.heap.size _ _ _ rfl H4.out.2.1 _ (be v 4) rfl H4.out.1 (by rw [be_length]; have := HH.out.2.2.2.2; omega) H4.out.2.2.size ?_; intro q5 w5 o5 g5; have H5 : Hid _ := And.intro o5 (H4.out.2.2.grown g5 H4.out.2.2.size (fun q hq => (H4.out.2.1.lt q hq).1)); clear o5 g5))
        go_roundw
        case rel =>
          refine ⟨t + 1, by omega, by go_num, ?_, H5.out.2, fun j hj => ?_⟩
          · have := H5.out.1
            rw [be_length, List.append_assoc, EV.out, ← versV_take vs t (by have := HH.out.2.2.1; omega)] at this
            exact this
          · by_cases hjt : j = t
            · subst hjt; rw [← EV.out]; exact hok
            · exact H3.out.2.2 j (by omega)
        case measure => simp [intOf]; omega
      · have hB := HH.out.2.1.bad ⟨t, by have := HH.out.2.2.1; omega, by rw [← EV.out]; exact hok⟩
        obtain ⟨rfl, rfl⟩ := hB
        go_wp2_with (go_at_call 28; refine (iVbad v _ hok).mono ?_; rintro e w' ⟨rfl, hw⟩; subst w')
        go_ret2
        exact ⟨_, rfl, World.ownsRow_nil _ _ _ _, H3.out.2.1⟩
    · obtain rfl : t = k := by omega
      have hG := HH.out.2.1.good (fun j hj => hv j (by have := HH.out.2.2.1; omega))
      obtain ⟨rfl, rfl⟩ := hG
      have el : vs.take t = vs := List.take_of_length_le (by have := HH.out.2.2.1; omega)
      rw [el] at ow
      have H3 : Hid _ := And.intro ow bw
      clear ow bw hv
      go_wp2
      go_ret2
      refine ⟨_, rfl, ?_, H3.out.2⟩
      have := H3.out.1
      have hl : ((128 :: idsV 0 d s) ++ versV vs).length = 1 + (idsV 0 d s).length + 4 * t := by rw [List.length_append, versV_length, HH.out.2.2.1]; simp; omega
      rw [hl]
      exact this
end Go.Proofs.YtoalillggafnpaaGreatDoor

namespace Go.Proofs.YtoalillggafnpaaGreatDoor
open Go.RowKit
set_option linter.unusedVariables false

theorem cids3 (n m k : Nat) (d s o : List Int) (e : d.length = n) (e2 : s.length = m) (e3 : o.length = k) : (decide (∀ j, j < ([d, s, o] : List (List Int)).length → (([d, s, o] : List (List Int)).getD j []).length ≤ 8)) = decide (n ≤ 8 ∧ m ≤ 8 ∧ k ≤ 8) := by
  rw [decide_eq_decide]
  constructor
  · intro h
    have h0 := h 0 (by simp)
    have h1 := h 1 (by simp)
    have h2 := h 2 (by simp)
    simp only [List.getD_cons_zero, List.getD_cons_succ] at h0 h1 h2
    omega
  · intro h j hj
    rcases (show j = 0 ∨ j = 1 ∨ j = 2 by simp at hj; omega) with rfl | rfl | rfl
    · simp only [List.getD_cons_zero]; omega
    · simp only [List.getD_cons_zero, List.getD_cons_succ]; omega
    · simp only [List.getD_cons_zero, List.getD_cons_succ]; omega
theorem cids3_len (d s o : List Int) (h : d.length ≤ 9223372036854775807) (h2 : s.length ≤ 9223372036854775807) (h3 : o.length ≤ 9223372036854775807) (j : Nat) : (([d, s, o] : List (List Int)).getD j []).length ≤ 9223372036854775807 := by
  match j with
  | 0 => exact h
  | 1 => exact h2
  | 2 => exact h3
  | n + 3 => simp [List.getD]
/-- The three ids of a retry packet, behind the header's own box. -/
theorem icids3 (b : Obj) (a2 a3 ao : Option Addr) (nd ns no p2 p3 po : Nat) (xd xs o : List Int) (w : World) (r2 : Row w .u8 (.slice a2 nd p2) xd) (r3 : Row w .u8 (.slice a3 ns p3) xs) (ro : Row w .u8 (.slice ao no po) o) (ed : xd.length = nd) (es : xs.length = ns) (eo : o.length = no) (hnd : nd ≤ 9223372036854775807) (hns : ns ≤ 9223372036854775807) (hno : no ≤ 9223372036854775807) :
    Calls Tryz.prog 29 #[.slice (some ⟨w.heap.size + 1, 0, none⟩) 3 3] ((w.alloc b).alloc (.cells #[.slice a2 nd p2, .slice a3 ns p3, .slice ao no po] 22)) fun e w' => e = .returned (.bool (decide (nd ≤ 8 ∧ ns ≤ 8 ∧ no ≤ 8))) ∧ w' = ((w.alloc b).alloc (.cells #[.slice a2 nd p2, .slice a3 ns p3, .slice ao no po] 22)) := by
  have B0 := (Below.refl w.heap.size w).alloc (Nat.le_refl _) b
  have hs : (w.alloc b).heap.size = w.heap.size + 1 := by simp
  have HP := parts3 22 (r2.below B0) (r3.below B0) (ro.below B0)
  rw [hs] at HP
  have C := icids _ [xd, xs, o] _ HP (by simp) (cids3_len xd xs o (by omega) (by omega) (by omega))
  rw [cids3 nd ns no xd xs o ed es eo] at C
  exact C
set_option maxRecDepth 20000 in
set_option maxHeartbeats 1000000 in
theorem retI_bad_f (xf xv xn xl xp : Int) (a2 a3 a4 ao : Option Addr) (nd ns nt no p2 p3 p4 po : Nat) (xd xs o : List Int) (w : World) (r2 : Row w .u8 (.slice a2 nd p2) xd) (r3 : Row w .u8 (.slice a3 ns p3) xs) (ro : Row w .u8 (.slice ao no po) o) (ed : xd.length = nd) (es : xs.length = ns) (eo : o.length = no) (hnd : nd ≤ 9223372036854775807) (hns : ns ≤ 9223372036854775807) (hnt : nt ≤ 9223372036854775807) (hno : no ≤ 9223372036854775807)  (bf : xf ≠ 3) :
    Calls Tryz.prog 5 #[.agg #[.int .i64 xf, .int .i64 xv, .slice a2 nd p2, .slice a3 ns p3, .slice a4 nt p4, .int .i64 xn, .int .i64 xl, .int .i64 xp], .slice ao no po] w fun e w' => ∃ r, e = .returned (.tuple #[r, .int .i64 1]) ∧ w'.ownsRow w.heap.size 5 1 r 0 (([] : List Int).map (Value.int .u8)) ∧ Below w.heap.size w w' := by
  have hne : (xf != 3) = true := by simp; omega
  have B0 := (Below.refl w.heap.size w).alloc (Nat.le_refl _) (.cells #[.int .i64 xf, .int .i64 xv, .slice a2 nd p2, .slice a3 ns p3, .slice a4 nt p4, .int .i64 xn, .int .i64 xl, .int .i64 xp] 24)
  have HC : Hid _ := And.intro True.intro B0
  clear B0 r2 r3 ro ed es eo
  go_enter Tryz.func5, Tryz.ntmps5
  go_wp2
  go_ret2
  exact ⟨_, rfl, World.ownsRow_nil _ _ _ _, HC.out.2⟩
set_option maxRecDepth 20000 in
set_option maxHeartbeats 1000000 in
theorem retI_bad_v (xf xv xn xl xp : Int) (a2 a3 a4 ao : Option Addr) (nd ns nt no p2 p3 p4 po : Nat) (xd xs o : List Int) (w : World) (r2 : Row w .u8 (.slice a2 nd p2) xd) (r3 : Row w .u8 (.slice a3 ns p3) xs) (ro : Row w .u8 (.slice ao no po) o) (ed : xd.length = nd) (es : xs.length = ns) (eo : o.length = no) (hnd : nd ≤ 9223372036854775807) (hns : ns ≤ 9223372036854775807) (hnt : nt ≤ 9223372036854775807) (hno : no ≤ 9223372036854775807) (gf : xf = 3) (bv : ¬ vok xv) :
    Calls Tryz.prog 5 #[.agg #[.int .i64 xf, .int .i64 xv, .slice a2 nd p2, .slice a3 ns p3, .slice a4 nt p4, .int .i64 xn, .int .i64 xl, .int .i64 xp], .slice ao no po] w fun e w' => ∃ r, e = .returned (.tuple #[r, .int .i64 1]) ∧ w'.ownsRow w.heap.size 5 1 r 0 (([] : List Int).map (Value.int .u8)) ∧ Below w.heap.size w w' := by
  subst gf
  have B0 := (Below.refl w.heap.size w).alloc (Nat.le_refl _) (.cells #[.int .i64 3, .int .i64 xv, .slice a2 nd p2, .slice a3 ns p3, .slice a4 nt p4, .int .i64 xn, .int .i64 xl, .int .i64 xp] 24)
  have HC : Hid _ := And.intro True.intro B0
  clear B0 r2 r3 ro ed es eo
  go_enter Tryz.func5, Tryz.ntmps5
  go_wp2_with (go_at_call 28; refine (iVbad xv _ bv).mono ?_; rintro e w' ⟨rfl, hw⟩; subst w')
  go_ret2
  exact ⟨_, rfl, World.ownsRow_nil _ _ _ _, HC.out.2⟩
set_option maxRecDepth 20000 in
set_option maxHeartbeats 1000000 in
theorem retI_bad_c (xf xv xn xl xp : Int) (a2 a3 a4 ao : Option Addr) (nd ns nt no p2 p3 p4 po : Nat) (xd xs o : List Int) (w : World) (r2 : Row w .u8 (.slice a2 nd p2) xd) (r3 : Row w .u8 (.slice a3 ns p3) xs) (ro : Row w .u8 (.slice ao no po) o) (ed : xd.length = nd) (es : xs.length = ns) (eo : o.length = no) (hnd : nd ≤ 9223372036854775807) (hns : ns ≤ 9223372036854775807) (hnt : nt ≤ 9223372036854775807) (hno : no ≤ 9223372036854775807) (gf : xf = 3) (gv : vok xv) (bc : ¬ (nd ≤ 8 ∧ ns ≤ 8 ∧ no ≤ 8)) :
    Calls Tryz.prog 5 #[.agg #[.int .i64 xf, .int .i64 xv, .slice a2 nd p2, .slice a3 ns p3, .slice a4 nt p4, .int .i64 xn, .int .i64 xl, .int .i64 xp], .slice ao no po] w fun e w' => ∃ r, e = .returned (.tuple #[r, .int .i64 1]) ∧ w'.ownsRow w.heap.size 5 1 r 0 (([] : List Int).map (Value.int .u8)) ∧ Below w.heap.size w w' := by
  subst gf
  have B0 := (Below.refl w.heap.size w).alloc (Nat.le_refl _) (.cells #[.int .i64 3, .int .i64 xv, .slice a2 nd p2, .slice a3 ns p3, .slice a4 nt p4, .int .i64 xn, .int .i64 xl, .int .i64 xp] 24)
  have CC := icids3 (.cells #[.int .i64 3, .int .i64 xv, .slice a2 nd p2, .slice a3 ns p3, .slice a4 nt p4, .int .i64 xn, .int .i64 xl, .int .i64 xp] 24) a2 a3 ao nd ns no p2 p3 po xd xs o w r2 r3 ro ed es eo hnd hns hno
  rw [decide_eq_false bc] at CC
  have HC : Hid _ := And.intro CC (B0.alloc B0.size (.cells #[.slice a2 nd p2, .slice a3 ns p3, .slice ao no po] 22))
  clear CC
  clear B0 r2 r3 ro ed es eo
  go_enter Tryz.func5, Tryz.ntmps5
  go_wp2_with (first
    | (go_at_call 28; refine (iVok xv _ gv).mono ?_; rintro e w' ⟨rfl, hw⟩; subst w')
    | (go_at_call 29; refine HC.out.1.mono ?_; rintro e w' ⟨rfl, hw⟩; subst w'))
  go_ret2
  exact ⟨_, rfl, World.ownsRow_nil _ _ _ _, HC.out.2⟩
set_option maxRecDepth 20000 in
set_option maxHeartbeats 1000000 in
theorem retI_bad_t1 (xf xv xn xl xp : Int) (a2 a3 a4 ao : Option Addr) (nd ns nt no p2 p3 p4 po : Nat) (xd xs o : List Int) (w : World) (r2 : Row w .u8 (.slice a2 nd p2) xd) (r3 : Row w .u8 (.slice a3 ns p3) xs) (ro : Row w .u8 (.slice ao no po) o) (ed : xd.length = nd) (es : xs.length = ns) (eo : o.length = no) (hnd : nd ≤ 9223372036854775807) (hns : ns ≤ 9223372036854775807) (hnt : nt ≤ 9223372036854775807) (hno : no ≤ 9223372036854775807) (gf : xf = 3) (gv : vok xv) (gc : nd ≤ 8 ∧ ns ≤ 8 ∧ no ≤ 8) (bt1 : nt < 1) :
    Calls Tryz.prog 5 #[.agg #[.int .i64 xf, .int .i64 xv, .slice a2 nd p2, .slice a3 ns p3, .slice a4 nt p4, .int .i64 xn, .int .i64 xl, .int .i64 xp], .slice ao no po] w fun e w' => ∃ r, e = .returned (.tuple #[r, .int .i64 1]) ∧ w'.ownsRow w.heap.size 5 1 r 0 (([] : List Int).map (Value.int .u8)) ∧ Below w.heap.size w w' := by
  subst gf
  have B0 := (Below.refl w.heap.size w).alloc (Nat.le_refl _) (.cells #[.int .i64 3, .int .i64 xv, .slice a2 nd p2, .slice a3 ns p3, .slice a4 nt p4, .int .i64 xn, .int .i64 xl, .int .i64 xp] 24)
  have CC := icids3 (.cells #[.int .i64 3, .int .i64 xv, .slice a2 nd p2, .slice a3 ns p3, .slice a4 nt p4, .int .i64 xn, .int .i64 xl, .int .i64 xp] 24) a2 a3 ao nd ns no p2 p3 po xd xs o w r2 r3 ro ed es eo hnd hns hno
  rw [decide_eq_true gc] at CC
  have HC : Hid _ := And.intro CC (B0.alloc B0.size (.cells #[.slice a2 nd p2, .slice a3 ns p3, .slice ao no po] 22))
  clear CC
  clear B0 r2 r3 ro ed es eo
  go_enter Tryz.func5, Tryz.ntmps5
  go_wp2_with (first
    | (go_at_call 28; refine (iVok xv _ gv).mono ?_; rintro e w' ⟨rfl, hw⟩; subst w')
    | (go_at_call 29; refine HC.out.1.mono ?_; rintro e w' ⟨rfl, hw⟩; subst w'))
  go_ret2
  exact ⟨_, rfl, World.ownsRow_nil _ _ _ _, HC.out.2⟩
set_option maxRecDepth 20000 in
set_option maxHeartbeats 1000000 in
theorem retI_bad_t2 (xf xv xn xl xp : Int) (a2 a3 a4 ao : Option Addr) (nd ns nt no p2 p3 p4 po : Nat) (xd xs o : List Int) (w : World) (r2 : Row w .u8 (.slice a2 nd p2) xd) (r3 : Row w .u8 (.slice a3 ns p3) xs) (ro : Row w .u8 (.slice ao no po) o) (ed : xd.length = nd) (es : xs.length = ns) (eo : o.length = no) (hnd : nd ≤ 9223372036854775807) (hns : ns ≤ 9223372036854775807) (hnt : nt ≤ 9223372036854775807) (hno : no ≤ 9223372036854775807) (gf : xf = 3) (gv : vok xv) (gc : nd ≤ 8 ∧ ns ≤ 8 ∧ no ≤ 8) (gt1 : 1 ≤ nt) (bt2 : 64 < nt) :
    Calls Tryz.prog 5 #[.agg #[.int .i64 xf, .int .i64 xv, .slice a2 nd p2, .slice a3 ns p3, .slice a4 nt p4, .int .i64 xn, .int .i64 xl, .int .i64 xp], .slice ao no po] w fun e w' => ∃ r, e = .returned (.tuple #[r, .int .i64 1]) ∧ w'.ownsRow w.heap.size 5 1 r 0 (([] : List Int).map (Value.int .u8)) ∧ Below w.heap.size w w' := by
  subst gf
  have B0 := (Below.refl w.heap.size w).alloc (Nat.le_refl _) (.cells #[.int .i64 3, .int .i64 xv, .slice a2 nd p2, .slice a3 ns p3, .slice a4 nt p4, .int .i64 xn, .int .i64 xl, .int .i64 xp] 24)
  have CC := icids3 (.cells #[.int .i64 3, .int .i64 xv, .slice a2 nd p2, .slice a3 ns p3, .slice a4 nt p4, .int .i64 xn, .int .i64 xl, .int .i64 xp] 24) a2 a3 ao nd ns no p2 p3 po xd xs o w r2 r3 ro ed es eo hnd hns hno
  rw [decide_eq_true gc] at CC
  have HC : Hid _ := And.intro CC (B0.alloc B0.size (.cells #[.slice a2 nd p2, .slice a3 ns p3, .slice ao no po] 22))
  clear CC
  clear B0 r2 r3 ro ed es eo
  go_enter Tryz.func5, Tryz.ntmps5
  go_wp2_with (first
    | (go_at_call 28; refine (iVok xv _ gv).mono ?_; rintro e w' ⟨rfl, hw⟩; subst w')
    | (go_at_call 29; refine HC.out.1.mono ?_; rintro e w' ⟨rfl, hw⟩; subst w'))
  go_ret2
  exact ⟨_, rfl, World.ownsRow_nil _ _ _ _, HC.out.2⟩
set_option maxRecDepth 20000 in
set_option maxHeartbeats 1000000 in
theorem retI_bad_n (xf xv xn xl xp : Int) (a2 a3 a4 ao : Option Addr) (nd ns nt no p2 p3 p4 po : Nat) (xd xs o : List Int) (w : World) (r2 : Row w .u8 (.slice a2 nd p2) xd) (r3 : Row w .u8 (.slice a3 ns p3) xs) (ro : Row w .u8 (.slice ao no po) o) (ed : xd.length = nd) (es : xs.length = ns) (eo : o.length = no) (hnd : nd ≤ 9223372036854775807) (hns : ns ≤ 9223372036854775807) (hnt : nt ≤ 9223372036854775807) (hno : no ≤ 9223372036854775807) (gf : xf = 3) (gv : vok xv) (gc : nd ≤ 8 ∧ ns ≤ 8 ∧ no ≤ 8) (gt1 : 1 ≤ nt) (gt2 : nt ≤ 64) (bn : xn ≠ 0) :
    Calls Tryz.prog 5 #[.agg #[.int .i64 xf, .int .i64 xv, .slice a2 nd p2, .slice a3 ns p3, .slice a4 nt p4, .int .i64 xn, .int .i64 xl, .int .i64 xp], .slice ao no po] w fun e w' => ∃ r, e = .returned (.tuple #[r, .int .i64 1]) ∧ w'.ownsRow w.heap.size 5 1 r 0 (([] : List Int).map (Value.int .u8)) ∧ Below w.heap.size w w' := by
  subst gf
  have hne : (xn != 0) = true := by simp; omega
  have B0 := (Below.refl w.heap.size w).alloc (Nat.le_refl _) (.cells #[.int .i64 3, .int .i64 xv, .slice a2 nd p2, .slice a3 ns p3, .slice a4 nt p4, .int .i64 xn, .int .i64 xl, .int .i64 xp] 24)
  have CC := icids3 (.cells #[.int .i64 3, .int .i64 xv, .slice a2 nd p2, .slice a3 ns p3, .slice a4 nt p4, .int .i64 xn, .int .i64 xl, .int .i64 xp] 24) a2 a3 ao nd ns no p2 p3 po xd xs o w r2 r3 ro ed es eo hnd hns hno
  rw [decide_eq_true gc] at CC
  have HC : Hid _ := And.intro CC (B0.alloc B0.size (.cells #[.slice a2 nd p2, .slice a3 ns p3, .slice ao no po] 22))
  clear CC
  clear B0 r2 r3 ro ed es eo
  go_enter Tryz.func5, Tryz.ntmps5
  go_wp2_with (first
    | (go_at_call 28; refine (iVok xv _ gv).mono ?_; rintro e w' ⟨rfl, hw⟩; subst w')
    | (go_at_call 29; refine HC.out.1.mono ?_; rintro e w' ⟨rfl, hw⟩; subst w'))
  go_ret2
  exact ⟨_, rfl, World.ownsRow_nil _ _ _ _, HC.out.2⟩
set_option maxRecDepth 20000 in
set_option maxHeartbeats 1000000 in
theorem retI_bad_l (xf xv xn xl xp : Int) (a2 a3 a4 ao : Option Addr) (nd ns nt no p2 p3 p4 po : Nat) (xd xs o : List Int) (w : World) (r2 : Row w .u8 (.slice a2 nd p2) xd) (r3 : Row w .u8 (.slice a3 ns p3) xs) (ro : Row w .u8 (.slice ao no po) o) (ed : xd.length = nd) (es : xs.length = ns) (eo : o.length = no) (hnd : nd ≤ 9223372036854775807) (hns : ns ≤ 9223372036854775807) (hnt : nt ≤ 9223372036854775807) (hno : no ≤ 9223372036854775807) (gf : xf = 3) (gv : vok xv) (gc : nd ≤ 8 ∧ ns ≤ 8 ∧ no ≤ 8) (gt1 : 1 ≤ nt) (gt2 : nt ≤ 64) (gn : xn = 0) (bl : xl ≠ 0) :
    Calls Tryz.prog 5 #[.agg #[.int .i64 xf, .int .i64 xv, .slice a2 nd p2, .slice a3 ns p3, .slice a4 nt p4, .int .i64 xn, .int .i64 xl, .int .i64 xp], .slice ao no po] w fun e w' => ∃ r, e = .returned (.tuple #[r, .int .i64 1]) ∧ w'.ownsRow w.heap.size 5 1 r 0 (([] : List Int).map (Value.int .u8)) ∧ Below w.heap.size w w' := by
  subst gf
  subst gn
  have hne : (xl != 0) = true := by simp; omega
  have B0 := (Below.refl w.heap.size w).alloc (Nat.le_refl _) (.cells #[.int .i64 3, .int .i64 xv, .slice a2 nd p2, .slice a3 ns p3, .slice a4 nt p4, .int .i64 0, .int .i64 xl, .int .i64 xp] 24)
  have CC := icids3 (.cells #[.int .i64 3, .int .i64 xv, .slice a2 nd p2, .slice a3 ns p3, .slice a4 nt p4, .int .i64 0, .int .i64 xl, .int .i64 xp] 24) a2 a3 ao nd ns no p2 p3 po xd xs o w r2 r3 ro ed es eo hnd hns hno
  rw [decide_eq_true gc] at CC
  have HC : Hid _ := And.intro CC (B0.alloc B0.size (.cells #[.slice a2 nd p2, .slice a3 ns p3, .slice ao no po] 22))
  clear CC
  clear B0 r2 r3 ro ed es eo
  go_enter Tryz.func5, Tryz.ntmps5
  go_wp2_with (first
    | (go_at_call 28; refine (iVok xv _ gv).mono ?_; rintro e w' ⟨rfl, hw⟩; subst w')
    | (go_at_call 29; refine HC.out.1.mono ?_; rintro e w' ⟨rfl, hw⟩; subst w'))
  go_ret2
  exact ⟨_, rfl, World.ownsRow_nil _ _ _ _, HC.out.2⟩
set_option maxRecDepth 20000 in
set_option maxHeartbeats 1000000 in
theorem retI_bad_p (xf xv xn xl xp : Int) (a2 a3 a4 ao : Option Addr) (nd ns nt no p2 p3 p4 po : Nat) (xd xs o : List Int) (w : World) (r2 : Row w .u8 (.slice a2 nd p2) xd) (r3 : Row w .u8 (.slice a3 ns p3) xs) (ro : Row w .u8 (.slice ao no po) o) (ed : xd.length = nd) (es : xs.length = ns) (eo : o.length = no) (hnd : nd ≤ 9223372036854775807) (hns : ns ≤ 9223372036854775807) (hnt : nt ≤ 9223372036854775807) (hno : no ≤ 9223372036854775807) (gf : xf = 3) (gv : vok xv) (gc : nd ≤ 8 ∧ ns ≤ 8 ∧ no ≤ 8) (gt1 : 1 ≤ nt) (gt2 : nt ≤ 64) (gn : xn = 0) (gl : xl = 0) (bp : xp ≠ 0) :
    Calls Tryz.prog 5 #[.agg #[.int .i64 xf, .int .i64 xv, .slice a2 nd p2, .slice a3 ns p3, .slice a4 nt p4, .int .i64 xn, .int .i64 xl, .int .i64 xp], .slice ao no po] w fun e w' => ∃ r, e = .returned (.tuple #[r, .int .i64 1]) ∧ w'.ownsRow w.heap.size 5 1 r 0 (([] : List Int).map (Value.int .u8)) ∧ Below w.heap.size w w' := by
  subst gf
  subst gn
  subst gl
  have hne : (xp != 0) = true := by simp; omega
  have B0 := (Below.refl w.heap.size w).alloc (Nat.le_refl _) (.cells #[.int .i64 3, .int .i64 xv, .slice a2 nd p2, .slice a3 ns p3, .slice a4 nt p4, .int .i64 0, .int .i64 0, .int .i64 xp] 24)
  have CC := icids3 (.cells #[.int .i64 3, .int .i64 xv, .slice a2 nd p2, .slice a3 ns p3, .slice a4 nt p4, .int .i64 0, .int .i64 0, .int .i64 xp] 24) a2 a3 ao nd ns no p2 p3 po xd xs o w r2 r3 ro ed es eo hnd hns hno
  rw [decide_eq_true gc] at CC
  have HC : Hid _ := And.intro CC (B0.alloc B0.size (.cells #[.slice a2 nd p2, .slice a3 ns p3, .slice ao no po] 22))
  clear CC
  clear B0 r2 r3 ro ed es eo
  go_enter Tryz.func5, Tryz.ntmps5
  go_wp2_with (first
    | (go_at_call 28; refine (iVok xv _ gv).mono ?_; rintro e w' ⟨rfl, hw⟩; subst w')
    | (go_at_call 29; refine HC.out.1.mono ?_; rintro e w' ⟨rfl, hw⟩; subst w'))
  go_ret2
  exact ⟨_, rfl, World.ownsRow_nil _ _ _ _, HC.out.2⟩
theorem retI_bad (v : Value) (h : H8) (ao : Option Addr) (po : Nat) (o : List Int) (w : World) (hr : HRow w v h) (hs : h.small 9223372036854775807) (ro : Row w .u8 (.slice ao o.length po) o) (ho : o.length ≤ 9223372036854775807) (hb : ¬ rok h o) :
    Calls Tryz.prog 5 #[v, .slice ao o.length po] w fun e w' => ∃ r, e = .returned (.tuple #[r, .int .i64 1]) ∧ w'.ownsRow w.heap.size 5 1 r 0 (([] : List Int).map (Value.int .u8)) ∧ Below w.heap.size w w' := by
  obtain ⟨xf, xv, xd, xs, xt, xn, xl, xp⟩ := h
  obtain ⟨v2, v3, v4, rfl, r2, r3, r4⟩ := hr
  obtain ⟨a2, p2, rfl⟩ := r2.form
  obtain ⟨a3, p3, rfl⟩ := r3.form
  obtain ⟨a4, p4, rfl⟩ := r4.form
  obtain ⟨s0, s1, s2⟩ := hs
  unfold rok at hb
  dsimp only at *
  by_cases gf : xf = 3
  rotate_left
  · exact retI_bad_f xf xv xn xl xp a2 a3 a4 ao _ _ _ _ p2 p3 p4 po xd xs o w r2 r3 ro rfl rfl rfl s0 s1 s2 ho  gf
  by_cases gv : vok xv
  rotate_left
  · exact retI_bad_v xf xv xn xl xp a2 a3 a4 ao _ _ _ _ p2 p3 p4 po xd xs o w r2 r3 ro rfl rfl rfl s0 s1 s2 ho gf gv
  by_cases gc : xd.length ≤ 8 ∧ xs.length ≤ 8 ∧ o.length ≤ 8
  rotate_left
  · exact retI_bad_c xf xv xn xl xp a2 a3 a4 ao _ _ _ _ p2 p3 p4 po xd xs o w r2 r3 ro rfl rfl rfl s0 s1 s2 ho gf gv gc
  by_cases gt1 : 1 ≤ xt.length
  rotate_left
  · exact retI_bad_t1 xf xv xn xl xp a2 a3 a4 ao _ _ _ _ p2 p3 p4 po xd xs o w r2 r3 ro rfl rfl rfl s0 s1 s2 ho gf gv gc (by omega)
  by_cases gt2 : xt.length ≤ 64
  rotate_left
  · exact retI_bad_t2 xf xv xn xl xp a2 a3 a4 ao _ _ _ _ p2 p3 p4 po xd xs o w r2 r3 ro rfl rfl rfl s0 s1 s2 ho gf gv gc gt1 (by omega)
  by_cases gn : xn = 0
  rotate_left
  · exact retI_bad_n xf xv xn xl xp a2 a3 a4 ao _ _ _ _ p2 p3 p4 po xd xs o w r2 r3 ro rfl rfl rfl s0 s1 s2 ho gf gv gc gt1 gt2 gn
  by_cases gl : xl = 0
  rotate_left
  · exact retI_bad_l xf xv xn xl xp a2 a3 a4 ao _ _ _ _ p2 p3 p4 po xd xs o w r2 r3 ro rfl rfl rfl s0 s1 s2 ho gf gv gc gt1 gt2 gn gl
  by_cases gp : xp = 0
  · exact absurd ⟨gf, gv, gc.1, gc.2.1, gt1, gt2, gn, gl, gp, gc.2.2⟩ hb
  · exact retI_bad_p xf xv xn xl xp a2 a3 a4 ao _ _ _ _ p2 p3 p4 po xd xs o w r2 r3 ro rfl rfl rfl s0 s1 s2 ho gf gv gc gt1 gt2 gn gl gp
end Go.Proofs.YtoalillggafnpaaGreatDoor

namespace Go.Proofs.YtoalillggafnpaaGreatDoor
open Go.RowKit
set_option linter.unusedVariables false
set_option linter.unusedSimpArgs false

theorem name_any {P : Program} {md : Region.Mode} {ops : Array Oper} {Q : Exit → Act → World → Prop} {fuel : Nat} {listed : Array Bool} {a : Act} {w : World}
    (h : ∀ (M : Region.Mode) (O : Array Oper) (Q0 : Exit → Act → World → Prop) (a0 : Act), M = md → O = ops → Q0 = Q → a0 = a → wpAny P M O Q0 fuel listed a0 w) : wpAny P md ops Q fuel listed a w := h _ _ _ _ rfl rfl rfl rfl
theorem any_cast {P : Program} {md : Region.Mode} {ops : Array Oper} {Q : Exit → Act → World → Prop} {fuel : Nat} {l l' : Array Bool} {a a' : Act} {w : World} (hl : l' = l) (ha : a' = a) (h : wpAny P md ops Q fuel l a w) : wpAny P md ops Q fuel l' a' w := by
  subst hl ha; exact h
theorem step_any {ops : Array Oper} {o : Oper} {a : Act} {w : World} {K : Act → World → Prop} {Q : Exit → Act → World → Prop} {E : Prop} (hgd : o.guard = none) (h : Oper.wp Tryz.prog o a w K Q) :
    if Region.wanted o (yielded ops a.tmps) = true then Oper.wp Tryz.prog o a w K Q else E := by
  have hw : Region.wanted o (yielded ops a.tmps) = true := by simp [Region.wanted, hgd]
  rw [if_pos hw]
  exact h
theorem wp_first {o : Oper} {a : Act} {w : World} {K : Act → World → Prop} {Q : Exit → Act → World → Prop} (d : Tmp) (hd : o.dst = some d) (ts : Array TypeId)
    (ho : o.op = .call { callee := .value (.func 31), args := #[.const (.int .i64 3)], argTypes := ts }) {R : Ending → World → Prop} (hc : Calls Tryz.prog 31 #[.int .i64 3] w R) (hK : ∀ e w', R e w' → ∃ v, e = .returned v ∧ K (a.put (some d) v) w') : Oper.wp Tryz.prog o a w K Q := by
  obtain ⟨dst, op, ty, pos, after, guard⟩ := o
  simp only at hd ho
  subst hd ho
  go_simp
  refine hc.mono ?_
  intro e w' h
  obtain ⟨v, rfl, hk⟩ := hK e w' h
  exact hk
set_option maxRecDepth 20000 in
theorem wp_long {o : Oper} {a : Act} {w : World} {K : Act → World → Prop} {Q : Exit → Act → World → Prop} (d : Tmp) (hd : o.dst = some d) (ts : Array TypeId) (i j k l : Tmp) (x y z u : Value) (hi : a.tmps[i]?.getD undef = x) (hj : a.tmps[j]?.getD undef = y) (hk : a.tmps[k]?.getD undef = z) (hl : a.tmps[l]?.getD undef = u)
    (ho : o.op = .call { callee := .value (.func 30), args := #[.tmp i, .tmp j, .tmp k, .tmp l], argTypes := ts }) {R : Ending → World → Prop} (hc : Calls Tryz.prog 30 #[x, y, z, u] w R) (hK : ∀ e w', R e w' → ∃ v, e = .returned v ∧ K (a.put (some d) v) w') : Oper.wp Tryz.prog o a w K Q := by
  obtain ⟨dst, op, ty, pos, after, guard⟩ := o
  simp only at hd ho
  subst hd ho
  go_simp
  refine hc.mono ?_
  intro e w' h
  obtain ⟨v, rfl, hk⟩ := hK e w' h
  exact hk
theorem wp_loadi {o : Oper} {a : Act} {w : World} {K : Act → World → Prop} {Q : Exit → Act → World → Prop} (x : Tmp) (d : Tmp) (hd : o.dst = some d) (ho : o.op = .load 3 (.tmp x)) (g i : Nat) (hx : a.tmps[x]?.getD undef = .pointer (some ⟨g, i, none⟩)) (v : Value) (hc : w.cell? ⟨g, i, none⟩ = some v)
    (hK : K (a.put (some d) v) w) : Oper.wp Tryz.prog o a w K Q := by
  obtain ⟨dst, op, ty, pos, after, guard⟩ := o
  simp only at hd ho
  subst hd ho
  go_simp
  exact hK
theorem wp_loadb {o : Oper} {a : Act} {w : World} {K : Act → World → Prop} {Q : Exit → Act → World → Prop} (x : Tmp) (d : Tmp) (hd : o.dst = some d) (ho : o.op = .load 22 (.tmp x)) (g i : Nat) (hx : a.tmps[x]?.getD undef = .pointer (some ⟨g, i, none⟩)) (v : Value) (hc : w.cell? ⟨g, i, none⟩ = some v)
    (hK : K (a.put (some d) v) w) : Oper.wp Tryz.prog o a w K Q := by
  obtain ⟨dst, op, ty, pos, after, guard⟩ := o
  simp only at hd ho
  subst hd ho
  go_simp
  exact hK
theorem wp_assign {o : Oper} {a : Act} {w : World} {K : Act → World → Prop} {Q : Exit → Act → World → Prop} (x : Tmp) (d : Tmp) (hd : o.dst = some d) (ho : o.op = .assign (.tmp x)) (v : Value) (hx : a.tmps[x]?.getD undef = v)
    (hK : K (a.put (some d) v) w) : Oper.wp Tryz.prog o a w K Q := by
  obtain ⟨dst, op, ty, pos, after, guard⟩ := o
  simp only at hd ho
  subst hd ho
  go_simp
  exact hK
theorem wp_app {o : Oper} {a : Act} {w : World} {K : Act → World → Prop} {Q : Exit → Act → World → Prop} {d : Tmp} {x y : Tmp} (hd : o.dst = some d)
    (ho : o.op = .call { callee := .builtin .append, args := #[.tmp x, .tmp y], argTypes := #[22, 22] })
    (base : Nat) (v : Value) (n : Nat) (xs : List Int) (hp : a.tmps[x]?.getD undef = v) (hown : w.ownsRow base 5 1 v n (xs.map (Value.int .u8)))
    (v2 : Value) (ys : List Int) (hq : a.tmps[y]?.getD undef = v2) (hrow : Row w .u8 v2 ys) (h63 : n + ys.length ≤ 140737488355328) (hbase : base ≤ w.heap.size)
    (h : ∀ v' w', w'.ownsRow base 5 1 v' (n + ys.length) ((xs ++ ys).map (Value.int .u8)) → w.grownBy w' v.ownBlock → K (a.put (some d) v') w') : Oper.wp Tryz.prog o a w K Q := by
  obtain ⟨v', w', hr, h2, h3⟩ := run_append_row o.type base v n xs hown v2 ys hrow h63 hbase
  have e1 : a.eval (.tmp x) = v := by rw [← hp]; simp [Act.eval]
  have e2 : a.eval (.tmp y) = v2 := by rw [← hq]; simp [Act.eval]
  unfold Oper.wp execOp
  simp only [ho, resolve, invoke, builtin, Sem.run_bind, Sem.run_pure, Result.andThen_ok, List.map_toArray, List.map_cons, List.map_nil, e1, e2, hr]
  rw [Oper.upon_value, hd]
  exact h v' w' h2 h3
theorem put_comm {a : Act} {x y : Value} (i j : Nat) (h : i ≠ j) : (a.put (some i) x).put (some j) y = (a.put (some j) y).put (some i) x := by
  simp only [Act.put]
  congr 1
  exact Array.setIfInBounds_comm _ _ h
theorem get_ne {a : Act} {x : Value} {i j : Nat} (h : i ≠ j) : (a.put (some i) x).tmps[j]?.getD undef = a.tmps[j]?.getD undef := by
  simp [Act.put, Array.getElem?_setIfInBounds, h]
theorem get_eq {a : Act} {x : Value} {i : Nat} (h : i < a.tmps.size) : (a.put (some i) x).tmps[i]?.getD undef = x := by
  simp [Act.put, Array.getElem?_setIfInBounds, h]
theorem put_size {a : Act} {x : Value} {i : Nat} : (a.put (some i) x).tmps.size = a.tmps.size := by
  simp [Act.put]
theorem put_lit9 (l : List Value) (d : Nat) (v : Value) (ds : List _) : ({ tmps := l.toArray, defers := ds } : Act).put (some d) v = { tmps := (l.set d v).toArray, defers := ds } := by
  simp [Act.put]
end Go.Proofs.YtoalillggafnpaaGreatDoor

namespace Go.Proofs.YtoalillggafnpaaGreatDoor
open Go.RowKit
set_option linter.unusedVariables false

set_option maxRecDepth 20000 in
set_option maxHeartbeats 8000000 in
theorem retI_core (xv : Int) (a2 a3 a4 ao : Option Addr) (nd ns nt no p2 p3 p4 po : Nat) (xd xs xt o : List Int) (w : World) (tb : TabL w) (r2 : Row w .u8 (.slice a2 nd p2) xd) (r3 : Row w .u8 (.slice a3 ns p3) xs) (r4 : Row w .u8 (.slice a4 nt p4) xt) (ro : Row w .u8 (.slice ao no po) o)
    (ed : xd.length = nd) (es : xs.length = ns) (et : xt.length = nt) (eo : o.length = no) (gv : vok xv) (gd : nd ≤ 8) (gs : ns ≤ 8) (g1 : 1 ≤ nt) (g2 : nt ≤ 64) (go : no ≤ 8) (bo : Bytes o) (bO : Bytes (([240] ++ idsV xv xd xs) ++ xt)) :
    Calls Tryz.prog 5 #[.agg #[.int .i64 3, .int .i64 xv, .slice a2 nd p2, .slice a3 ns p3, .slice a4 nt p4, .int .i64 0, .int .i64 0, .int .i64 0], .slice ao no po] w fun e w' => ∃ r, e = .returned (.tuple #[r, .int .i64 0]) ∧ w'.ownsRow w.heap.size 5 1 r (((([240] ++ idsV xv xd xs) ++ xt) ++ retV o (([240] ++ idsV xv xd xs) ++ xt)).length) (((([240] ++ idsV xv xd xs) ++ xt) ++ retV o (([240] ++ idsV xv xd xs) ++ xt)).map (Value.int .u8)) ∧ Below w.heap.size w w' := by
  have B0 := (Below.refl w.heap.size w).alloc (Nat.le_refl _) (.cells #[.int .i64 3, .int .i64 xv, .slice a2 nd p2, .slice a3 ns p3, .slice a4 nt p4, .int .i64 0, .int .i64 0, .int .i64 0] 24)
  have B1 := B0.alloc B0.size (.cells #[.slice a2 nd p2, .slice a3 ns p3, .slice ao no po] 22)
  have CC := icids3 (.cells #[.int .i64 3, .int .i64 xv, .slice a2 nd p2, .slice a3 ns p3, .slice a4 nt p4, .int .i64 0, .int .i64 0, .int .i64 0] 24) a2 a3 ao nd ns no p2 p3 po xd xs o w r2 r3 ro ed es eo (by omega) (by omega) (by omega)
  rw [decide_eq_true ⟨gd, gs, go⟩] at CC
  have s1 : (w.alloc (.cells #[.int .i64 3, .int .i64 xv, .slice a2 nd p2, .slice a3 ns p3, .slice a4 nt p4, .int .i64 0, .int .i64 0, .int .i64 0] 24)).heap.size = w.heap.size + 1 := by simp
  have s2 : ((w.alloc (.cells #[.int .i64 3, .int .i64 xv, .slice a2 nd p2, .slice a3 ns p3, .slice a4 nt p4, .int .i64 0, .int .i64 0, .int .i64 0] 24)).alloc (.cells #[.slice a2 nd p2, .slice a3 ns p3, .slice ao no po] 22)).heap.size = w.heap.size + 2 := by simp
  have hbx : ((w.alloc (.cells #[.int .i64 3, .int .i64 xv, .slice a2 nd p2, .slice a3 ns p3, .slice a4 nt p4, .int .i64 0, .int .i64 0, .int .i64 0] 24)).alloc (.cells #[.slice a2 nd p2, .slice a3 ns p3, .slice ao no po] 22)).heap[w.heap.size]? = some (.cells #[.int .i64 3, .int .i64 xv, .slice a2 nd p2, .slice a3 ns p3, .slice a4 nt p4, .int .i64 0, .int .i64 0, .int .i64 0] 24 (0, 0)) := (Below.heap_alloc _ _ _ (by rw [s1]; omega)).trans (MapKept.heap_alloc w _).1
  have BD := below_drewN B1 1
  have FR := firstRetry ((w.alloc (.cells #[.int .i64 3, .int .i64 xv, .slice a2 nd p2, .slice a3 ns p3, .slice a4 nt p4, .int .i64 0, .int .i64 0, .int .i64 0] 24)).alloc (.cells #[.slice a2 nd p2, .slice a3 ns p3, .slice ao no po] 22)).drew (tb.below BD tb.lt)
  have LG := ilong 240 xv a2 a3 nd ns p2 p3 xd xs ((w.alloc (.cells #[.int .i64 3, .int .i64 xv, .slice a2 nd p2, .slice a3 ns p3, .slice a4 nt p4, .int .i64 0, .int .i64 0, .int .i64 0] 24)).alloc (.cells #[.slice a2 nd p2, .slice a3 ns p3, .slice ao no po] 22)).drew (by have := gv.1; omega) (by have := gv.2; omega) (r2.below BD) (r3.below BD) ed es gd gs
  have c1 : ((w.alloc (.cells #[.int .i64 3, .int .i64 xv, .slice a2 nd p2, .slice a3 ns p3, .slice a4 nt p4, .int .i64 0, .int .i64 0, .int .i64 0] 24)).alloc (.cells #[.slice a2 nd p2, .slice a3 ns p3, .slice ao no po] 22)).drew.cell? ⟨w.heap.size, 1, none⟩ = some (.int .i64 xv) := by rw [blkS_cell (w := ((w.alloc (.cells #[.int .i64 3, .int .i64 xv, .slice a2 nd p2, .slice a3 ns p3, .slice a4 nt p4, .int .i64 0, .int .i64 0, .int .i64 0] 24)).alloc (.cells #[.slice a2 nd p2, .slice a3 ns p3, .slice ao no po] 22)).drew) hbx]; rfl
  have c2 : ((w.alloc (.cells #[.int .i64 3, .int .i64 xv, .slice a2 nd p2, .slice a3 ns p3, .slice a4 nt p4, .int .i64 0, .int .i64 0, .int .i64 0] 24)).alloc (.cells #[.slice a2 nd p2, .slice a3 ns p3, .slice ao no po] 22)).drew.cell? ⟨w.heap.size, 2, none⟩ = some (.slice a2 nd p2) := by rw [blkS_cell (w := ((w.alloc (.cells #[.int .i64 3, .int .i64 xv, .slice a2 nd p2, .slice a3 ns p3, .slice a4 nt p4, .int .i64 0, .int .i64 0, .int .i64 0] 24)).alloc (.cells #[.slice a2 nd p2, .slice a3 ns p3, .slice ao no po] 22)).drew) hbx]; rfl
  have c3 : ((w.alloc (.cells #[.int .i64 3, .int .i64 xv, .slice a2 nd p2, .slice a3 ns p3, .slice a4 nt p4, .int .i64 0, .int .i64 0, .int .i64 0] 24)).alloc (.cells #[.slice a2 nd p2, .slice a3 ns p3, .slice ao no po] 22)).drew.cell? ⟨w.heap.size, 3, none⟩ = some (.slice a3 ns p3) := by rw [blkS_cell (w := ((w.alloc (.cells #[.int .i64 3, .int .i64 xv, .slice a2 nd p2, .slice a3 ns p3, .slice a4 nt p4, .int .i64 0, .int .i64 0, .int .i64 0] 24)).alloc (.cells #[.slice a2 nd p2, .slice a3 ns p3, .slice ao no po] 22)).drew) hbx]; rfl
  have c4 : ((w.alloc (.cells #[.int .i64 3, .int .i64 xv, .slice a2 nd p2, .slice a3 ns p3, .slice a4 nt p4, .int .i64 0, .int .i64 0, .int .i64 0] 24)).alloc (.cells #[.slice a2 nd p2, .slice a3 ns p3, .slice ao no po] 22)).drew.cell? ⟨w.heap.size, 4, none⟩ = some (.slice a4 nt p4) := by rw [blkS_cell (w := ((w.alloc (.cells #[.int .i64 3, .int .i64 xv, .slice a2 nd p2, .slice a3 ns p3, .slice a4 nt p4, .int .i64 0, .int .i64 0, .int .i64 0] 24)).alloc (.cells #[.slice a2 nd p2, .slice a3 ns p3, .slice ao no po] 22)).drew) hbx]; rfl
  have hil : (240 :: idsV xv xd xs).length = 7 + nd + ns := by rw [List.length_cons, idsV_length]; omega
  have hOl : (([240] ++ idsV xv xd xs) ++ xt).length = 7 + nd + ns + nt := by simp [idsV_length]; omega
  have HH : Hid _ := And.intro (And.intro CC (And.intro FR LG)) (And.intro (And.intro B1 BD) (And.intro hbx (And.intro (And.intro r4 ro) (And.intro (And.intro et eo) (And.intro (And.intro hil hOl) (And.intro bo (And.intro bO (And.intro (And.intro c1 (And.intro c2 (And.intro c3 c4))) s2))))))))
  have HL : Hid (0 < 7 + nd + ns + nt ∧ 7 + nd + ns + nt ≤ 4096 ∧ 7 + nd + ns + nt + (retV o (([240] ++ idsV xv xd xs) ++ xt)).length ≤ 140737488355328) := And.intro (by omega) (And.intro (by omega) (by rw [retV_length]; omega))
  clear B0 B1 CC s1 s2 hbx BD FR LG c1 c2 c3 c4 hil hOl tb r2 r3 r4 ro ed es et eo bo bO
  go_enter Tryz.func5, Tryz.ntmps5
  go_upto_region 5 with (first
    | (go_at_call 28; refine (iVok xv _ gv).mono ?_; rintro e w' ⟨rfl, hw⟩; subst w')
    | (go_at_call 29; refine HH.out.1.1.mono ?_; rintro e w' ⟨rfl, hw⟩; subst w'))
  go_cut [6] from 8 to 68 (fun q wx => wx.ownsRow w.heap.size 5 1 q (7 + nd + ns + nt) ((([240] ++ idsV xv xd xs) ++ xt).map (Value.int .u8)) ∧ Below w.heap.size w wx)
  case first =>
    rename_i J K' hJ hK'
    refine wp_region_any (by kernel_rfl) ?_
    try (change wpAny _ _ _ _ _ _ _ (World.drew _))
    refine wpAny_take (i := 1) (v := ?v1) rfl (by kernel_rfl) (by kernel_rfl) (by kernel_rfl) (fun _ _ _ h => h) (Or.inl ⟨by rfl, ?y1⟩) ?r1
    case y1 => (intro w; go_simp; try with_reducible rfl)
    case r1 =>
    try (change wpAny _ _ _ _ _ _ (Act.put _ (some 53) _) _; rw [put_lit9]; simp only [List.set_cons_succ, List.set_cons_zero])
    refine wpAny_take (i := 3) (v := ?v3) rfl (by kernel_rfl) (by kernel_rfl) (by kernel_rfl) (fun _ _ _ h => h) (Or.inl ⟨by rfl, ?y3⟩) ?r3
    case y3 => (intro w; go_simp; try with_reducible rfl)
    case r3 =>
    try (change wpAny _ _ _ _ _ _ (Act.put _ (some 55) _) _; rw [put_lit9]; simp only [List.set_cons_succ, List.set_cons_zero])
    refine wpAny_take (i := 5) (v := ?v5) rfl (by kernel_rfl) (by kernel_rfl) (by kernel_rfl) (fun _ _ _ h => h) (Or.inl ⟨by rfl, ?y5⟩) ?r5
    case y5 => (intro w; go_simp; try with_reducible rfl)
    case r5 =>
    try (change wpAny _ _ _ _ _ _ (Act.put _ (some 57) _) _; rw [put_lit9]; simp only [List.set_cons_succ, List.set_cons_zero])
    refine wpAny_take (i := 8) (v := ?v8) rfl (by kernel_rfl) (by kernel_rfl) (by kernel_rfl) (fun _ _ _ h => h) (Or.inl ⟨by rfl, ?y8⟩) ?r8
    case y8 => (intro w; go_simp; try with_reducible rfl)
    case r8 =>
    try (change wpAny _ _ _ _ _ _ (Act.put _ (some 60) _) _; rw [put_lit9]; simp only [List.set_cons_succ, List.set_cons_zero])
    refine name_any fun M O Q0 a0 hM hO hQ ha => ?_
    obtain ⟨o0, ho0, hp0, hd0, hg0⟩ : ∃ x : Oper, O[0]? = some x ∧ x.op = .call { callee := .value (.func 31), args := #[.const (.int .i64 3)], argTypes := #[3] } ∧ x.dst = some 52 ∧ x.guard = none := by rw [hO]; exact ⟨_, rfl, rfl, rfl, rfl⟩
    obtain ⟨o2, ho2, hp2, hd2, hg2⟩ : ∃ x : Oper, O[2]? = some x ∧ x.op = .load 3 (.tmp 53) ∧ x.dst = some 54 ∧ x.guard = none := by rw [hO]; exact ⟨_, rfl, rfl, rfl, rfl⟩
    obtain ⟨o4, ho4, hp4, hd4, hg4⟩ : ∃ x : Oper, O[4]? = some x ∧ x.op = .load 22 (.tmp 55) ∧ x.dst = some 56 ∧ x.guard = none := by rw [hO]; exact ⟨_, rfl, rfl, rfl, rfl⟩
    obtain ⟨o6, ho6, hp6, hd6, hg6⟩ : ∃ x : Oper, O[6]? = some x ∧ x.op = .load 22 (.tmp 57) ∧ x.dst = some 58 ∧ x.guard = none := by rw [hO]; exact ⟨_, rfl, rfl, rfl, rfl⟩
    obtain ⟨o9, ho9, hp9, hd9, hg9⟩ : ∃ x : Oper, O[9]? = some x ∧ x.op = .load 22 (.tmp 60) ∧ x.dst = some 61 ∧ x.guard = none := by rw [hO]; exact ⟨_, rfl, rfl, rfl, rfl⟩
    obtain ⟨o7, ho7, hp7, hd7, hg7⟩ : ∃ x : Oper, O[7]? = some x ∧ x.op = .call { callee := .value (.func 30), args := #[.tmp 52, .tmp 54, .tmp 56, .tmp 58], argTypes := #[56, 3, 22, 22] } ∧ x.dst = some 59 ∧ x.guard = none := by rw [hO]; exact ⟨_, rfl, rfl, rfl, rfl⟩
    obtain ⟨o10, ho10, hp10, hd10, hg10⟩ : ∃ x : Oper, O[10]? = some x ∧ x.op = .call { callee := .builtin .append, args := #[.tmp 59, .tmp 61], argTypes := #[22, 22] } ∧ x.dst = some 62 ∧ x.guard = none := by rw [hO]; exact ⟨_, rfl, rfl, rfl, rfl⟩
    obtain ⟨o11, ho11, hp11, hd11, hg11⟩ : ∃ x : Oper, O[11]? = some x ∧ x.op = .assign (.tmp 62) ∧ x.dst = some 6 ∧ x.guard = none := by rw [hO]; exact ⟨_, rfl, rfl, rfl, rfl⟩
    have hsz : a0.tmps.size = 69 := by rw [ha]; rfl
    have t53 : a0.tmps[53]?.getD undef = .pointer (some ⟨w.heap.size, 1, none⟩) := by rw [ha]; rfl
    have t55 : a0.tmps[55]?.getD undef = .pointer (some ⟨w.heap.size, 2, none⟩) := by rw [ha]; rfl
    have t57 : a0.tmps[57]?.getD undef = .pointer (some ⟨w.heap.size, 3, none⟩) := by rw [ha]; rfl
    have t60 : a0.tmps[60]?.getD undef = .pointer (some ⟨w.heap.size, 4, none⟩) := by rw [ha]; rfl
    have st_02469 : wpAny Tryz.prog M O Q0 3 #[true, true, true, true, true, true, true, false, true, true, false, false] (((((a0.put (some 52) (.int .u8 240)).put (some 54) (.int .i64 xv)).put (some 56) (.slice a2 nd p2)).put (some 58) (.slice a3 ns p3)).put (some 61) (.slice a4 nt p4)) ((w.alloc (.cells #[.int .i64 3, .int .i64 xv, .slice a2 nd p2, .slice a3 ns p3, .slice a4 nt p4, .int .i64 0, .int .i64 0, .int .i64 0] 24)).alloc (.cells #[.slice a2 nd p2, .slice a3 ns p3, .slice ao no po] 22)).drew := by
      refine wpAny_ready (rs := [7]) (by rw [hM, hO]; kernel_rfl) (by simp) ?_
      refine AllReady.cons ho7 (fun K hK => ?_) ?_
      · refine step_any hg7 (wp_long 59 hd7 _ 52 54 56 58 _ _ _ _ ((get_ne (by decide)).trans ((get_ne (by decide)).trans ((get_ne (by decide)).trans ((get_ne (by decide)).trans (get_eq (by first | omega | (simp only [put_size]; omega))))))) ((get_ne (by decide)).trans ((get_ne (by decide)).trans ((get_ne (by decide)).trans (get_eq (by first | omega | (simp only [put_size]; omega)))))) ((get_ne (by decide)).trans ((get_ne (by decide)).trans (get_eq (by first | omega | (simp only [put_size]; omega))))) ((get_ne (by decide)).trans (get_eq (by first | omega | (simp only [put_size]; omega)))) hp7 HH.out.1.2.2 ?_)
        rintro e w1 ⟨r1, rfl, o1, b1⟩
        refine ⟨_, rfl, hK _ _ ?_⟩
        have z1 : w.heap.size ≤ ((w.alloc (.cells #[.int .i64 3, .int .i64 xv, .slice a2 nd p2, .slice a3 ns p3, .slice a4 nt p4, .int .i64 0, .int .i64 0, .int .i64 0] 24)).alloc (.cells #[.slice a2 nd p2, .slice a3 ns p3, .slice ao no po] 22)).drew.heap.size := HH.out.2.1.2.size
        have O1 : w1.ownsRow w.heap.size 5 1 r1 (7 + nd + ns) ((240 :: idsV xv xd xs).map (Value.int .u8)) := by have h := owns_mono o1 z1; rw [HH.out.2.2.2.2.2.1.1] at h; exact h
        have C1 : Below w.heap.size w w1 := HH.out.2.1.2.trans (b1.mono z1)
        have x4 : w1.cell? ⟨w.heap.size, 4, none⟩ = some (.slice a4 nt p4) := (b1.cell (p := ⟨w.heap.size, 4, none⟩) (show w.heap.size < ((w.alloc (.cells #[.int .i64 3, .int .i64 xv, .slice a2 nd p2, .slice a3 ns p3, .slice a4 nt p4, .int .i64 0, .int .i64 0, .int .i64 0] 24)).alloc (.cells #[.slice a2 nd p2, .slice a3 ns p3, .slice ao no po] 22)).drew.heap.size by have := HH.out.2.2.2.2.2.2.2.2.2; show w.heap.size < ((w.alloc (.cells #[.int .i64 3, .int .i64 xv, .slice a2 nd p2, .slice a3 ns p3, .slice a4 nt p4, .int .i64 0, .int .i64 0, .int .i64 0] 24)).alloc (.cells #[.slice a2 nd p2, .slice a3 ns p3, .slice ao no po] 22)).heap.size; omega)).trans HH.out.2.2.2.2.2.2.2.2.1.2.2.2
        refine wpAny_ready (rs := [10]) (by rw [hM, hO]; kernel_rfl) (by simp) ?_
        refine AllReady.cons ho10 (fun K hK => ?_) ?_
        · refine step_any hg10 ?_
          refine wp_app hd10 hp10 w.heap.size r1 (7 + nd + ns) (240 :: idsV xv xd xs) ?_ O1 (.slice a4 nt p4) xt ?_ (HH.out.2.2.2.1.1.below C1) (by rw [HH.out.2.2.2.2.1.1]; omega) C1.size ?_
          · exact (get_eq (by first | omega | (simp only [put_size]; omega)))
          · exact ((get_ne (by decide)).trans (get_eq (by first | omega | (simp only [put_size]; omega))))
          intro q2 w2 o2 g2'
          refine hK _ _ ?_
          refine wpAny_ready (rs := [11]) (by rw [hM, hO]; kernel_rfl) (by simp) ?_
          refine AllReady.cons ho11 (fun K hK => ?_) ?_
          · refine step_any hg11 (wp_assign 62 6 hd11 hp11 q2 (get_eq (by first | omega | (simp only [put_size]; omega))) (hK _ _ ?_))
            refine wpAny_done (by rw [hM, hO]; kernel_rfl) ?_ _
            rw [hQ]
            change K' _ _
            refine hK' _ _ (Met.intro (hJ _ _ ?_))
            rw [ha]
            simp only [put_lit9, List.set_cons_succ, List.set_cons_zero]
            (repeat apply Exists.intro)
            refine ⟨?_, rfl⟩
            refine ⟨?_, C1.grown g2' C1.size (fun q hq => (O1.lt q hq).1)⟩
            rw [HH.out.2.2.2.2.1.1] at o2
            simpa using o2
          exact AllReady.nil
        exact AllReady.nil
      exact AllReady.nil
    have st_0246 : wpAny Tryz.prog M O Q0 4 #[true, true, true, true, true, true, true, false, true, false, false, false] ((((a0.put (some 52) (.int .u8 240)).put (some 54) (.int .i64 xv)).put (some 56) (.slice a2 nd p2)).put (some 58) (.slice a3 ns p3)) ((w.alloc (.cells #[.int .i64 3, .int .i64 xv, .slice a2 nd p2, .slice a3 ns p3, .slice a4 nt p4, .int .i64 0, .int .i64 0, .int .i64 0] 24)).alloc (.cells #[.slice a2 nd p2, .slice a3 ns p3, .slice ao no po] 22)).drew := by
      refine wpAny_ready (rs := [7, 9]) (by rw [hM, hO]; kernel_rfl) (by simp) ?_
      refine AllReady.cons ho7 (fun K hK => ?_) ?_
      · refine step_any hg7 (wp_long 59 hd7 _ 52 54 56 58 _ _ _ _ ((get_ne (by decide)).trans ((get_ne (by decide)).trans ((get_ne (by decide)).trans (get_eq (by first | omega | (simp only [put_size]; omega)))))) ((get_ne (by decide)).trans ((get_ne (by decide)).trans (get_eq (by first | omega | (simp only [put_size]; omega))))) ((get_ne (by decide)).trans (get_eq (by first | omega | (simp only [put_size]; omega)))) (get_eq (by first | omega | (simp only [put_size]; omega))) hp7 HH.out.1.2.2 ?_)
        rintro e w1 ⟨r1, rfl, o1, b1⟩
        refine ⟨_, rfl, hK _ _ ?_⟩
        have z1 : w.heap.size ≤ ((w.alloc (.cells #[.int .i64 3, .int .i64 xv, .slice a2 nd p2, .slice a3 ns p3, .slice a4 nt p4, .int .i64 0, .int .i64 0, .int .i64 0] 24)).alloc (.cells #[.slice a2 nd p2, .slice a3 ns p3, .slice ao no po] 22)).drew.heap.size := HH.out.2.1.2.size
        have O1 : w1.ownsRow w.heap.size 5 1 r1 (7 + nd + ns) ((240 :: idsV xv xd xs).map (Value.int .u8)) := by have h := owns_mono o1 z1; rw [HH.out.2.2.2.2.2.1.1] at h; exact h
        have C1 : Below w.heap.size w w1 := HH.out.2.1.2.trans (b1.mono z1)
        have x4 : w1.cell? ⟨w.heap.size, 4, none⟩ = some (.slice a4 nt p4) := (b1.cell (p := ⟨w.heap.size, 4, none⟩) (show w.heap.size < ((w.alloc (.cells #[.int .i64 3, .int .i64 xv, .slice a2 nd p2, .slice a3 ns p3, .slice a4 nt p4, .int .i64 0, .int .i64 0, .int .i64 0] 24)).alloc (.cells #[.slice a2 nd p2, .slice a3 ns p3, .slice ao no po] 22)).drew.heap.size by have := HH.out.2.2.2.2.2.2.2.2.2; show w.heap.size < ((w.alloc (.cells #[.int .i64 3, .int .i64 xv, .slice a2 nd p2, .slice a3 ns p3, .slice a4 nt p4, .int .i64 0, .int .i64 0, .int .i64 0] 24)).alloc (.cells #[.slice a2 nd p2, .slice a3 ns p3, .slice ao no po] 22)).heap.size; omega)).trans HH.out.2.2.2.2.2.2.2.2.1.2.2.2
        refine wpAny_ready (rs := [9]) (by rw [hM, hO]; kernel_rfl) (by simp) ?_
        refine AllReady.cons ho9 (fun K hK => ?_) ?_
        · refine step_any hg9 (wp_loadb 60 61 hd9 hp9 w.heap.size 4 ((get_ne (by decide)).trans ((get_ne (by decide)).trans ((get_ne (by decide)).trans ((get_ne (by decide)).trans ((get_ne (by decide)).trans t60))))) _ x4 (hK _ _ ?_))
          refine wpAny_ready (rs := [10]) (by rw [hM, hO]; kernel_rfl) (by simp) ?_
          refine AllReady.cons ho10 (fun K hK => ?_) ?_
          · refine step_any hg10 ?_
            refine wp_app hd10 hp10 w.heap.size r1 (7 + nd + ns) (240 :: idsV xv xd xs) ?_ O1 (.slice a4 nt p4) xt ?_ (HH.out.2.2.2.1.1.below C1) (by rw [HH.out.2.2.2.2.1.1]; omega) C1.size ?_
            · exact ((get_ne (by decide)).trans (get_eq (by first | omega | (simp only [put_size]; omega))))
            · exact (get_eq (by first | omega | (simp only [put_size]; omega)))
            intro q2 w2 o2 g2'
            refine hK _ _ ?_
            refine wpAny_ready (rs := [11]) (by rw [hM, hO]; kernel_rfl) (by simp) ?_
            refine AllReady.cons ho11 (fun K hK => ?_) ?_
            · refine step_any hg11 (wp_assign 62 6 hd11 hp11 q2 (get_eq (by first | omega | (simp only [put_size]; omega))) (hK _ _ ?_))
              refine wpAny_done (by rw [hM, hO]; kernel_rfl) ?_ _
              rw [hQ]
              change K' _ _
              refine hK' _ _ (Met.intro (hJ _ _ ?_))
              rw [ha]
              simp only [put_lit9, List.set_cons_succ, List.set_cons_zero]
              (repeat apply Exists.intro)
              refine ⟨?_, rfl⟩
              refine ⟨?_, C1.grown g2' C1.size (fun q hq => (O1.lt q hq).1)⟩
              rw [HH.out.2.2.2.2.1.1] at o2
              simpa using o2
            exact AllReady.nil
          exact AllReady.nil
        exact AllReady.nil
      refine AllReady.cons ho9 (fun K hK => ?_) ?_
      · exact step_any hg9 (wp_loadb 60 61 hd9 hp9 w.heap.size 4 ((get_ne (by decide)).trans ((get_ne (by decide)).trans ((get_ne (by decide)).trans ((get_ne (by decide)).trans t60)))) _ HH.out.2.2.2.2.2.2.2.2.1.2.2.2 (hK _ _ (any_cast (by kernel_rfl) rfl st_02469)))
      exact AllReady.nil
    have st_0249 : wpAny Tryz.prog M O Q0 4 #[true, true, true, true, true, true, false, false, true, true, false, false] ((((a0.put (some 52) (.int .u8 240)).put (some 54) (.int .i64 xv)).put (some 56) (.slice a2 nd p2)).put (some 61) (.slice a4 nt p4)) ((w.alloc (.cells #[.int .i64 3, .int .i64 xv, .slice a2 nd p2, .slice a3 ns p3, .slice a4 nt p4, .int .i64 0, .int .i64 0, .int .i64 0] 24)).alloc (.cells #[.slice a2 nd p2, .slice a3 ns p3, .slice ao no po] 22)).drew := by
      refine wpAny_ready (rs := [6]) (by rw [hM, hO]; kernel_rfl) (by simp) ?_
      refine AllReady.cons ho6 (fun K hK => ?_) ?_
      · exact step_any hg6 (wp_loadb 57 58 hd6 hp6 w.heap.size 3 ((get_ne (by decide)).trans ((get_ne (by decide)).trans ((get_ne (by decide)).trans ((get_ne (by decide)).trans t57)))) _ HH.out.2.2.2.2.2.2.2.2.1.2.2.1 (hK _ _ (any_cast (by kernel_rfl) (by rw [put_comm 61 58 (by decide)]) st_02469)))
      exact AllReady.nil
    have st_0269 : wpAny Tryz.prog M O Q0 4 #[true, true, true, true, false, true, true, false, true, true, false, false] ((((a0.put (some 52) (.int .u8 240)).put (some 54) (.int .i64 xv)).put (some 58) (.slice a3 ns p3)).put (some 61) (.slice a4 nt p4)) ((w.alloc (.cells #[.int .i64 3, .int .i64 xv, .slice a2 nd p2, .slice a3 ns p3, .slice a4 nt p4, .int .i64 0, .int .i64 0, .int .i64 0] 24)).alloc (.cells #[.slice a2 nd p2, .slice a3 ns p3, .slice ao no po] 22)).drew := by
      refine wpAny_ready (rs := [4]) (by rw [hM, hO]; kernel_rfl) (by simp) ?_
      refine AllReady.cons ho4 (fun K hK => ?_) ?_
      · exact step_any hg4 (wp_loadb 55 56 hd4 hp4 w.heap.size 2 ((get_ne (by decide)).trans ((get_ne (by decide)).trans ((get_ne (by decide)).trans ((get_ne (by decide)).trans t55)))) _ HH.out.2.2.2.2.2.2.2.2.1.2.1 (hK _ _ (any_cast (by kernel_rfl) (by rw [put_comm 61 56 (by decide), put_comm 58 56 (by decide)]) st_02469)))
      exact AllReady.nil
    have st_0469 : wpAny Tryz.prog M O Q0 4 #[true, true, false, true, true, true, true, false, true, true, false, false] ((((a0.put (some 52) (.int .u8 240)).put (some 56) (.slice a2 nd p2)).put (some 58) (.slice a3 ns p3)).put (some 61) (.slice a4 nt p4)) ((w.alloc (.cells #[.int .i64 3, .int .i64 xv, .slice a2 nd p2, .slice a3 ns p3, .slice a4 nt p4, .int .i64 0, .int .i64 0, .int .i64 0] 24)).alloc (.cells #[.slice a2 nd p2, .slice a3 ns p3, .slice ao no po] 22)).drew := by
      refine wpAny_ready (rs := [2]) (by rw [hM, hO]; kernel_rfl) (by simp) ?_
      refine AllReady.cons ho2 (fun K hK => ?_) ?_
      · exact step_any hg2 (wp_loadi 53 54 hd2 hp2 w.heap.size 1 ((get_ne (by decide)).trans ((get_ne (by decide)).trans ((get_ne (by decide)).trans ((get_ne (by decide)).trans t53)))) _ HH.out.2.2.2.2.2.2.2.2.1.1 (hK _ _ (any_cast (by kernel_rfl) (by rw [put_comm 61 54 (by decide), put_comm 58 54 (by decide), put_comm 56 54 (by decide)]) st_02469)))
      exact AllReady.nil
    have st_2469 : wpAny Tryz.prog M O Q0 4 #[false, true, true, true, true, true, true, false, true, true, false, false] ((((a0.put (some 54) (.int .i64 xv)).put (some 56) (.slice a2 nd p2)).put (some 58) (.slice a3 ns p3)).put (some 61) (.slice a4 nt p4)) ((w.alloc (.cells #[.int .i64 3, .int .i64 xv, .slice a2 nd p2, .slice a3 ns p3, .slice a4 nt p4, .int .i64 0, .int .i64 0, .int .i64 0] 24)).alloc (.cells #[.slice a2 nd p2, .slice a3 ns p3, .slice ao no po] 22)).drew := by
      refine wpAny_ready (rs := [0]) (by rw [hM, hO]; kernel_rfl) (by simp) ?_
      refine AllReady.cons ho0 (fun K hK => ?_) ?_
      · refine step_any hg0 (wp_first 52 hd0 _ hp0 HH.out.1.2.1 ?_)
        rintro e w' ⟨rfl, hw⟩
        subst w'
        exact ⟨_, rfl, hK _ _ (any_cast (by kernel_rfl) (by rw [put_comm 61 52 (by decide), put_comm 58 52 (by decide), put_comm 56 52 (by decide), put_comm 54 52 (by decide)]) st_02469)⟩
      exact AllReady.nil
    have st_024 : wpAny Tryz.prog M O Q0 5 #[true, true, true, true, true, true, false, false, true, false, false, false] (((a0.put (some 52) (.int .u8 240)).put (some 54) (.int .i64 xv)).put (some 56) (.slice a2 nd p2)) ((w.alloc (.cells #[.int .i64 3, .int .i64 xv, .slice a2 nd p2, .slice a3 ns p3, .slice a4 nt p4, .int .i64 0, .int .i64 0, .int .i64 0] 24)).alloc (.cells #[.slice a2 nd p2, .slice a3 ns p3, .slice ao no po] 22)).drew := by
      refine wpAny_ready (rs := [6, 9]) (by rw [hM, hO]; kernel_rfl) (by simp) ?_
      refine AllReady.cons ho6 (fun K hK => ?_) ?_
      · exact step_any hg6 (wp_loadb 57 58 hd6 hp6 w.heap.size 3 ((get_ne (by decide)).trans ((get_ne (by decide)).trans ((get_ne (by decide)).trans t57))) _ HH.out.2.2.2.2.2.2.2.2.1.2.2.1 (hK _ _ (any_cast (by kernel_rfl) rfl st_0246)))
      refine AllReady.cons ho9 (fun K hK => ?_) ?_
      · exact step_any hg9 (wp_loadb 60 61 hd9 hp9 w.heap.size 4 ((get_ne (by decide)).trans ((get_ne (by decide)).trans ((get_ne (by decide)).trans t60))) _ HH.out.2.2.2.2.2.2.2.2.1.2.2.2 (hK _ _ (any_cast (by kernel_rfl) rfl st_0249)))
      exact AllReady.nil
    have st_026 : wpAny Tryz.prog M O Q0 5 #[true, true, true, true, false, true, true, false, true, false, false, false] (((a0.put (some 52) (.int .u8 240)).put (some 54) (.int .i64 xv)).put (some 58) (.slice a3 ns p3)) ((w.alloc (.cells #[.int .i64 3, .int .i64 xv, .slice a2 nd p2, .slice a3 ns p3, .slice a4 nt p4, .int .i64 0, .int .i64 0, .int .i64 0] 24)).alloc (.cells #[.slice a2 nd p2, .slice a3 ns p3, .slice ao no po] 22)).drew := by
      refine wpAny_ready (rs := [4, 9]) (by rw [hM, hO]; kernel_rfl) (by simp) ?_
      refine AllReady.cons ho4 (fun K hK => ?_) ?_
      · exact step_any hg4 (wp_loadb 55 56 hd4 hp4 w.heap.size 2 ((get_ne (by decide)).trans ((get_ne (by decide)).trans ((get_ne (by decide)).trans t55))) _ HH.out.2.2.2.2.2.2.2.2.1.2.1 (hK _ _ (any_cast (by kernel_rfl) (by rw [put_comm 58 56 (by decide)]) st_0246)))
      refine AllReady.cons ho9 (fun K hK => ?_) ?_
      · exact step_any hg9 (wp_loadb 60 61 hd9 hp9 w.heap.size 4 ((get_ne (by decide)).trans ((get_ne (by decide)).trans ((get_ne (by decide)).trans t60))) _ HH.out.2.2.2.2.2.2.2.2.1.2.2.2 (hK _ _ (any_cast (by kernel_rfl) rfl st_0269)))
      exact AllReady.nil
    have st_029 : wpAny Tryz.prog M O Q0 5 #[true, true, true, true, false, true, false, false, true, true, false, false] (((a0.put (some 52) (.int .u8 240)).put (some 54) (.int .i64 xv)).put (some 61) (.slice a4 nt p4)) ((w.alloc (.cells #[.int .i64 3, .int .i64 xv, .slice a2 nd p2, .slice a3 ns p3, .slice a4 nt p4, .int .i64 0, .int .i64 0, .int .i64 0] 24)).alloc (.cells #[.slice a2 nd p2, .slice a3 ns p3, .slice ao no po] 22)).drew := by
      refine wpAny_ready (rs := [4, 6]) (by rw [hM, hO]; kernel_rfl) (by simp) ?_
      refine AllReady.cons ho4 (fun K hK => ?_) ?_
      · exact step_any hg4 (wp_loadb 55 56 hd4 hp4 w.heap.size 2 ((get_ne (by decide)).trans ((get_ne (by decide)).trans ((get_ne (by decide)).trans t55))) _ HH.out.2.2.2.2.2.2.2.2.1.2.1 (hK _ _ (any_cast (by kernel_rfl) (by rw [put_comm 61 56 (by decide)]) st_0249)))
      refine AllReady.cons ho6 (fun K hK => ?_) ?_
      · exact step_any hg6 (wp_loadb 57 58 hd6 hp6 w.heap.size 3 ((get_ne (by decide)).trans ((get_ne (by decide)).trans ((get_ne (by decide)).trans t57))) _ HH.out.2.2.2.2.2.2.2.2.1.2.2.1 (hK _ _ (any_cast (by kernel_rfl) (by rw [put_comm 61 58 (by decide)]) st_0269)))
      exact AllReady.nil
    have st_046 : wpAny Tryz.prog M O Q0 5 #[true, true, false, true, true, true, true, false, true, false, false, false] (((a0.put (some 52) (.int .u8 240)).put (some 56) (.slice a2 nd p2)).put (some 58) (.slice a3 ns p3)) ((w.alloc (.cells #[.int .i64 3, .int .i64 xv, .slice a2 nd p2, .slice a3 ns p3, .slice a4 nt p4, .int .i64 0, .int .i64 0, .int .i64 0] 24)).alloc (.cells #[.slice a2 nd p2, .slice a3 ns p3, .slice ao no po] 22)).drew := by
      refine wpAny_ready (rs := [2, 9]) (by rw [hM, hO]; kernel_rfl) (by simp) ?_
      refine AllReady.cons ho2 (fun K hK => ?_) ?_
      · exact step_any hg2 (wp_loadi 53 54 hd2 hp2 w.heap.size 1 ((get_ne (by decide)).trans ((get_ne (by decide)).trans ((get_ne (by decide)).trans t53))) _ HH.out.2.2.2.2.2.2.2.2.1.1 (hK _ _ (any_cast (by kernel_rfl) (by rw [put_comm 58 54 (by decide), put_comm 56 54 (by decide)]) st_0246)))
      refine AllReady.cons ho9 (fun K hK => ?_) ?_
      · exact step_any hg9 (wp_loadb 60 61 hd9 hp9 w.heap.size 4 ((get_ne (by decide)).trans ((get_ne (by decide)).trans ((get_ne (by decide)).trans t60))) _ HH.out.2.2.2.2.2.2.2.2.1.2.2.2 (hK _ _ (any_cast (by kernel_rfl) rfl st_0469)))
      exact AllReady.nil
    have st_049 : wpAny Tryz.prog M O Q0 5 #[true, true, false, true, true, true, false, false, true, true, false, false] (((a0.put (some 52) (.int .u8 240)).put (some 56) (.slice a2 nd p2)).put (some 61) (.slice a4 nt p4)) ((w.alloc (.cells #[.int .i64 3, .int .i64 xv, .slice a2 nd p2, .slice a3 ns p3, .slice a4 nt p4, .int .i64 0, .int .i64 0, .int .i64 0] 24)).alloc (.cells #[.slice a2 nd p2, .slice a3 ns p3, .slice ao no po] 22)).drew := by
      refine wpAny_ready (rs := [2, 6]) (by rw [hM, hO]; kernel_rfl) (by simp) ?_
      refine AllReady.cons ho2 (fun K hK => ?_) ?_
      · exact step_any hg2 (wp_loadi 53 54 hd2 hp2 w.heap.size 1 ((get_ne (by decide)).trans ((get_ne (by decide)).trans ((get_ne (by decide)).trans t53))) _ HH.out.2.2.2.2.2.2.2.2.1.1 (hK _ _ (any_cast (by kernel_rfl) (by rw [put_comm 61 54 (by decide), put_comm 56 54 (by decide)]) st_0249)))
      refine AllReady.cons ho6 (fun K hK => ?_) ?_
      · exact step_any hg6 (wp_loadb 57 58 hd6 hp6 w.heap.size 3 ((get_ne (by decide)).trans ((get_ne (by decide)).trans ((get_ne (by decide)).trans t57))) _ HH.out.2.2.2.2.2.2.2.2.1.2.2.1 (hK _ _ (any_cast (by kernel_rfl) (by rw [put_comm 61 58 (by decide)]) st_0469)))
      exact AllReady.nil
    have st_069 : wpAny Tryz.prog M O Q0 5 #[true, true, false, true, false, true, true, false, true, true, false, false] (((a0.put (some 52) (.int .u8 240)).put (some 58) (.slice a3 ns p3)).put (some 61) (.slice a4 nt p4)) ((w.alloc (.cells #[.int .i64 3, .int .i64 xv, .slice a2 nd p2, .slice a3 ns p3, .slice a4 nt p4, .int .i64 0, .int .i64 0, .int .i64 0] 24)).alloc (.cells #[.slice a2 nd p2, .slice a3 ns p3, .slice ao no po] 22)).drew := by
      refine wpAny_ready (rs := [2, 4]) (by rw [hM, hO]; kernel_rfl) (by simp) ?_
      refine AllReady.cons ho2 (fun K hK => ?_) ?_
      · exact step_any hg2 (wp_loadi 53 54 hd2 hp2 w.heap.size 1 ((get_ne (by decide)).trans ((get_ne (by decide)).trans ((get_ne (by decide)).trans t53))) _ HH.out.2.2.2.2.2.2.2.2.1.1 (hK _ _ (any_cast (by kernel_rfl) (by rw [put_comm 61 54 (by decide), put_comm 58 54 (by decide)]) st_0269)))
      refine AllReady.cons ho4 (fun K hK => ?_) ?_
      · exact step_any hg4 (wp_loadb 55 56 hd4 hp4 w.heap.size 2 ((get_ne (by decide)).trans ((get_ne (by decide)).trans ((get_ne (by decide)).trans t55))) _ HH.out.2.2.2.2.2.2.2.2.1.2.1 (hK _ _ (any_cast (by kernel_rfl) (by rw [put_comm 61 56 (by decide), put_comm 58 56 (by decide)]) st_0469)))
      exact AllReady.nil
    have st_246 : wpAny Tryz.prog M O Q0 5 #[false, true, true, true, true, true, true, false, true, false, false, false] (((a0.put (some 54) (.int .i64 xv)).put (some 56) (.slice a2 nd p2)).put (some 58) (.slice a3 ns p3)) ((w.alloc (.cells #[.int .i64 3, .int .i64 xv, .slice a2 nd p2, .slice a3 ns p3, .slice a4 nt p4, .int .i64 0, .int .i64 0, .int .i64 0] 24)).alloc (.cells #[.slice a2 nd p2, .slice a3 ns p3, .slice ao no po] 22)).drew := by
      refine wpAny_ready (rs := [0, 9]) (by rw [hM, hO]; kernel_rfl) (by simp) ?_
      refine AllReady.cons ho0 (fun K hK => ?_) ?_
      · refine step_any hg0 (wp_first 52 hd0 _ hp0 HH.out.1.2.1 ?_)
        rintro e w' ⟨rfl, hw⟩
        subst w'
        exact ⟨_, rfl, hK _ _ (any_cast (by kernel_rfl) (by rw [put_comm 58 52 (by decide), put_comm 56 52 (by decide), put_comm 54 52 (by decide)]) st_0246)⟩
      refine AllReady.cons ho9 (fun K hK => ?_) ?_
      · exact step_any hg9 (wp_loadb 60 61 hd9 hp9 w.heap.size 4 ((get_ne (by decide)).trans ((get_ne (by decide)).trans ((get_ne (by decide)).trans t60))) _ HH.out.2.2.2.2.2.2.2.2.1.2.2.2 (hK _ _ (any_cast (by kernel_rfl) rfl st_2469)))
      exact AllReady.nil
    have st_249 : wpAny Tryz.prog M O Q0 5 #[false, true, true, true, true, true, false, false, true, true, false, false] (((a0.put (some 54) (.int .i64 xv)).put (some 56) (.slice a2 nd p2)).put (some 61) (.slice a4 nt p4)) ((w.alloc (.cells #[.int .i64 3, .int .i64 xv, .slice a2 nd p2, .slice a3 ns p3, .slice a4 nt p4, .int .i64 0, .int .i64 0, .int .i64 0] 24)).alloc (.cells #[.slice a2 nd p2, .slice a3 ns p3, .slice ao no po] 22)).drew := by
      refine wpAny_ready (rs := [0, 6]) (by rw [hM, hO]; kernel_rfl) (by simp) ?_
      refine AllReady.cons ho0 (fun K hK => ?_) ?_
      · refine step_any hg0 (wp_first 52 hd0 _ hp0 HH.out.1.2.1 ?_)
        rintro e w' ⟨rfl, hw⟩
        subst w'
        exact ⟨_, rfl, hK _ _ (any_cast (by kernel_rfl) (by rw [put_comm 61 52 (by decide), put_comm 56 52 (by decide), put_comm 54 52 (by decide)]) st_0249)⟩
      refine AllReady.cons ho6 (fun K hK => ?_) ?_
      · exact step_any hg6 (wp_loadb 57 58 hd6 hp6 w.heap.size 3 ((get_ne (by decide)).trans ((get_ne (by decide)).trans ((get_ne (by decide)).trans t57))) _ HH.out.2.2.2.2.2.2.2.2.1.2.2.1 (hK _ _ (any_cast (by kernel_rfl) (by rw [put_comm 61 58 (by decide)]) st_2469)))
      exact AllReady.nil
    have st_269 : wpAny Tryz.prog M O Q0 5 #[false, true, true, true, false, true, true, false, true, true, false, false] (((a0.put (some 54) (.int .i64 xv)).put (some 58) (.slice a3 ns p3)).put (some 61) (.slice a4 nt p4)) ((w.alloc (.cells #[.int .i64 3, .int .i64 xv, .slice a2 nd p2, .slice a3 ns p3, .slice a4 nt p4, .int .i64 0, .int .i64 0, .int .i64 0] 24)).alloc (.cells #[.slice a2 nd p2, .slice a3 ns p3, .slice ao no po] 22)).drew := by
      refine wpAny_ready (rs := [0, 4]) (by rw [hM, hO]; kernel_rfl) (by simp) ?_
      refine AllReady.cons ho0 (fun K hK => ?_) ?_
      · refine step_any hg0 (wp_first 52 hd0 _ hp0 HH.out.1.2.1 ?_)
        rintro e w' ⟨rfl, hw⟩
        subst w'
        exact ⟨_, rfl, hK _ _ (any_cast (by kernel_rfl) (by rw [put_comm 61 52 (by decide), put_comm 58 52 (by decide), put_comm 54 52 (by decide)]) st_0269)⟩
      refine AllReady.cons ho4 (fun K hK => ?_) ?_
      · exact step_any hg4 (wp_loadb 55 56 hd4 hp4 w.heap.size 2 ((get_ne (by decide)).trans ((get_ne (by decide)).trans ((get_ne (by decide)).trans t55))) _ HH.out.2.2.2.2.2.2.2.2.1.2.1 (hK _ _ (any_cast (by kernel_rfl) (by rw [put_comm 61 56 (by decide), put_comm 58 56 (by decide)]) st_2469)))
      exact AllReady.nil
    have st_469 : wpAny Tryz.prog M O Q0 5 #[false, true, false, true, true, true, true, false, true, true, false, false] (((a0.put (some 56) (.slice a2 nd p2)).put (some 58) (.slice a3 ns p3)).put (some 61) (.slice a4 nt p4)) ((w.alloc (.cells #[.int .i64 3, .int .i64 xv, .slice a2 nd p2, .slice a3 ns p3, .slice a4 nt p4, .int .i64 0, .int .i64 0, .int .i64 0] 24)).alloc (.cells #[.slice a2 nd p2, .slice a3 ns p3, .slice ao no po] 22)).drew := by
      refine wpAny_ready (rs := [0, 2]) (by rw [hM, hO]; kernel_rfl) (by simp) ?_
      refine AllReady.cons ho0 (fun K hK => ?_) ?_
      · refine step_any hg0 (wp_first 52 hd0 _ hp0 HH.out.1.2.1 ?_)
        rintro e w' ⟨rfl, hw⟩
        subst w'
        exact ⟨_, rfl, hK _ _ (any_cast (by kernel_rfl) (by rw [put_comm 61 52 (by decide), put_comm 58 52 (by decide), put_comm 56 52 (by decide)]) st_0469)⟩
      refine AllReady.cons ho2 (fun K hK => ?_) ?_
      · exact step_any hg2 (wp_loadi 53 54 hd2 hp2 w.heap.size 1 ((get_ne (by decide)).trans ((get_ne (by decide)).trans ((get_ne (by decide)).trans t53))) _ HH.out.2.2.2.2.2.2.2.2.1.1 (hK _ _ (any_cast (by kernel_rfl) (by rw [put_comm 61 54 (by decide), put_comm 58 54 (by decide), put_comm 56 54 (by decide)]) st_2469)))
      exact AllReady.nil
    have st_02 : wpAny Tryz.prog M O Q0 6 #[true, true, true, true, false, true, false, false, true, false, false, false] ((a0.put (some 52) (.int .u8 240)).put (some 54) (.int .i64 xv)) ((w.alloc (.cells #[.int .i64 3, .int .i64 xv, .slice a2 nd p2, .slice a3 ns p3, .slice a4 nt p4, .int .i64 0, .int .i64 0, .int .i64 0] 24)).alloc (.cells #[.slice a2 nd p2, .slice a3 ns p3, .slice ao no po] 22)).drew := by
      refine wpAny_ready (rs := [4, 6, 9]) (by rw [hM, hO]; kernel_rfl) (by simp) ?_
      refine AllReady.cons ho4 (fun K hK => ?_) ?_
      · exact step_any hg4 (wp_loadb 55 56 hd4 hp4 w.heap.size 2 ((get_ne (by decide)).trans ((get_ne (by decide)).trans t55)) _ HH.out.2.2.2.2.2.2.2.2.1.2.1 (hK _ _ (any_cast (by kernel_rfl) rfl st_024)))
      refine AllReady.cons ho6 (fun K hK => ?_) ?_
      · exact step_any hg6 (wp_loadb 57 58 hd6 hp6 w.heap.size 3 ((get_ne (by decide)).trans ((get_ne (by decide)).trans t57)) _ HH.out.2.2.2.2.2.2.2.2.1.2.2.1 (hK _ _ (any_cast (by kernel_rfl) rfl st_026)))
      refine AllReady.cons ho9 (fun K hK => ?_) ?_
      · exact step_any hg9 (wp_loadb 60 61 hd9 hp9 w.heap.size 4 ((get_ne (by decide)).trans ((get_ne (by decide)).trans t60)) _ HH.out.2.2.2.2.2.2.2.2.1.2.2.2 (hK _ _ (any_cast (by kernel_rfl) rfl st_029)))
      exact AllReady.nil
    have st_04 : wpAny Tryz.prog M O Q0 6 #[true, true, false, true, true, true, false, false, true, false, false, false] ((a0.put (some 52) (.int .u8 240)).put (some 56) (.slice a2 nd p2)) ((w.alloc (.cells #[.int .i64 3, .int .i64 xv, .slice a2 nd p2, .slice a3 ns p3, .slice a4 nt p4, .int .i64 0, .int .i64 0, .int .i64 0] 24)).alloc (.cells #[.slice a2 nd p2, .slice a3 ns p3, .slice ao no po] 22)).drew := by
      refine wpAny_ready (rs := [2, 6, 9]) (by rw [hM, hO]; kernel_rfl) (by simp) ?_
      refine AllReady.cons ho2 (fun K hK => ?_) ?_
      · exact step_any hg2 (wp_loadi 53 54 hd2 hp2 w.heap.size 1 ((get_ne (by decide)).trans ((get_ne (by decide)).trans t53)) _ HH.out.2.2.2.2.2.2.2.2.1.1 (hK _ _ (any_cast (by kernel_rfl) (by rw [put_comm 56 54 (by decide)]) st_024)))
      refine AllReady.cons ho6 (fun K hK => ?_) ?_
      · exact step_any hg6 (wp_loadb 57 58 hd6 hp6 w.heap.size 3 ((get_ne (by decide)).trans ((get_ne (by decide)).trans t57)) _ HH.out.2.2.2.2.2.2.2.2.1.2.2.1 (hK _ _ (any_cast (by kernel_rfl) rfl st_046)))
      refine AllReady.cons ho9 (fun K hK => ?_) ?_
      · exact step_any hg9 (wp_loadb 60 61 hd9 hp9 w.heap.size 4 ((get_ne (by decide)).trans ((get_ne (by decide)).trans t60)) _ HH.out.2.2.2.2.2.2.2.2.1.2.2.2 (hK _ _ (any_cast (by kernel_rfl) rfl st_049)))
      exact AllReady.nil
    have st_06 : wpAny Tryz.prog M O Q0 6 #[true, true, false, true, false, true, true, false, true, false, false, false] ((a0.put (some 52) (.int .u8 240)).put (some 58) (.slice a3 ns p3)) ((w.alloc (.cells #[.int .i64 3, .int .i64 xv, .slice a2 nd p2, .slice a3 ns p3, .slice a4 nt p4, .int .i64 0, .int .i64 0, .int .i64 0] 24)).alloc (.cells #[.slice a2 nd p2, .slice a3 ns p3, .slice ao no po] 22)).drew := by
      refine wpAny_ready (rs := [2, 4, 9]) (by rw [hM, hO]; kernel_rfl) (by simp) ?_
      refine AllReady.cons ho2 (fun K hK => ?_) ?_
      · exact step_any hg2 (wp_loadi 53 54 hd2 hp2 w.heap.size 1 ((get_ne (by decide)).trans ((get_ne (by decide)).trans t53)) _ HH.out.2.2.2.2.2.2.2.2.1.1 (hK _ _ (any_cast (by kernel_rfl) (by rw [put_comm 58 54 (by decide)]) st_026)))
      refine AllReady.cons ho4 (fun K hK => ?_) ?_
      · exact step_any hg4 (wp_loadb 55 56 hd4 hp4 w.heap.size 2 ((get_ne (by decide)).trans ((get_ne (by decide)).trans t55)) _ HH.out.2.2.2.2.2.2.2.2.1.2.1 (hK _ _ (any_cast (by kernel_rfl) (by rw [put_comm 58 56 (by decide)]) st_046)))
      refine AllReady.cons ho9 (fun K hK => ?_) ?_
      · exact step_any hg9 (wp_loadb 60 61 hd9 hp9 w.heap.size 4 ((get_ne (by decide)).trans ((get_ne (by decide)).trans t60)) _ HH.out.2.2.2.2.2.2.2.2.1.2.2.2 (hK _ _ (any_cast (by kernel_rfl) rfl st_069)))
      exact AllReady.nil
    have st_09 : wpAny Tryz.prog M O Q0 6 #[true, true, false, true, false, true, false, false, true, true, false, false] ((a0.put (some 52) (.int .u8 240)).put (some 61) (.slice a4 nt p4)) ((w.alloc (.cells #[.int .i64 3, .int .i64 xv, .slice a2 nd p2, .slice a3 ns p3, .slice a4 nt p4, .int .i64 0, .int .i64 0, .int .i64 0] 24)).alloc (.cells #[.slice a2 nd p2, .slice a3 ns p3, .slice ao no po] 22)).drew := by
      refine wpAny_ready (rs := [2, 4, 6]) (by rw [hM, hO]; kernel_rfl) (by simp) ?_
      refine AllReady.cons ho2 (fun K hK => ?_) ?_
      · exact step_any hg2 (wp_loadi 53 54 hd2 hp2 w.heap.size 1 ((get_ne (by decide)).trans ((get_ne (by decide)).trans t53)) _ HH.out.2.2.2.2.2.2.2.2.1.1 (hK _ _ (any_cast (by kernel_rfl) (by rw [put_comm 61 54 (by decide)]) st_029)))
      refine AllReady.cons ho4 (fun K hK => ?_) ?_
      · exact step_any hg4 (wp_loadb 55 56 hd4 hp4 w.heap.size 2 ((get_ne (by decide)).trans ((get_ne (by decide)).trans t55)) _ HH.out.2.2.2.2.2.2.2.2.1.2.1 (hK _ _ (any_cast (by kernel_rfl) (by rw [put_comm 61 56 (by decide)]) st_049)))
      refine AllReady.cons ho6 (fun K hK => ?_) ?_
      · exact step_any hg6 (wp_loadb 57 58 hd6 hp6 w.heap.size 3 ((get_ne (by decide)).trans ((get_ne (by decide)).trans t57)) _ HH.out.2.2.2.2.2.2.2.2.1.2.2.1 (hK _ _ (any_cast (by kernel_rfl) (by rw [put_comm 61 58 (by decide)]) st_069)))
      exact AllReady.nil
    have st_24 : wpAny Tryz.prog M O Q0 6 #[false, true, true, true, true, true, false, false, true, false, false, false] ((a0.put (some 54) (.int .i64 xv)).put (some 56) (.slice a2 nd p2)) ((w.alloc (.cells #[.int .i64 3, .int .i64 xv, .slice a2 nd p2, .slice a3 ns p3, .slice a4 nt p4, .int .i64 0, .int .i64 0, .int .i64 0] 24)).alloc (.cells #[.slice a2 nd p2, .slice a3 ns p3, .slice ao no po] 22)).drew := by
      refine wpAny_ready (rs := [0, 6, 9]) (by rw [hM, hO]; kernel_rfl) (by simp) ?_
      refine AllReady.cons ho0 (fun K hK => ?_) ?_
      · refine step_any hg0 (wp_first 52 hd0 _ hp0 HH.out.1.2.1 ?_)
        rintro e w' ⟨rfl, hw⟩
        subst w'
        exact ⟨_, rfl, hK _ _ (any_cast (by kernel_rfl) (by rw [put_comm 56 52 (by decide), put_comm 54 52 (by decide)]) st_024)⟩
      refine AllReady.cons ho6 (fun K hK => ?_) ?_
      · exact step_any hg6 (wp_loadb 57 58 hd6 hp6 w.heap.size 3 ((get_ne (by decide)).trans ((get_ne (by decide)).trans t57)) _ HH.out.2.2.2.2.2.2.2.2.1.2.2.1 (hK _ _ (any_cast (by kernel_rfl) rfl st_246)))
      refine AllReady.cons ho9 (fun K hK => ?_) ?_
      · exact step_any hg9 (wp_loadb 60 61 hd9 hp9 w.heap.size 4 ((get_ne (by decide)).trans ((get_ne (by decide)).trans t60)) _ HH.out.2.2.2.2.2.2.2.2.1.2.2.2 (hK _ _ (any_cast (by kernel_rfl) rfl st_249)))
      exact AllReady.nil
    have st_26 : wpAny Tryz.prog M O Q0 6 #[false, true, true, true, false, true, true, false, true, false, false, false] ((a0.put (some 54) (.int .i64 xv)).put (some 58) (.slice a3 ns p3)) ((w.alloc (.cells #[.int .i64 3, .int .i64 xv, .slice a2 nd p2, .slice a3 ns p3, .slice a4 nt p4, .int .i64 0, .int .i64 0, .int .i64 0] 24)).alloc (.cells #[.slice a2 nd p2, .slice a3 ns p3, .slice ao no po] 22)).drew := by
      refine wpAny_ready (rs := [0, 4, 9]) (by rw [hM, hO]; kernel_rfl) (by simp) ?_
      refine AllReady.cons ho0 (fun K hK => ?_) ?_
      · refine step_any hg0 (wp_first 52 hd0 _ hp0 HH.out.1.2.1 ?_)
        rintro e w' ⟨rfl, hw⟩
        subst w'
        exact ⟨_, rfl, hK _ _ (any_cast (by kernel_rfl) (by rw [put_comm 58 52 (by decide), put_comm 54 52 (by decide)]) st_026)⟩
      refine AllReady.cons ho4 (fun K hK => ?_) ?_
      · exact step_any hg4 (wp_loadb 55 56 hd4 hp4 w.heap.size 2 ((get_ne (by decide)).trans ((get_ne (by decide)).trans t55)) _ HH.out.2.2.2.2.2.2.2.2.1.2.1 (hK _ _ (any_cast (by kernel_rfl) (by rw [put_comm 58 56 (by decide)]) st_246)))
      refine AllReady.cons ho9 (fun K hK => ?_) ?_
      · exact step_any hg9 (wp_loadb 60 61 hd9 hp9 w.heap.size 4 ((get_ne (by decide)).trans ((get_ne (by decide)).trans t60)) _ HH.out.2.2.2.2.2.2.2.2.1.2.2.2 (hK _ _ (any_cast (by kernel_rfl) rfl st_269)))
      exact AllReady.nil
    have st_29 : wpAny Tryz.prog M O Q0 6 #[false, true, true, true, false, true, false, false, true, true, false, false] ((a0.put (some 54) (.int .i64 xv)).put (some 61) (.slice a4 nt p4)) ((w.alloc (.cells #[.int .i64 3, .int .i64 xv, .slice a2 nd p2, .slice a3 ns p3, .slice a4 nt p4, .int .i64 0, .int .i64 0, .int .i64 0] 24)).alloc (.cells #[.slice a2 nd p2, .slice a3 ns p3, .slice ao no po] 22)).drew := by
      refine wpAny_ready (rs := [0, 4, 6]) (by rw [hM, hO]; kernel_rfl) (by simp) ?_
      refine AllReady.cons ho0 (fun K hK => ?_) ?_
      · refine step_any hg0 (wp_first 52 hd0 _ hp0 HH.out.1.2.1 ?_)
        rintro e w' ⟨rfl, hw⟩
        subst w'
        exact ⟨_, rfl, hK _ _ (any_cast (by kernel_rfl) (by rw [put_comm 61 52 (by decide), put_comm 54 52 (by decide)]) st_029)⟩
      refine AllReady.cons ho4 (fun K hK => ?_) ?_
      · exact step_any hg4 (wp_loadb 55 56 hd4 hp4 w.heap.size 2 ((get_ne (by decide)).trans ((get_ne (by decide)).trans t55)) _ HH.out.2.2.2.2.2.2.2.2.1.2.1 (hK _ _ (any_cast (by kernel_rfl) (by rw [put_comm 61 56 (by decide)]) st_249)))
      refine AllReady.cons ho6 (fun K hK => ?_) ?_
      · exact step_any hg6 (wp_loadb 57 58 hd6 hp6 w.heap.size 3 ((get_ne (by decide)).trans ((get_ne (by decide)).trans t57)) _ HH.out.2.2.2.2.2.2.2.2.1.2.2.1 (hK _ _ (any_cast (by kernel_rfl) (by rw [put_comm 61 58 (by decide)]) st_269)))
      exact AllReady.nil
    have st_46 : wpAny Tryz.prog M O Q0 6 #[false, true, false, true, true, true, true, false, true, false, false, false] ((a0.put (some 56) (.slice a2 nd p2)).put (some 58) (.slice a3 ns p3)) ((w.alloc (.cells #[.int .i64 3, .int .i64 xv, .slice a2 nd p2, .slice a3 ns p3, .slice a4 nt p4, .int .i64 0, .int .i64 0, .int .i64 0] 24)).alloc (.cells #[.slice a2 nd p2, .slice a3 ns p3, .slice ao no po] 22)).drew := by
      refine wpAny_ready (rs := [0, 2, 9]) (by rw [hM, hO]; kernel_rfl) (by simp) ?_
      refine AllReady.cons ho0 (fun K hK => ?_) ?_
      · refine step_any hg0 (wp_first 52 hd0 _ hp0 HH.out.1.2.1 ?_)
        rintro e w' ⟨rfl, hw⟩
        subst w'
        exact ⟨_, rfl, hK _ _ (any_cast (by kernel_rfl) (by rw [put_comm 58 52 (by decide), put_comm 56 52 (by decide)]) st_046)⟩
      refine AllReady.cons ho2 (fun K hK => ?_) ?_
      · exact step_any hg2 (wp_loadi 53 54 hd2 hp2 w.heap.size 1 ((get_ne (by decide)).trans ((get_ne (by decide)).trans t53)) _ HH.out.2.2.2.2.2.2.2.2.1.1 (hK _ _ (any_cast (by kernel_rfl) (by rw [put_comm 58 54 (by decide), put_comm 56 54 (by decide)]) st_246)))
      refine AllReady.cons ho9 (fun K hK => ?_) ?_
      · exact step_any hg9 (wp_loadb 60 61 hd9 hp9 w.heap.size 4 ((get_ne (by decide)).trans ((get_ne (by decide)).trans t60)) _ HH.out.2.2.2.2.2.2.2.2.1.2.2.2 (hK _ _ (any_cast (by kernel_rfl) rfl st_469)))
      exact AllReady.nil
    have st_49 : wpAny Tryz.prog M O Q0 6 #[false, true, false, true, true, true, false, false, true, true, false, false] ((a0.put (some 56) (.slice a2 nd p2)).put (some 61) (.slice a4 nt p4)) ((w.alloc (.cells #[.int .i64 3, .int .i64 xv, .slice a2 nd p2, .slice a3 ns p3, .slice a4 nt p4, .int .i64 0, .int .i64 0, .int .i64 0] 24)).alloc (.cells #[.slice a2 nd p2, .slice a3 ns p3, .slice ao no po] 22)).drew := by
      refine wpAny_ready (rs := [0, 2, 6]) (by rw [hM, hO]; kernel_rfl) (by simp) ?_
      refine AllReady.cons ho0 (fun K hK => ?_) ?_
      · refine step_any hg0 (wp_first 52 hd0 _ hp0 HH.out.1.2.1 ?_)
        rintro e w' ⟨rfl, hw⟩
        subst w'
        exact ⟨_, rfl, hK _ _ (any_cast (by kernel_rfl) (by rw [put_comm 61 52 (by decide), put_comm 56 52 (by decide)]) st_049)⟩
      refine AllReady.cons ho2 (fun K hK => ?_) ?_
      · exact step_any hg2 (wp_loadi 53 54 hd2 hp2 w.heap.size 1 ((get_ne (by decide)).trans ((get_ne (by decide)).trans t53)) _ HH.out.2.2.2.2.2.2.2.2.1.1 (hK _ _ (any_cast (by kernel_rfl) (by rw [put_comm 61 54 (by decide), put_comm 56 54 (by decide)]) st_249)))
      refine AllReady.cons ho6 (fun K hK => ?_) ?_
      · exact step_any hg6 (wp_loadb 57 58 hd6 hp6 w.heap.size 3 ((get_ne (by decide)).trans ((get_ne (by decide)).trans t57)) _ HH.out.2.2.2.2.2.2.2.2.1.2.2.1 (hK _ _ (any_cast (by kernel_rfl) (by rw [put_comm 61 58 (by decide)]) st_469)))
      exact AllReady.nil
    have st_69 : wpAny Tryz.prog M O Q0 6 #[false, true, false, true, false, true, true, false, true, true, false, false] ((a0.put (some 58) (.slice a3 ns p3)).put (some 61) (.slice a4 nt p4)) ((w.alloc (.cells #[.int .i64 3, .int .i64 xv, .slice a2 nd p2, .slice a3 ns p3, .slice a4 nt p4, .int .i64 0, .int .i64 0, .int .i64 0] 24)).alloc (.cells #[.slice a2 nd p2, .slice a3 ns p3, .slice ao no po] 22)).drew := by
      refine wpAny_ready (rs := [0, 2, 4]) (by rw [hM, hO]; kernel_rfl) (by simp) ?_
      refine AllReady.cons ho0 (fun K hK => ?_) ?_
      · refine step_any hg0 (wp_first 52 hd0 _ hp0 HH.out.1.2.1 ?_)
        rintro e w' ⟨rfl, hw⟩
        subst w'
        exact ⟨_, rfl, hK _ _ (any_cast (by kernel_rfl) (by rw [put_comm 61 52 (by decide), put_comm 58 52 (by decide)]) st_069)⟩
      refine AllReady.cons ho2 (fun K hK => ?_) ?_
      · exact step_any hg2 (wp_loadi 53 54 hd2 hp2 w.heap.size 1 ((get_ne (by decide)).trans ((get_ne (by decide)).trans t53)) _ HH.out.2.2.2.2.2.2.2.2.1.1 (hK _ _ (any_cast (by kernel_rfl) (by rw [put_comm 61 54 (by decide), put_comm 58 54 (by decide)]) st_269)))
      refine AllReady.cons ho4 (fun K hK => ?_) ?_
      · exact step_any hg4 (wp_loadb 55 56 hd4 hp4 w.heap.size 2 ((get_ne (by decide)).trans ((get_ne (by decide)).trans t55)) _ HH.out.2.2.2.2.2.2.2.2.1.2.1 (hK _ _ (any_cast (by kernel_rfl) (by rw [put_comm 61 56 (by decide), put_comm 58 56 (by decide)]) st_469)))
      exact AllReady.nil
    have st_0 : wpAny Tryz.prog M O Q0 7 #[true, true, false, true, false, true, false, false, true, false, false, false] (a0.put (some 52) (.int .u8 240)) ((w.alloc (.cells #[.int .i64 3, .int .i64 xv, .slice a2 nd p2, .slice a3 ns p3, .slice a4 nt p4, .int .i64 0, .int .i64 0, .int .i64 0] 24)).alloc (.cells #[.slice a2 nd p2, .slice a3 ns p3, .slice ao no po] 22)).drew := by
      refine wpAny_ready (rs := [2, 4, 6, 9]) (by rw [hM, hO]; kernel_rfl) (by simp) ?_
      refine AllReady.cons ho2 (fun K hK => ?_) ?_
      · exact step_any hg2 (wp_loadi 53 54 hd2 hp2 w.heap.size 1 ((get_ne (by decide)).trans t53) _ HH.out.2.2.2.2.2.2.2.2.1.1 (hK _ _ (any_cast (by kernel_rfl) rfl st_02)))
      refine AllReady.cons ho4 (fun K hK => ?_) ?_
      · exact step_any hg4 (wp_loadb 55 56 hd4 hp4 w.heap.size 2 ((get_ne (by decide)).trans t55) _ HH.out.2.2.2.2.2.2.2.2.1.2.1 (hK _ _ (any_cast (by kernel_rfl) rfl st_04)))
      refine AllReady.cons ho6 (fun K hK => ?_) ?_
      · exact step_any hg6 (wp_loadb 57 58 hd6 hp6 w.heap.size 3 ((get_ne (by decide)).trans t57) _ HH.out.2.2.2.2.2.2.2.2.1.2.2.1 (hK _ _ (any_cast (by kernel_rfl) rfl st_06)))
      refine AllReady.cons ho9 (fun K hK => ?_) ?_
      · exact step_any hg9 (wp_loadb 60 61 hd9 hp9 w.heap.size 4 ((get_ne (by decide)).trans t60) _ HH.out.2.2.2.2.2.2.2.2.1.2.2.2 (hK _ _ (any_cast (by kernel_rfl) rfl st_09)))
      exact AllReady.nil
    have st_2 : wpAny Tryz.prog M O Q0 7 #[false, true, true, true, false, true, false, false, true, false, false, false] (a0.put (some 54) (.int .i64 xv)) ((w.alloc (.cells #[.int .i64 3, .int .i64 xv, .slice a2 nd p2, .slice a3 ns p3, .slice a4 nt p4, .int .i64 0, .int .i64 0, .int .i64 0] 24)).alloc (.cells #[.slice a2 nd p2, .slice a3 ns p3, .slice ao no po] 22)).drew := by
      refine wpAny_ready (rs := [0, 4, 6, 9]) (by rw [hM, hO]; kernel_rfl) (by simp) ?_
      refine AllReady.cons ho0 (fun K hK => ?_) ?_
      · refine step_any hg0 (wp_first 52 hd0 _ hp0 HH.out.1.2.1 ?_)
        rintro e w' ⟨rfl, hw⟩
        subst w'
        exact ⟨_, rfl, hK _ _ (any_cast (by kernel_rfl) (by rw [put_comm 54 52 (by decide)]) st_02)⟩
      refine AllReady.cons ho4 (fun K hK => ?_) ?_
      · exact step_any hg4 (wp_loadb 55 56 hd4 hp4 w.heap.size 2 ((get_ne (by decide)).trans t55) _ HH.out.2.2.2.2.2.2.2.2.1.2.1 (hK _ _ (any_cast (by kernel_rfl) rfl st_24)))
      refine AllReady.cons ho6 (fun K hK => ?_) ?_
      · exact step_any hg6 (wp_loadb 57 58 hd6 hp6 w.heap.size 3 ((get_ne (by decide)).trans t57) _ HH.out.2.2.2.2.2.2.2.2.1.2.2.1 (hK _ _ (any_cast (by kernel_rfl) rfl st_26)))
      refine AllReady.cons ho9 (fun K hK => ?_) ?_
      · exact step_any hg9 (wp_loadb 60 61 hd9 hp9 w.heap.size 4 ((get_ne (by decide)).trans t60) _ HH.out.2.2.2.2.2.2.2.2.1.2.2.2 (hK _ _ (any_cast (by kernel_rfl) rfl st_29)))
      exact AllReady.nil
    have st_4 : wpAny Tryz.prog M O Q0 7 #[false, true, false, true, true, true, false, false, true, false, false, false] (a0.put (some 56) (.slice a2 nd p2)) ((w.alloc (.cells #[.int .i64 3, .int .i64 xv, .slice a2 nd p2, .slice a3 ns p3, .slice a4 nt p4, .int .i64 0, .int .i64 0, .int .i64 0] 24)).alloc (.cells #[.slice a2 nd p2, .slice a3 ns p3, .slice ao no po] 22)).drew := by
      refine wpAny_ready (rs := [0, 2, 6, 9]) (by rw [hM, hO]; kernel_rfl) (by simp) ?_
      refine AllReady.cons ho0 (fun K hK => ?_) ?_
      · refine step_any hg0 (wp_first 52 hd0 _ hp0 HH.out.1.2.1 ?_)
        rintro e w' ⟨rfl, hw⟩
        subst w'
        exact ⟨_, rfl, hK _ _ (any_cast (by kernel_rfl) (by rw [put_comm 56 52 (by decide)]) st_04)⟩
      refine AllReady.cons ho2 (fun K hK => ?_) ?_
      · exact step_any hg2 (wp_loadi 53 54 hd2 hp2 w.heap.size 1 ((get_ne (by decide)).trans t53) _ HH.out.2.2.2.2.2.2.2.2.1.1 (hK _ _ (any_cast (by kernel_rfl) (by rw [put_comm 56 54 (by decide)]) st_24)))
      refine AllReady.cons ho6 (fun K hK => ?_) ?_
      · exact step_any hg6 (wp_loadb 57 58 hd6 hp6 w.heap.size 3 ((get_ne (by decide)).trans t57) _ HH.out.2.2.2.2.2.2.2.2.1.2.2.1 (hK _ _ (any_cast (by kernel_rfl) rfl st_46)))
      refine AllReady.cons ho9 (fun K hK => ?_) ?_
      · exact step_any hg9 (wp_loadb 60 61 hd9 hp9 w.heap.size 4 ((get_ne (by decide)).trans t60) _ HH.out.2.2.2.2.2.2.2.2.1.2.2.2 (hK _ _ (any_cast (by kernel_rfl) rfl st_49)))
      exact AllReady.nil
    have st_6 : wpAny Tryz.prog M O Q0 7 #[false, true, false, true, false, true, true, false, true, false, false, false] (a0.put (some 58) (.slice a3 ns p3)) ((w.alloc (.cells #[.int .i64 3, .int .i64 xv, .slice a2 nd p2, .slice a3 ns p3, .slice a4 nt p4, .int .i64 0, .int .i64 0, .int .i64 0] 24)).alloc (.cells #[.slice a2 nd p2, .slice a3 ns p3, .slice ao no po] 22)).drew := by
      refine wpAny_ready (rs := [0, 2, 4, 9]) (by rw [hM, hO]; kernel_rfl) (by simp) ?_
      refine AllReady.cons ho0 (fun K hK => ?_) ?_
      · refine step_any hg0 (wp_first 52 hd0 _ hp0 HH.out.1.2.1 ?_)
        rintro e w' ⟨rfl, hw⟩
        subst w'
        exact ⟨_, rfl, hK _ _ (any_cast (by kernel_rfl) (by rw [put_comm 58 52 (by decide)]) st_06)⟩
      refine AllReady.cons ho2 (fun K hK => ?_) ?_
      · exact step_any hg2 (wp_loadi 53 54 hd2 hp2 w.heap.size 1 ((get_ne (by decide)).trans t53) _ HH.out.2.2.2.2.2.2.2.2.1.1 (hK _ _ (any_cast (by kernel_rfl) (by rw [put_comm 58 54 (by decide)]) st_26)))
      refine AllReady.cons ho4 (fun K hK => ?_) ?_
      · exact step_any hg4 (wp_loadb 55 56 hd4 hp4 w.heap.size 2 ((get_ne (by decide)).trans t55) _ HH.out.2.2.2.2.2.2.2.2.1.2.1 (hK _ _ (any_cast (by kernel_rfl) (by rw [put_comm 58 56 (by decide)]) st_46)))
      refine AllReady.cons ho9 (fun K hK => ?_) ?_
      · exact step_any hg9 (wp_loadb 60 61 hd9 hp9 w.heap.size 4 ((get_ne (by decide)).trans t60) _ HH.out.2.2.2.2.2.2.2.2.1.2.2.2 (hK _ _ (any_cast (by kernel_rfl) rfl st_69)))
      exact AllReady.nil
    have st_9 : wpAny Tryz.prog M O Q0 7 #[false, true, false, true, false, true, false, false, true, true, false, false] (a0.put (some 61) (.slice a4 nt p4)) ((w.alloc (.cells #[.int .i64 3, .int .i64 xv, .slice a2 nd p2, .slice a3 ns p3, .slice a4 nt p4, .int .i64 0, .int .i64 0, .int .i64 0] 24)).alloc (.cells #[.slice a2 nd p2, .slice a3 ns p3, .slice ao no po] 22)).drew := by
      refine wpAny_ready (rs := [0, 2, 4, 6]) (by rw [hM, hO]; kernel_rfl) (by simp) ?_
      refine AllReady.cons ho0 (fun K hK => ?_) ?_
      · refine step_any hg0 (wp_first 52 hd0 _ hp0 HH.out.1.2.1 ?_)
        rintro e w' ⟨rfl, hw⟩
        subst w'
        exact ⟨_, rfl, hK _ _ (any_cast (by kernel_rfl) (by rw [put_comm 61 52 (by decide)]) st_09)⟩
      refine AllReady.cons ho2 (fun K hK => ?_) ?_
      · exact step_any hg2 (wp_loadi 53 54 hd2 hp2 w.heap.size 1 ((get_ne (by decide)).trans t53) _ HH.out.2.2.2.2.2.2.2.2.1.1 (hK _ _ (any_cast (by kernel_rfl) (by rw [put_comm 61 54 (by decide)]) st_29)))
      refine AllReady.cons ho4 (fun K hK => ?_) ?_
      · exact step_any hg4 (wp_loadb 55 56 hd4 hp4 w.heap.size 2 ((get_ne (by decide)).trans t55) _ HH.out.2.2.2.2.2.2.2.2.1.2.1 (hK _ _ (any_cast (by kernel_rfl) (by rw [put_comm 61 56 (by decide)]) st_49)))
      refine AllReady.cons ho6 (fun K hK => ?_) ?_
      · exact step_any hg6 (wp_loadb 57 58 hd6 hp6 w.heap.size 3 ((get_ne (by decide)).trans t57) _ HH.out.2.2.2.2.2.2.2.2.1.2.2.1 (hK _ _ (any_cast (by kernel_rfl) (by rw [put_comm 61 58 (by decide)]) st_69)))
      exact AllReady.nil
    have st_e : wpAny Tryz.prog M O Q0 8 #[false, true, false, true, false, true, false, false, true, false, false, false] a0 ((w.alloc (.cells #[.int .i64 3, .int .i64 xv, .slice a2 nd p2, .slice a3 ns p3, .slice a4 nt p4, .int .i64 0, .int .i64 0, .int .i64 0] 24)).alloc (.cells #[.slice a2 nd p2, .slice a3 ns p3, .slice ao no po] 22)).drew := by
      refine wpAny_ready (rs := [0, 2, 4, 6, 9]) (by rw [hM, hO]; kernel_rfl) (by simp) ?_
      refine AllReady.cons ho0 (fun K hK => ?_) ?_
      · refine step_any hg0 (wp_first 52 hd0 _ hp0 HH.out.1.2.1 ?_)
        rintro e w' ⟨rfl, hw⟩
        subst w'
        exact ⟨_, rfl, hK _ _ (any_cast (by kernel_rfl) rfl st_0)⟩
      refine AllReady.cons ho2 (fun K hK => ?_) ?_
      · exact step_any hg2 (wp_loadi 53 54 hd2 hp2 w.heap.size 1 t53 _ HH.out.2.2.2.2.2.2.2.2.1.1 (hK _ _ (any_cast (by kernel_rfl) rfl st_2)))
      refine AllReady.cons ho4 (fun K hK => ?_) ?_
      · exact step_any hg4 (wp_loadb 55 56 hd4 hp4 w.heap.size 2 t55 _ HH.out.2.2.2.2.2.2.2.2.1.2.1 (hK _ _ (any_cast (by kernel_rfl) rfl st_4)))
      refine AllReady.cons ho6 (fun K hK => ?_) ?_
      · exact step_any hg6 (wp_loadb 57 58 hd6 hp6 w.heap.size 3 t57 _ HH.out.2.2.2.2.2.2.2.2.1.2.2.1 (hK _ _ (any_cast (by kernel_rfl) rfl st_6)))
      refine AllReady.cons ho9 (fun K hK => ?_) ?_
      · exact step_any hg9 (wp_loadb 60 61 hd9 hp9 w.heap.size 4 t60 _ HH.out.2.2.2.2.2.2.2.2.1.2.2.2 (hK _ _ (any_cast (by kernel_rfl) rfl st_9)))
      exact AllReady.nil
    exact any_cast (by kernel_rfl) rfl st_e
  case rest =>
  obtain ⟨oq, bq⟩ := hcut
  have HQ : Hid _ := And.intro oq bq
  clear oq bq
  go_wp2_with fail
  go_at_call 32
  obtain ⟨TG, eTG⟩ : ∃ t, t = retV o (([240] ++ idsV xv xd xs) ++ xt) := ⟨_, rfl⟩
  have HT : Hid (TG = retV o (([240] ++ idsV xv xd xs) ++ xt) ∧ TG.length = 8) := And.intro eTG (by rw [eTG]; exact retV_length _ _)
  obtain ⟨g3, c3', eq3, _, _⟩ := owns_shape HQ.out.1 HL.out.1
  subst eq3
  have IT := iretTag ao (some ⟨g3, 0, none⟩) no _ po c3' o (([240] ++ idsV xv xd xs) ++ xt) wc (HH.out.2.2.2.1.2.below HQ.out.2) (row_of_owns HQ.out.1) HH.out.2.2.2.2.1.2 HH.out.2.2.2.2.2.1.2 go HL.out.2.1 HH.out.2.2.2.2.2.2.1 HH.out.2.2.2.2.2.2.2.1
  rw [← eTG] at IT
  refine IT.mono ?_
  rintro e w4 ⟨rfl, b4⟩
  have H4 : Hid _ := And.intro (owns_below HQ.out.1 b4) (HQ.out.2.trans (b4.mono HQ.out.2.size))
  have z4 : w.heap.size ≤ w4.heap.size := H4.out.2.size
  clear b4 IT eTG
  go_wp2_with (first
    | (refine wpList_store_at rfl 58 (.tmp 7) (.tmp 65) rfl w4.heap.size _ rfl rfl 58 _ (MapKept.heap_alloc w4 _).1 (infoR8s _ HT.out.2) (by simp [u8s_length, HT.out.2]) (u8s_all _) ?_; intro w5 h5 m5; have O4 := owns_below H4.out.1 ((Below.refl w4.heap.size w4).alloc (Nat.le_refl _) Z8r); have O5 := m5.owns O4 (fun k hk e => absurd (H4.out.1.lt k hk).2 (by rw [Option.some.inj e]; exact Nat.lt_irrefl _)); have R5 := row_partr (off := 0) (n := 8) (c := 8) h5 (by rw [HT.out.2]; decide) (by decide) (by decide); rw [List.drop_zero, List.take_of_length_le (by rw [HT.out.2]; decide)] at R5; have H5 : Hid _ := And.intro O5 (And.intro R5 ((H4.out.2.alloc z4 Z8r).trans (m5.below z4))); clear O4 O5 R5 h5 m5)
    | (at_builtin; refine wpList_append_row rfl (.tmp 66) (.tmp 67) rfl w.heap.size (.slice (some ⟨g3, 0, none⟩) (7 + nd + ns + nt) c3') (7 + nd + ns + nt) (([240] ++ idsV xv xd xs) ++ xt) rfl H5.out.1 (.slice (some ⟨w4.heap.size, 0, none⟩) 8 8) TG rfl H5.out.2.1 (by rw [HT.out.1]; exact HL.out.2.2) H5.out.2.2.size ?_; intro q6 w6 o6 g6; have H6 : Hid _ := And.intro o6 (H5.out.2.2.grown g6 H5.out.2.2.size (fun q hq => (H5.out.1.lt q hq).1)); clear o6 g6))
  go_ret2
  refine ⟨_, rfl, ?_, H6.out.2⟩
  have hl : ((([240] ++ idsV xv xd xs) ++ xt) ++ retV o (([240] ++ idsV xv xd xs) ++ xt)).length = 7 + nd + ns + nt + (retV o (([240] ++ idsV xv xd xs) ++ xt)).length := by have h := HH.out.2.2.2.2.2.1.2; rw [List.length_append, h]
  have h6 := H6.out.1
  rw [HT.out.1] at h6
  rw [← hl] at h6
  exact h6
end Go.Proofs.YtoalillggafnpaaGreatDoor

namespace Go.Proofs.YtoalillggafnpaaGreatDoor
open Go.RowKit
set_option linter.unusedVariables false

/-- The token of an id. -/
def tokV (ks cs : List Int) : List Int := (digV ks cs).take 8
theorem tokV_length (ks cs : List Int) : (tokV ks cs).length = 8 := by simp [tokV, digV_length]
set_option maxHeartbeats 1000000 in
theorem rtok_bad (ak ac : Option Addr) (n m pk pc : Nat) (w : World) (h : n ≠ 16 ∨ 8 < m) (hn : n ≤ 9223372036854775807) (hm : m ≤ 9223372036854775807) :
    Calls Tryz.prog 18 #[.slice ak n pk, .slice ac m pc] w fun e w' => ∃ r, e = .returned r ∧ w'.ownsRow w.heap.size 5 1 r 0 (([] : List Int).map (Value.int .u8)) ∧ Below w.heap.size w w' := by
  by_cases h16 : n = 16
  · subst h16
    have h8 : 8 < m := by omega
    clear h
    go_enter Tryz.func18, Tryz.ntmps18
    go_wp2
    go_ret
    exact ⟨_, rfl, World.ownsRow_lit _ #[] 0 (Nat.le_refl _) (by decide) rfl, (Below.refl _ _).alloc (Nat.le_refl _) _⟩
  · have hne : ((n : Int) != 16) = true := by simp; omega
    clear h h16
    go_enter Tryz.func18, Tryz.ntmps18
    go_wp2
    go_ret
    exact ⟨_, rfl, World.ownsRow_lit _ #[] 0 (Nat.le_refl _) (by decide) rfl, (Below.refl _ _).alloc (Nat.le_refl _) _⟩
set_option maxHeartbeats 1000000 in
theorem rtok_ok (ak ac : Option Addr) (m pk pc : Nat) (ks cs : List Int) (w : World) (hk : Row w .u8 (.slice ak 16 pk) ks) (hc : Row w .u8 (.slice ac m pc) cs) (lk : ks.length = 16) (em : m = cs.length) (h8 : m ≤ 8) (bk : Bytes ks) (bc : Bytes cs) :
    Calls Tryz.prog 18 #[.slice ak 16 pk, .slice ac m pc] w fun e w' => ∃ r, e = .returned r ∧ w'.ownsRow w.heap.size 5 1 r (tokV ks cs).length ((tokV ks cs).map (Value.int .u8)) ∧ Below w.heap.size w w' := by
  have HH : Hid _ := And.intro (And.intro hk hc) (And.intro (And.intro bk bc) (And.intro lk em))
  clear hk hc bk bc lk em
  go_enter Tryz.func18, Tryz.ntmps18
  go_wp2_with fail
  go_at_call 45
  refine (specDigest _ _ ks cs _ HH.out.1.1 HH.out.1.2 HH.out.2.1.1 HH.out.2.1.2 (by rw [HH.out.2.2.1]; decide) (by rw [← HH.out.2.2.2]; omega)).mono ?_
  rintro e w2 ⟨q2, rfl, o2, b2⟩
  obtain ⟨g2, p2, rfl, _, _⟩ := owns_shape o2 (by decide)
  obtain ⟨hc1, hc2⟩ := hm_cap o2
  have hc8 : (8 : Int) ≤ (p2 : Int) := by omega
  have H2 : Hid _ := And.intro (hm_take (m := 8) o2 (by decide)) b2
  clear o2 b2
  go_wp2_with fail
  go_at_call 44
  refine (copyC _ ((digV ks cs).take 8) _ H2.out.1 (by rw [List.length_take, digV_length]; decide) (by rw [List.length_take, digV_length]; decide)).mono ?_
  rintro e w3 ⟨q3, rfl, o3, b3⟩
  have HF : Hid _ := And.intro (owns_mono o3 H2.out.2.size) (H2.out.2.trans (b3.mono H2.out.2.size))
  clear o3 b3
  go_wp2
  go_ret
  exact ⟨_, rfl, HF.out.1, HF.out.2⟩
end Go.Proofs.YtoalillggafnpaaGreatDoor

namespace Go.Proofs.YtoalillggafnpaaGreatDoor
open Go.RowKit
set_option linter.unusedVariables false

theorem cids1 (n : Nat) (cs : List Int) (e : cs.length = n) : (decide (∀ j, j < ([cs] : List (List Int)).length → (([cs] : List (List Int)).getD j []).length ≤ 8)) = decide (n ≤ 8) := by
  rw [decide_eq_decide]
  constructor
  · intro h; have := h 0 (by simp); simpa [e] using this
  · intro h j hj
    obtain rfl : j = 0 := by simp at hj; omega
    simpa [e] using h
theorem cids1_len (cs : List Int) (h : cs.length ≤ 9223372036854775807) (j : Nat) : (([cs] : List (List Int)).getD j []).length ≤ 9223372036854775807 := by
  match j with
  | 0 => exact h
  | n + 1 => simp [List.getD]
theorem row_parta {w : World} {g t off n c : Nat} {fr : Nat × Nat} {xs : List Int} (h : w.heap[g]? = some (.cells (u8s xs).toArray t fr)) (hn : off + n ≤ xs.length) (hc : n ≤ c) (hm : c ≤ maxLen) : Row w .u8 (.slice (some ⟨g, off, none⟩) n c) ((xs.drop off).take n) := by
  have := row_cut (w := w) (k := .u8) (xs := xs) (b := g) (off := 0) (cap := 0) (at' := off) (n := n) (cap' := c) (Array.getElem?_eq_some_iff.1 h).1 (fun j hj => ?_) hn ⟨hc, hm⟩
  · rwa [Nat.zero_add] at this
  · rw [Nat.zero_add, blkS_cell h]
    simp [u8s, List.getD, hj]
set_option maxHeartbeats 1000000 in
theorem ireset_badkey (ak : Option Addr) (n pk : Nat) (cv : Value) (w : World) (h : n ≠ 16) (hn : n ≤ 9223372036854775807) :
    Calls Tryz.prog 17 #[.slice ak n pk, cv] w fun e w' => ∃ r, e = .returned r ∧ w'.ownsRow w.heap.size 5 1 r 0 (([] : List Int).map (Value.int .u8)) ∧ Below w.heap.size w w' := by
  have hne : ((n : Int) != 16) = true := by simp; omega
  go_enter Tryz.func17, Tryz.ntmps17
  go_wp2
  go_ret
  exact ⟨_, rfl, World.ownsRow_nil _ _ _ _, Below.refl _ _⟩
set_option maxRecDepth 20000 in
set_option maxHeartbeats 1000000 in
theorem ireset_badcid (ak ac : Option Addr) (m pk pc : Nat) (cs : List Int) (w : World) (hc : Row w .u8 (.slice ac m pc) cs) (em : cs.length = m) (h8 : 8 < m) (hm : m ≤ 9223372036854775807) :
    Calls Tryz.prog 17 #[.slice ak 16 pk, .slice ac m pc] w fun e w' => ∃ r, e = .returned r ∧ w'.ownsRow w.heap.size 5 1 r 0 (([] : List Int).map (Value.int .u8)) ∧ Below w.heap.size w w' := by
  have HH : Hid _ := And.intro hc em
  clear hc em
  go_enter Tryz.func17, Tryz.ntmps17
  go_wp2_with fail
  go_at_call 29
  refine (icids _ [cs] _ (parts1 HH.out.1 _) (by simp) (cids1_len cs (by rw [HH.out.2]; exact hm))).mono ?_
  rw [cids1 m cs HH.out.2, decide_eq_false (by omega)]
  rintro e w' ⟨rfl, hw⟩
  subst w'
  go_wp2
  go_ret
  exact ⟨_, rfl, World.ownsRow_nil _ _ _ _, (Below.refl _ _).alloc (Nat.le_refl _) _⟩
set_option maxRecDepth 20000 in
set_option maxHeartbeats 4000000 in
theorem ireset_ok (ak ac : Option Addr) (m pk pc : Nat) (ks cs : List Int) (w : World) (hk : Row w .u8 (.slice ak 16 pk) ks) (hc : Row w .u8 (.slice ac m pc) cs) (lk : ks.length = 16) (em : cs.length = m) (h8 : m ≤ 8) (bk : Bytes ks) (bc : Bytes cs) :
    Calls Tryz.prog 17 #[.slice ak 16 pk, .slice ac m pc] w fun e w' => ∃ r, e = .returned r ∧ w'.ownsRow w.heap.size 5 1 r (tokV ks cs).length ((tokV ks cs).map (Value.int .u8)) ∧ Below w.heap.size w w' := by
  have C0 : Below w.heap.size w (w.alloc (.cells #[.slice ac m pc] 22)) := (Below.refl _ _).alloc (Nat.le_refl _) _
  have HH : Hid _ := And.intro (And.intro hk hc) (And.intro (And.intro bk bc) (And.intro lk (And.intro em C0)))
  clear hk hc bk bc lk em C0
  go_enter Tryz.func17, Tryz.ntmps17
  go_wp2_with fail
  go_at_call 29
  refine (icids _ [cs] _ (parts1 HH.out.1.2 _) (by simp) (cids1_len cs (by rw [HH.out.2.2.2.1]; omega))).mono ?_
  rw [cids1 m cs HH.out.2.2.2.1, decide_eq_true h8]
  rintro e w' ⟨rfl, hw⟩
  subst w'
  go_wp2_with fail
  go_at_call 43
  have es1 : (w.alloc (.cells #[.slice ac m pc] 22)).heap.size = w.heap.size + 1 := by simp
  have HP := parts1 (HH.out.1.2.below HH.out.2.2.2.2) 22
  rw [es1] at HP
  have HK : Row ((w.alloc (.cells #[.slice ac m pc] 22)).alloc (.cells #[.slice ac m pc] 22)) .u8 (.slice ak 16 pk) ks := HH.out.1.1.below (HH.out.2.2.2.2.trans (((Below.refl _ _).alloc (Nat.le_refl _) _).mono HH.out.2.2.2.2.size))
  refine (iparts _ _ ks [cs] _ HK HH.out.2.1.1 (by rw [HH.out.2.2.1]; decide) HP (bytes_getD1 HH.out.2.1.2) (by have := HH.out.2.2.2.1; simp; omega) (by simp)).mono ?_
  rintro e w3 ⟨rfl, b3⟩
  have ef : [cs].flatten = cs := by simp
  rw [ef]
  have hdl := digV_length ks cs
  have H3 : Hid (Below w.heap.size w w3 ∧ (digV ks cs).length = 16) := And.intro ((HH.out.2.2.2.2.alloc HH.out.2.2.2.2.size _).trans (b3.mono (by simp <;> omega))) hdl
  have z3 : w.heap.size ≤ w3.heap.size := H3.out.1.size
  clear b3 ef hdl es1 HP HK
  obtain ⟨D, eD⟩ : ∃ D, D = digV ks cs := ⟨_, rfl⟩
  rw [← eD] at H3 ⊢
  have ED : Hid _ := eD
  clear eD
  go_wp2_with (first
    | (refine wpList_store_at rfl 76 (.tmp 5) (.tmp 18) rfl w3.heap.size _ rfl rfl 76 _ (MapKept.heap_alloc w3 _).1 (infoBs _ H3.out.2) (by simp [u8s_length, H3.out.2]) (u8s_all _) ?_; intro w4 h4 m4; have C4 : Hid (Below w.heap.size w w4) := (H3.out.1.alloc (by omega) _).trans (m4.below (by omega)); have R4 : Hid (Row w4 .u8 (.slice (some ⟨w3.heap.size, 0, none⟩) 8 16) (D.take 8)) := by show Row _ _ _ _; have := row_parta (off := 0) (n := 8) (c := 16) h4 (by rw [H3.out.2]; decide) (by decide) (by decide); rwa [List.drop_zero] at this)
    | (at_builtin; refine wpList_append_row rfl (.const _) (.tmp 19) rfl w4.heap.size (.slice none 0 0) 0 [] rfl (World.ownsRow_nil _ _ _ _) (.slice (some ⟨w3.heap.size, 0, none⟩) 8 16) (D.take 8) rfl R4.out (by rw [List.length_take, H3.out.2]; decide) (Nat.le_refl _) ?_; intro q5 w5 o5 g5))
  go_ret
  refine ⟨_, rfl, ?_, C4.out.grown g5 C4.out.size (by intro k hk; cases hk)⟩
  have e : tokV ks cs = D.take 8 := by rw [ED.out]; rfl
  rw [e]
  have := owns_mono o5 C4.out.size
  simpa using this
end Go.Proofs.YtoalillggafnpaaGreatDoor

namespace Go.Proofs.YtoalillggafnpaaGreatDoor
open Go.RowKit
set_option linter.unusedVariables false

set_option maxHeartbeats 1000000 in
theorem irp_bad (ak ac : Option Addr) (n m pk pc : Nat) (w : World) (h : n ≠ 8 ∨ m < 13 ∨ 100 < m) (hn : n ≤ 9223372036854775807) (hm : m ≤ 9223372036854775807) :
    Calls Tryz.prog 19 #[.slice ak n pk, .slice ac m pc] w fun e w' => ∃ r, e = .returned (.tuple #[r, .int .i64 1]) ∧ w'.ownsRow w.heap.size 5 1 r 0 (([] : List Int).map (Value.int .u8)) ∧ Below w.heap.size w w' := by
  by_cases h8 : n = 8
  · subst h8
    by_cases h13 : m < 13
    · clear h
      go_enter Tryz.func19, Tryz.ntmps19
      go_wp2
      go_ret2
      exact ⟨_, rfl, World.ownsRow_nil _ _ _ _, Below.refl _ _⟩
    · have h100 : 100 < m := by omega
      clear h
      go_enter Tryz.func19, Tryz.ntmps19
      go_wp2
      go_ret2
      exact ⟨_, rfl, World.ownsRow_nil _ _ _ _, Below.refl _ _⟩
  · have hne : ((n : Int) != 8) = true := by simp; omega
    clear h h8
    go_enter Tryz.func19, Tryz.ntmps19
    go_wp2
    go_ret2
    exact ⟨_, rfl, World.ownsRow_nil _ _ _ _, Below.refl _ _⟩
set_option maxRecDepth 20000 in
set_option maxHeartbeats 1000000 in
theorem irp_ok (ak ac : Option Addr) (m pk pc : Nat) (ts js : List Int) (w : World) (hk : Row w .u8 (.slice ak 8 pk) ts) (hc : Row w .u8 (.slice ac m pc) js) (lk : ts.length = 8) (em : js.length = m) (h13 : 13 ≤ m) (h100 : m ≤ 100) (bj : Bytes js) :
    Calls Tryz.prog 19 #[.slice ak 8 pk, .slice ac m pc] w fun e w' => ∃ r, e = .returned (.tuple #[r, .int .i64 0]) ∧ w'.ownsRow w.heap.size 5 1 r (rpV ts js).length ((rpV ts js).map (Value.int .u8)) ∧ Below w.heap.size w w' := by
  have bx := bj.at 0
  have e64 := rp_byte (js.getD 0 0) bx.1 bx.2
  have HC : Hid _ := And.intro (iconcat _ [js, ts] _ (parts2 hc hk 22) (by simp) (by simp; omega)) True.intro
  have eg : (js ++ ts).getD 0 0 = js.getD 0 0 := by
    match js, em with
    | [], h => simp at h; omega
    | a :: b, _ => rfl
  have er : rpV ts js = (js ++ ts).set 0 (64 + js.getD 0 0 % 64) := by
    match js, em with
    | [], h => simp at h; omega
    | a :: b, _ => rfl
  have HH : Hid _ := And.intro eg (And.intro er (And.intro lk em))
  clear hk hc bj lk em eg er
  obtain ⟨x, ex⟩ : ∃ x, x = js.getD 0 0 := ⟨_, rfl⟩
  rw [← ex] at bx e64 HH
  clear ex
  go_enter Tryz.func19, Tryz.ntmps19
  go_wp2_with fail
  go_at_call 46
  refine HC.out.1.mono ?_
  rintro e w2 ⟨q2, rfl, o2, b2⟩
  have ef : ([js, ts] : List (List Int)).flatten = js ++ ts := by simp
  have el : (js ++ ts).length = m + 8 := by rw [List.length_append, HH.out.2.2.1, HH.out.2.2.2]
  rw [ef, el] at o2
  obtain ⟨g2, p2, rfl, _, _⟩ := owns_shape o2 (by omega)
  have c0 := owns_cell o2 el (k := 0) (by omega)
  rw [HH.out.1] at c0
  have f0 := o2.frozenAt 0
  have r2 := (o2.stored 0 (.int .u8 (64 + x % 64))).1
  rw [← List.map_set] at r2
  have b0 := (Below.refl w.heap.size w).alloc (Nat.le_refl _) (.cells #[.slice ac m pc, .slice ak 8 pk] 22)
  have B2 := (b0.trans (b2.mono b0.size)).setCell (p := ⟨g2, 0, none⟩) (Nat.le_trans b0.size (o2.lt g2 rfl).1) (.int .u8 (64 + x % 64))
  have H2 : Hid _ := And.intro (owns_mono r2 b0.size) (And.intro B2 el)
  clear r2 B2 b2 o2 b0 ef el
  go_wp2
  go_ret2
  refine ⟨_, rfl, ?_, H2.out.2.1⟩
  rw [HH.out.2.1, List.length_set, H2.out.2.2]
  exact H2.out.1
end Go.Proofs.YtoalillggafnpaaGreatDoor

namespace Go.Proofs.YtoalillggafnpaaGreatDoor
open Go.RowKit
set_option linter.unusedVariables false

theorem shortBr (x : Int) (h : x < 64 ∨ 127 < x) (w : World) : Calls Tryz.prog 47 #[.int .u8 x] w fun e w' => e = .returned (.bool false) ∧ w' = w := by
  by_cases h1 : 64 ≤ x
  · have d1 : decide ((64 : Int) ≤ x) = true := decide_eq_true h1
    have d2 : decide (x < 128) = false := decide_eq_false (by omega)
    clear h h1
    go_enter Tryz.func47, Tryz.ntmps47
    go_wp2
    go_ret
    exact ⟨rfl, rfl⟩
  · have d1 : decide ((64 : Int) ≤ x) = false := decide_eq_false h1
    clear h h1
    go_enter Tryz.func47, Tryz.ntmps47
    go_wp2
    go_ret
    exact ⟨rfl, rfl⟩
theorem shortG (x : Int) (h1 : 64 ≤ x) (h2 : x ≤ 127) (w : World) : Calls Tryz.prog 47 #[.int .u8 x] w fun e w' => e = .returned (.bool true) ∧ w' = w := by
  have d1 : decide ((64 : Int) ≤ x) = true := decide_eq_true h1
  have d2 : decide (x < 128) = true := decide_eq_true (by omega)
  clear h1 h2
  go_enter Tryz.func47, Tryz.ntmps47
  go_wp2
  go_ret
  exact ⟨rfl, rfl⟩
set_option maxRecDepth 20000 in
set_option maxHeartbeats 1000000 in
theorem isrI_long (ab at' : Option Addr) (nb m pb ct : Nat) (w : World) (hb : nb ≤ 9223372036854775807) (hm : m ≤ 9223372036854775807) (h1 : 65536 < nb) :
    Calls Tryz.prog 21 #[.slice ab nb pb, .slice at' m ct] w fun e w' => e = .returned (.int .i64 (-1)) ∧ Below w.heap.size w w' := by
  have d1 : decide ((65536 : Int) < (nb : Int)) = true := decide_eq_true (by omega)
  clear hb hm h1
  go_enter Tryz.func21, Tryz.ntmps21
  go_wp2
  go_ret
  exact ⟨rfl, (Below.refl _ _).alloc (Nat.le_refl _) _⟩
set_option maxRecDepth 20000 in
set_option maxHeartbeats 1000000 in
theorem isrI_many (ab at' : Option Addr) (nb m pb ct : Nat) (w : World) (hb : nb ≤ 9223372036854775807) (hm : m ≤ 9223372036854775807) (h1 : nb ≤ 65536) (h2 : 4096 < m) :
    Calls Tryz.prog 21 #[.slice ab nb pb, .slice at' m ct] w fun e w' => e = .returned (.int .i64 (-1)) ∧ Below w.heap.size w w' := by
  have d1 : decide ((65536 : Int) < (nb : Int)) = false := decide_eq_false (by omega)
  have d2 : decide ((4096 : Int) < (m : Int)) = true := decide_eq_true (by omega)
  clear hb hm h1 h2
  go_enter Tryz.func21, Tryz.ntmps21
  go_wp2
  go_ret
  exact ⟨rfl, (Below.refl _ _).alloc (Nat.le_refl _) _⟩
set_option maxRecDepth 20000 in
set_option maxHeartbeats 1000000 in
theorem isrI_short (ab at' : Option Addr) (nb m pb ct : Nat) (w : World) (hb : nb ≤ 9223372036854775807) (hm : m ≤ 9223372036854775807) (h1 : nb < 21) (h2 : m ≤ 4096) :
    Calls Tryz.prog 21 #[.slice ab nb pb, .slice at' m ct] w fun e w' => e = .returned (.int .i64 (-1)) ∧ Below w.heap.size w w' := by
  have d1 : decide ((65536 : Int) < (nb : Int)) = false := decide_eq_false (by omega)
  have d2 : decide ((4096 : Int) < (m : Int)) = false := decide_eq_false (by omega)
  have d3 : decide ((nb : Int) < 21) = true := decide_eq_true (by omega)
  clear hb hm h1 h2
  go_enter Tryz.func21, Tryz.ntmps21
  go_wp2
  go_ret
  exact ⟨rfl, (Below.refl _ _).alloc (Nat.le_refl _) _⟩
set_option maxRecDepth 20000 in
set_option maxHeartbeats 1000000 in
theorem isrI_low (b off pb : Nat) (at' : Option Addr) (nb m ct : Nat) (x0 : Int) (w : World) (hb : b < w.heap.size) (c0 : w.cell? ⟨b, off, none⟩ = some (.int .u8 x0)) (h1 : nb ≤ 65536) (h2 : m ≤ 4096) (h3 : 21 ≤ nb) (h4 : x0 < 64) :
    Calls Tryz.prog 21 #[.slice (some ⟨b, off, none⟩) nb pb, .slice at' m ct] w fun e w' => e = .returned (.int .i64 (-1)) ∧ Below w.heap.size w w' := by
  have d1 : decide ((65536 : Int) < (nb : Int)) = false := decide_eq_false (by omega)
  have d2 : decide ((4096 : Int) < (m : Int)) = false := decide_eq_false (by omega)
  have d3 : decide ((nb : Int) < 21) = false := decide_eq_false (by omega)
  have hp : (0 : Int) < (nb : Int) := by omega
  have SH := shortBr x0 (Or.inl h4)
  have c1 := (Below.refl w.heap.size w).alloc (Nat.le_refl _) (.cells #[.slice (some ⟨b, off, none⟩) nb pb] 22)
  have c2 := (c1.cell (p := ⟨b, off, none⟩) hb).trans c0
  have HS : Hid _ := And.intro SH c1
  clear SH c1 hb c0 h1 h2 h3 h4
  go_enter Tryz.func21, Tryz.ntmps21
  go_wp2_with (go_at_call 47; refine (HS.out.1 _).mono ?_; rintro e w' ⟨rfl, hw⟩; subst w')
  go_ret
  exact ⟨rfl, HS.out.2⟩
set_option maxRecDepth 20000 in
set_option maxHeartbeats 1000000 in
theorem isrI_high (b off pb : Nat) (at' : Option Addr) (nb m ct : Nat) (x0 : Int) (w : World) (hb : b < w.heap.size) (c0 : w.cell? ⟨b, off, none⟩ = some (.int .u8 x0)) (h1 : nb ≤ 65536) (h2 : m ≤ 4096) (h3 : 21 ≤ nb) (h4 : 64 ≤ x0) (h5 : 127 < x0) :
    Calls Tryz.prog 21 #[.slice (some ⟨b, off, none⟩) nb pb, .slice at' m ct] w fun e w' => e = .returned (.int .i64 (-1)) ∧ Below w.heap.size w w' := by
  have d1 : decide ((65536 : Int) < (nb : Int)) = false := decide_eq_false (by omega)
  have d2 : decide ((4096 : Int) < (m : Int)) = false := decide_eq_false (by omega)
  have d3 : decide ((nb : Int) < 21) = false := decide_eq_false (by omega)
  have hp : (0 : Int) < (nb : Int) := by omega
  have SH := shortBr x0 (Or.inr h5)
  have c1 := (Below.refl w.heap.size w).alloc (Nat.le_refl _) (.cells #[.slice (some ⟨b, off, none⟩) nb pb] 22)
  have c2 := (c1.cell (p := ⟨b, off, none⟩) hb).trans c0
  have HS : Hid _ := And.intro SH c1
  clear SH c1 hb c0 h1 h2 h3 h4 h5
  go_enter Tryz.func21, Tryz.ntmps21
  go_wp2_with (go_at_call 47; refine (HS.out.1 _).mono ?_; rintro e w' ⟨rfl, hw⟩; subst w')
  go_ret
  exact ⟨rfl, HS.out.2⟩
end Go.Proofs.YtoalillggafnpaaGreatDoor

namespace Go.Proofs.YtoalillggafnpaaGreatDoor
open Go.RowKit
set_option linter.unusedVariables false

set_option maxHeartbeats 1000000 in
theorem bEq_true (aa ab' : Option Addr) (ca cb : Nat) (xs : List Int) (w : World) (ra : Row w .u8 (.slice aa 8 ca) xs) (rb : Row w .u8 (.slice ab' 8 cb) xs) (l8 : xs.length = 8) :
    Calls Tryz.prog 74 #[.slice aa 8 ca, .slice ab' 8 cb] w fun e w' => e = .returned (.bool true) ∧ w' = w := by
  have h1 := conv_rowR Tryz.underlying22 Tryz.underlying5 Tryz.underlying9 ra (by omega)
  have h2 := conv_rowR Tryz.underlying22 Tryz.underlying5 Tryz.underlying9 rb (by omega)
  clear ra rb l8
  generalize strOfNums xs = s at h1 h2
  go_enter Tryz.func74, Tryz.ntmps74
  go_wp2
  go_ret
  exact ⟨rfl, rfl⟩
set_option maxHeartbeats 1000000 in
theorem bEq_false (aa ab' : Option Addr) (ca cb : Nat) (xs ys : List Int) (w : World) (ra : Row w .u8 (.slice aa 8 ca) xs) (rb : Row w .u8 (.slice ab' 8 cb) ys) (l8 : xs.length = 8) (m8 : ys.length = 8) (bx : Bytes xs) (by' : Bytes ys) (hne : xs ≠ ys) :
    Calls Tryz.prog 74 #[.slice aa 8 ca, .slice ab' 8 cb] w fun e w' => e = .returned (.bool false) ∧ w' = w := by
  have h1 := conv_rowR Tryz.underlying22 Tryz.underlying5 Tryz.underlying9 ra (by omega)
  have h2 := conv_rowR Tryz.underlying22 Tryz.underlying5 Tryz.underlying9 rb (by omega)
  have h3 := str_ne xs ys bx by' hne
  clear ra rb l8 m8 bx by' hne
  generalize strOfNums xs = s at h1 h3
  generalize strOfNums ys = t at h2 h3
  go_enter Tryz.func74, Tryz.ntmps74
  go_wp2
  go_ret
  exact ⟨rfl, rfl⟩
set_option maxRecDepth 20000 in
set_option maxHeartbeats 1000000 in
theorem hasSuf (b off n pb : Nat) (au : Option Addr) (cu : Nat) (t xs : List Int) (r : Bool) (w : World) (rb : Row w .u8 (.slice (some ⟨b, off + n, none⟩) 8 (pb - n)) t) (hp1 : n + 8 ≤ pb) (hp2 : pb ≤ 9223372036854775807) (ru : Row w .u8 (.slice au 8 cu) xs) (lt : t.length = 8) (lx : xs.length = 8) (bt : Bytes t) (bx : Bytes xs) (hr : (r = true ∧ xs = t) ∨ (r = false ∧ xs ≠ t)) :
    Calls Tryz.prog 50 #[.slice (some ⟨b, off, none⟩) (n + 8) pb, .slice au 8 cu] w fun e w' => e = .returned (.bool r) ∧ w' = w := by
  have EQ : Calls Tryz.prog 74 #[.slice (some ⟨b, off + n, none⟩) 8 (pb - n), .slice au 8 cu] w fun e w' => e = .returned (.bool r) ∧ w' = w := by
    rcases hr with ⟨rfl, rfl⟩ | ⟨rfl, hne⟩
    · exact bEq_true _ _ _ _ xs w rb ru lx
    · exact bEq_false _ _ _ _ t xs w rb ru lt lx bt bx (fun e => hne e.symm)
  have hne : ¬ pb = n := by omega
  have hpn : (n : Int) ≤ (pb : Int) := by omega
  have hpn8 : (n : Int) ≤ (n : Int) + 8 := by omega
  have H : Hid _ := And.intro EQ True.intro
  clear EQ rb ru lt lx bt bx hr
  go_enter Tryz.func50, Tryz.ntmps50
  go_wp2_with (go_at_call 74; refine H.out.1.mono ?_; rintro e w' ⟨rfl, hw⟩; subst w')
  go_ret
  exact ⟨rfl, rfl⟩
set_option maxRecDepth 20000 in
set_option maxHeartbeats 1000000 in
/-- The closure: whether a token is the one that the packet ends with. -/
theorem isrClo (g : Nat) (b off n pb : Nat) (au : Option Addr) (cu nu : Nat) (t xs : List Int) (r : Bool) (w : World) (hg : w.cell? ⟨g, 0, none⟩ = some (.slice (some ⟨b, off, none⟩) (n + 8) pb)) (rb : Row w .u8 (.slice (some ⟨b, off + n, none⟩) 8 (pb - n)) t) (hp1 : n + 8 ≤ pb) (hp2 : pb ≤ 9223372036854775807) (ru : Row w .u8 (.slice au nu cu) xs) (lt : t.length = 8) (lx : xs.length = nu) (bt : Bytes t) (bx : Bytes xs) (hnu : nu ≤ 1048576) (hr : (r = true ∧ xs = t) ∨ (r = false ∧ xs ≠ t)) :
    Calls Tryz.prog 49 #[.slice au nu cu, .pointer (some ⟨g, 0, none⟩)] w fun e w' => e = .returned (.bool r) ∧ w' = w := by
  by_cases h8 : nu = 8
  · subst h8
    have HS : Hid _ := And.intro (hasSuf b off n pb au cu t xs r w rb hp1 hp2 ru lt lx bt bx hr) True.intro
    clear rb ru lt lx bt bx hr hp1 hp2
    go_enter Tryz.func49, Tryz.ntmps49
    go_wp2_with (go_at_call 50; refine HS.out.1.mono ?_; rintro e w' ⟨rfl, hw⟩; subst w')
    go_ret
    exact ⟨rfl, rfl⟩
  · have hrf : r = false := by
      rcases hr with ⟨_, e⟩ | ⟨e, _⟩
      · exfalso; rw [e] at lx; omega
      · exact e
    subst hrf
    have hne8 : ((nu : Int) == 8) = false := by rw [beq_eq_false_iff_ne]; omega
    clear rb ru lt lx bt bx hr hp1 hp2 h8
    go_enter Tryz.func49, Tryz.ntmps49
    go_wp2
    go_ret
    exact ⟨rfl, rfl⟩
set_option maxRecDepth 20000 in
set_option maxHeartbeats 2000000 in
theorem idxF (g b off n pb : Nat) (at' : Option Addr) (m ct : Nat) (t : List Int) (L : List (List Int)) (r : Int) (w : World) (hg : w.cell? ⟨g, 0, none⟩ = some (.slice (some ⟨b, off, none⟩) (n + 8) pb)) (rb : Row w .u8 (.slice (some ⟨b, off + n, none⟩) 8 (pb - n)) t) (hp1 : n + 8 ≤ pb) (hp2 : pb ≤ 9223372036854775807) (lt : t.length = 8) (bt : Bytes t)
    (hL : SRow w (.slice at' m ct) L) (em : L.length = m) (hm : m ≤ 4096) (bL : ∀ j, Bytes (L.getD j [])) (sL : ∀ j, (L.getD j []).length ≤ 1048576) (ho : IdxOut L t r) :
    Calls Tryz.prog 48 #[.slice at' m ct, .func (.func 49) #[] #[.pointer (some ⟨g, 0, none⟩)]] w fun e w' => e = .returned (.int .i64 r) ∧ w' = w := by
  have HH : Hid _ := And.intro hg (And.intro rb (And.intro lt (And.intro hL (And.intro em (And.intro bL (And.intro sL (And.intro ho (And.intro bt (And.intro hp1 hp2)))))))))
  clear hg rb lt bt hL em bL sL ho hp1 hp2
  go_enter Tryz.func48, Tryz.ntmps48
  go_wp2_with fail
  go_loopw [8] (fun i wr => ∃ k : Nat, k ≤ m ∧ i = .int .i64 (k : Int) ∧ wr = w ∧ ∀ j, j < k → L.getD j [] ≠ t) (fun i _ => m - (intOf i).toNat)
  case atStart => exact ⟨0, by omega, rfl, rfl, fun j hj => by omega⟩
  case round =>
    obtain ⟨k, hk, rfl, ewr, hno⟩ := hrel
    subst wr
    by_cases hlt : k < m
    · obtain ⟨b2, o2, c2, ev, hbl, hc⟩ := HH.out.2.2.2.1.at' (by have := HH.out.2.2.2.2.1; omega)
      simp only [Value.slice.injEq] at ev
      obtain ⟨rfl, em2, rfl⟩ := ev
      clear em2
      obtain ⟨u, hu, ru⟩ := hc k (by have := HH.out.2.2.2.2.1; omega)
      obtain ⟨au, cu, rfl⟩ := ru.form
      by_cases heq : L.getD k [] = t
      · have CL := isrClo g b off n pb au cu _ t (L.getD k []) true w HH.out.1 HH.out.2.1 HH.out.2.2.2.2.2.2.2.2.2.1 HH.out.2.2.2.2.2.2.2.2.2.2 ru HH.out.2.2.1 rfl HH.out.2.2.2.2.2.2.2.2.1 (HH.out.2.2.2.2.2.1 k) (HH.out.2.2.2.2.2.2.1 k) (Or.inl ⟨rfl, heq⟩)
        have hr := HH.out.2.2.2.2.2.2.2.1.hit k (by have := HH.out.2.2.2.2.1; omega) heq hno
        subst hr
        have HC : Hid _ := And.intro CL True.intro
        clear CL ru heq hno hc
        generalize (L.getD k []).length = nk at hu HC
        go_wp2_with (go_at_call 49; refine HC.out.1.mono ?_; rintro e w' ⟨rfl, hw⟩; subst w')
        go_ret
        exact ⟨rfl, by trivial⟩
      · have CL := isrClo g b off n pb au cu _ t (L.getD k []) false w HH.out.1 HH.out.2.1 HH.out.2.2.2.2.2.2.2.2.2.1 HH.out.2.2.2.2.2.2.2.2.2.2 ru HH.out.2.2.1 rfl HH.out.2.2.2.2.2.2.2.2.1 (HH.out.2.2.2.2.2.1 k) (HH.out.2.2.2.2.2.2.1 k) (Or.inr ⟨rfl, heq⟩)
        have HC : Hid _ := And.intro CL (And.intro hno heq)
        clear CL ru heq hno hc
        generalize hnk : (L.getD k []).length = nk at hu HC
        clear hnk
        go_wp2_with (go_at_call 49; refine HC.out.1.mono ?_; rintro e w' ⟨rfl, hw⟩; subst w')
        go_roundw
        case rel => exact ⟨k + 1, by omega, by go_num, by trivial, fun j hj => by
          by_cases hjk : j = k
          · rw [hjk]; exact HC.out.2.2
          · exact HC.out.2.1 j (by omega)⟩
        case measure => simp [intOf]; omega
    · have hr := HH.out.2.2.2.2.2.2.2.1.miss (fun j hj => hno j (by have := HH.out.2.2.2.2.1; omega))
      subst hr
      clear hno
      go_wp2
      go_ret
      exact ⟨rfl, by trivial⟩
set_option maxRecDepth 20000 in
set_option maxHeartbeats 4000000 in
theorem isrI_core (b off n pb : Nat) (xs : List Int) (at' : Option Addr) (m ct : Nat) (L : List (List Int)) (r : Int) (w : World) (hx : Row w .u8 (.slice (some ⟨b, off, none⟩) (n + 8) pb) xs) (hN : xs.length = n + 8) (h13 : 13 ≤ n) (hmx : n + 8 ≤ 65536) (bx : Bytes xs) (x0 : Int) (hx0 : x0 = xs.getD 0 0) (h64 : 64 ≤ x0) (h127 : x0 ≤ 127)
    (hL : SRow w (.slice at' m ct) L) (em : L.length = m) (hm : m ≤ 4096) (bL : ∀ j, Bytes (L.getD j [])) (sL : ∀ j, (L.getD j []).length ≤ 1048576) (ho : IdxOut L (xs.drop n) r) :
    Calls Tryz.prog 21 #[.slice (some ⟨b, off, none⟩) (n + 8) pb, .slice at' m ct] w fun e w' => e = .returned (.int .i64 r) ∧ Below w.heap.size w w' := by
  obtain ⟨b', off', cap', eq', hbl, hcap, hcs⟩ := hx.full (by omega)
  rw [hN] at eq' hcap
  cases eq'
  have rowB : Row w .u8 (.slice (some ⟨b, off + n, none⟩) 8 (pb - n)) (xs.drop n) := by
    have := row_cut (at' := n) (n := 8) (cap' := pb - n) (cap := pb) hbl hcs (by omega) ⟨by omega, by have := hcap.2; omega⟩
    rw [List.take_of_length_le (by rw [List.length_drop]; omega)] at this
    exact this
  have bB : Bytes (xs.drop n) := fun x hx => bx x (List.mem_of_mem_drop hx)
  have lB : (xs.drop n).length = 8 := by rw [List.length_drop]; omega
  have c0 : w.cell? ⟨b, off, none⟩ = some (.int .u8 x0) := by have h := hcs 0 (by omega); rw [Nat.add_zero] at h; rw [h, hx0]
  have hp2 : pb ≤ 9223372036854775807 := by have := hcap.2; unfold maxLen at this; omega
  have SH := shortG x0 h64 h127
  have c1 := (Below.refl w.heap.size w).alloc (Nat.le_refl _) (.cells #[.slice (some ⟨b, off, none⟩) (n + 8) pb] 22)
  have c2 := (c1.cell (p := ⟨b, off, none⟩) hbl).trans c0
  have hgx : (w.alloc (.cells #[.slice (some ⟨b, off, none⟩) (n + 8) pb] 22)).cell? ⟨w.heap.size, 0, none⟩ = some (.slice (some ⟨b, off, none⟩) (n + 8) pb) := by
    rw [blkS_cell (MapKept.heap_alloc w _).1]
    rfl
  have IX := idxF w.heap.size b off n pb at' m ct (xs.drop n) L r _ hgx (rowB.below c1) hcap.1 hp2 lB bB (hL.below c1) em hm bL sL ho
  have hd1 : decide ((65536 : Int) < (n : Int) + 8) = false := decide_eq_false (by omega)
  have hd2 : decide ((n : Int) + 8 < 21) = false := decide_eq_false (by omega)
  have hd3 : decide ((4096 : Int) < (m : Int)) = false := decide_eq_false (by omega)
  have HS : Hid _ := And.intro SH (And.intro c1 IX)
  clear SH c1 hbl c0 h13 hmx h64 h127 hm IX hgx rowB bB lB hx hN bx hx0 hL em bL sL ho hcs hcap
  go_enter Tryz.func21, Tryz.ntmps21
  go_wp2_with (first
    | (go_at_call 47; refine (HS.out.1 _).mono ?_; rintro e w' ⟨rfl, hw⟩; subst w')
    | (go_at_call 48; refine HS.out.2.2.mono ?_; rintro e w' ⟨rfl, hw⟩; subst w'))
  go_ret
  exact ⟨rfl, HS.out.2.1⟩
end Go.Proofs.YtoalillggafnpaaGreatDoor
