import Derived.Test.YtohooehbjbhhhaaDoorRhK
import Derived.Test.YtohooehbjbhhhaaDoorRhJ
namespace Go.Proofs.YtohooehbjbhhhaaDoor
open Go.RowKit
set_option linter.unusedVariables false

theorem z4 {w : World} {g : Nat} (h : w.heap[g]? = some zfO) : w.cell? ⟨g, 0, none⟩ = some (.int .i64 0) ∧ w.cell? ⟨g, 1, none⟩ = some (.int .i64 0) ∧ w.cell? ⟨g, 2, none⟩ = some (.slice none 0 0) ∧ w.cell? ⟨g, 3, none⟩ = some (.slice none 0 0) ∧ w.frozen? ⟨g, 0, none⟩ = false ∧ w.frozen? ⟨g, 1, none⟩ = false ∧ w.frozen? ⟨g, 2, none⟩ = false ∧ w.frozen? ⟨g, 3, none⟩ = false :=
  ⟨(bk_cell h 0).trans rfl, (bk_cell h 1).trans rfl, (bk_cell h 2).trans rfl, (bk_cell h 3).trans rfl, bk_free h 0, bk_free h 1, bk_free h 2, bk_free h 3⟩
set_option maxRecDepth 20000 in
theorem rhS_long (ao : Option Addr) (n cap : Nat) (at' : Int) (w : World) (hn : n ≤ 9223372036854775807) (h : 65536 < n) :
    Calls Tryd.prog 4 #[.slice ao n cap, .int .i64 at'] w fun e w' => RhA' w.heap.size e w' (zHF, 0, 4) ∧ Below w.heap.size w w' := by
  have k := heap_alloc_new w zfO
  have hb : Below w.heap.size w (w.alloc zfO) := (Below.refl _ _).alloc (Nat.le_refl _) _
  have hd : (65536 : Int) < (n : Int) := by omega
  go_enter Tryd.func4, Tryd.ntmps4
  obtain ⟨z0, z1, z2, z3, y0, y1, y2, y3⟩ := z4 k
  have HZ : Hid _ := And.intro (hb) (k)
  go_wp2_with fail
  refine bodyPost_ret (v := .tuple #[.agg #[.int .i64 0, .int .i64 0, .slice none 0 0, .slice none 0 0], .int .i64 0, .int .i64 4]) ?_ rfl ?_
  · refine results_row_tmp2R (t := 25) rfl _ _ w.heap.size _ (fr := (0, 0)) _ _ _ rfl rfl rfl ?_ Tryd.underlying25 rfl infoHF
    exact heap_alloc_new w _
  · exact ⟨⟨.slice none 0 0, .slice none 0 0, rfl, World.ownsRow_nil _ _ _ _, GOwns.nil _ _ _ _, fun j h => by cases h⟩, HZ.out.1⟩
set_option maxRecDepth 20000 in
theorem rhS_place (ao : Option Addr) (n cap : Nat) (at' : Int) (w : World) (hn : n ≤ 9223372036854775807) (h0 : n ≤ 65536) (h : at' < 0 ∨ (n : Int) < at') :
    Calls Tryd.prog 4 #[.slice ao n cap, .int .i64 at'] w fun e w' => RhA' w.heap.size e w' (zHF, 0, 1) ∧ Below w.heap.size w w' := by
  have k := heap_alloc_new w zfO
  have hb : Below w.heap.size w (w.alloc zfO) := (Below.refl _ _).alloc (Nat.le_refl _) _
  have hd : ¬ (65536 : Int) < (n : Int) := by omega
  by_cases h1 : at' < 0
  · go_enter Tryd.func4, Tryd.ntmps4
    obtain ⟨z0, z1, z2, z3, y0, y1, y2, y3⟩ := z4 k
    have HZ : Hid _ := And.intro (hb) (k)
    go_wp2_with fail
    refine bodyPost_ret (v := .tuple #[.agg #[.int .i64 0, .int .i64 0, .slice none 0 0, .slice none 0 0], .int .i64 0, .int .i64 1]) ?_ rfl ?_
    · refine results_row_tmp2R (t := 25) rfl _ _ w.heap.size _ (fr := (0, 0)) _ _ _ rfl rfl rfl ?_ Tryd.underlying25 rfl infoHF
      exact heap_alloc_new w _
    · exact ⟨⟨.slice none 0 0, .slice none 0 0, rfl, World.ownsRow_nil _ _ _ _, GOwns.nil _ _ _ _, fun j h => by cases h⟩, HZ.out.1⟩
  · have h2 : (n : Int) < at' := by omega
    go_enter Tryd.func4, Tryd.ntmps4
    obtain ⟨z0, z1, z2, z3, y0, y1, y2, y3⟩ := z4 k
    have HZ : Hid _ := And.intro (hb) (k)
    go_wp2_with fail
    refine bodyPost_ret (v := .tuple #[.agg #[.int .i64 0, .int .i64 0, .slice none 0 0, .slice none 0 0], .int .i64 0, .int .i64 1]) ?_ rfl ?_
    · refine results_row_tmp2R (t := 25) rfl _ _ w.heap.size _ (fr := (0, 0)) _ _ _ rfl rfl rfl ?_ Tryd.underlying25 rfl infoHF
      exact heap_alloc_new w _
    · exact ⟨⟨.slice none 0 0, .slice none 0 0, rfl, World.ownsRow_nil _ _ _ _, GOwns.nil _ _ _ _, fun j h => by cases h⟩, HZ.out.1⟩
/-- The model's world: the answer, the reader. -/
abbrev rsW (w : World) (at' : Int) (ao : Option Addr) (n cap : Nat) : World := (w.alloc zfO).alloc (.cells #[.slice ao n cap, .int .i64 at', .bool false] 36)
theorem rsW_facts (w : World) (at' : Int) (ao : Option Addr) (n cap : Nat) : (rsW w at' ao n cap).heap[w.heap.size]? = some zfO ∧ srB (rsW w at' ao n cap) (w.heap.size + 1) (.slice ao n cap) at' false ∧ Below w.heap.size w (rsW w at' ao n cap) := by
  obtain ⟨h1, h2⟩ := bk_new2 w zfO (.cells #[.slice ao n cap, .int .i64 at', .bool false] 36)
  have b1 : Below w.heap.size w (w.alloc zfO) := (Below.refl _ _).alloc (Nat.le_refl _) _
  exact ⟨h1, h2, b1.alloc b1.size _⟩
theorem rs_R {w u : World} {at' : Int} {ao : Option Addr} {n cap : Nat} (hc : Chg (· = w.heap.size + 1) (rsW w at' ao n cap) u) : u.heap[w.heap.size]? = some zfO ∧ Below w.heap.size w u := by
  obtain ⟨h1, h2, h3⟩ := rsW_facts w at' ao n cap
  have hl := h2.lt
  exact ⟨(hc.block w.heap.size (by omega) (by omega)).trans h1, h3.trans (hc.below h3.size (fun k hk => by omega))⟩
set_option maxRecDepth 20000 in
set_option maxHeartbeats 2000000 in
theorem rhS_no1 (ao : Option Addr) (n cap p : Nat) (xs : List Int) (w : World) (hlie : xs = [] ∨ ∃ b off, ao = some ⟨b, off, none⟩ ∧ Lies w b off n cap xs) (hlen : xs.length = n) (hB : Bytes xs) (hn : n ≤ 65536) (hp : p ≤ n) (hv : ¬ varOK xs p) :
    Calls Tryd.prog 4 #[.slice ao n cap, .int .i64 (p : Int)] w fun e w' => RhA' w.heap.size e w' (zHF, 0, 2) ∧ Below w.heap.size w w' := by
  obtain ⟨h1, h2, h3⟩ := rsW_facts w (p : Int) ao n cap
  have V1 := variableS_bad (w.heap.size + 1) ao n cap (p : Int) 2 xs _ h2 (by
    rcases hlie with rfl | ⟨b, off, rfl, hl⟩
    · exact Or.inl ⟨rfl, _, _, by rw [← hlen]; rfl⟩
    · have := (hl.below h3).row 0 n (by omega)
      rwa [Nat.add_zero, Nat.sub_zero, List.drop_zero, List.take_of_length_le (by rw [hl.len]; exact Nat.le_refl _)] at this) hB (by omega) hlen (gv_not xs p (by omega) (by omega) hv) (by decide)
  have hd1 : ¬ (65536 : Int) < (n : Int) := by omega
  have hd2 : ¬ (p : Int) < 0 := by omega
  have hd3 : ¬ (n : Int) < (p : Int) := by omega
  have HH : Hid _ := And.intro V1 True.intro
  have hp' : 0 ≤ (p : Int) ∧ (p : Int) ≤ n := by omega
  clear V1 h1 h2 h3 hlie hlen hB hv
  go_enter Tryd.func4, Tryd.ntmps4
  go_wp2_with fail
  go_at_call 12
  refine HH.out.1.mono ?_
  rintro e w2 ⟨rfl, r2, c2⟩
  have C3 : Chg (· = w.heap.size + 1) (rsW w (p : Int) ao n cap) (w2.alloc zfO) := c2.trans (Chg.of_below ((Below.refl _ _).alloc (Nat.le_refl _) _))
  have R3 : srB (w2.alloc zfO) (w.heap.size + 1) (.slice ao n cap) (p : Int) true := r2.below ((Below.refl _ _).alloc (Nat.le_refl _) _)
  have H3 : Hid _ := And.intro C3 (And.intro R3 (variableS_sh (w.heap.size + 1) _ _ _ R3))
  have s2 := R3.c2
  clear C3 R3 r2 c2
  go_wp2_with fail
  go_at_call 12
  refine H3.out.2.2.mono ?_
  rintro e w4 ⟨rfl, hw4⟩
  subst hw4
  have T4 := takeS_no (w.heap.size + 1) ao n cap (p : Int) 0 true _ H3.out.2.1 hp' (by omega) (Or.inl rfl)
  go_wp2_with fail
  go_at_call 13
  refine T4.mono ?_
  rintro e w5 ⟨q5, rfl, hq5, o5, r5, c5⟩
  have C6 : Chg (· = w.heap.size + 1) (rsW w (p : Int) ao n cap) (w5.alloc (.cells #[.slice (some ⟨q5, 0, none⟩) 0 0, .int .i64 0, .bool false] 36)) := (H3.out.1.trans c5).trans (Chg.of_below ((Below.refl _ _).alloc (Nat.le_refl _) _))
  have R6 := r5.below ((Below.refl w5.heap.size w5).alloc (Nat.le_refl _) (.cells #[.slice (some ⟨q5, 0, none⟩) 0 0, .int .i64 0, .bool false] 36))
  have s6 := R6.c2
  obtain ⟨K6, B6⟩ := rs_R C6
  clear C6 R6 r5 c5 o5 T4 s2
  obtain ⟨z0, z1, z2, z3, y0, y1, y2, y3⟩ := z4 K6
  have HZ : Hid _ := And.intro (B6) (K6)
  go_wp2_with fail
  refine bodyPost_ret (v := .tuple #[.agg #[.int .i64 0, .int .i64 0, .slice none 0 0, .slice none 0 0], .int .i64 0, .int .i64 2]) ?_ rfl ?_
  · refine results_row_tmp2R (t := 25) rfl _ _ w.heap.size _ (fr := (0, 0)) _ _ _ rfl rfl rfl ?_ Tryd.underlying25 rfl infoHF
    exact st4_heap HZ.out.2
  · exact ⟨⟨.slice none 0 0, .slice none 0 0, rfl, World.ownsRow_nil _ _ _ _, GOwns.nil _ _ _ _, fun j h => by cases h⟩, (((HZ.out.1.setCell (by simp) _).setCell (by simp) _).setCell (by simp) _).setCell (by simp) _⟩
set_option maxRecDepth 20000 in
set_option maxHeartbeats 2000000 in
theorem rhS_no2 (b off n cap p : Nat) (xs : List Int) (w : World) (hl : Lies w b off n cap xs) (hB : Bytes xs) (hn : n ≤ 65536) (hp : p ≤ n) (hv : varOK xs p) (hv2 : ¬ varOK xs (varN xs p)) :
    Calls Tryd.prog 4 #[.slice (some ⟨b, off, none⟩) n cap, .int .i64 (p : Int)] w fun e w' => RhA' w.heap.size e w' (zHF, 0, 2) ∧ Below w.heap.size w w' := by
  obtain ⟨h1, h2, h3⟩ := rsW_facts w (p : Int) (some ⟨b, off, none⟩) n cap
  have hbl := hl.lt
  have V1 := variableS_ok (w.heap.size + 1) b off n cap p xs _ h2 (hl.below h3) hB hn hv
  have hlen := hl.len
  have hb1 := varN_bd xs p hv
  have LI : ∀ u, Chg (· = w.heap.size + 1) (rsW w (p : Int) (some ⟨b, off, none⟩) n cap) u → Lies u b off n cap xs := fun u hc => (hl.below h3).chg hc (by omega)
  have hd1 : ¬ (65536 : Int) < (n : Int) := by omega
  have hd2 : ¬ (p : Int) < 0 := by omega
  have hd3 : ¬ (n : Int) < (p : Int) := by omega
  obtain ⟨K, eK⟩ : ∃ K, K = varV xs p := ⟨_, rfl⟩
  rw [← eK] at V1
  have HH : Hid _ := And.intro V1 (And.intro LI (And.intro hB (And.intro eK (And.intro hv hb1))))
  clear V1 h1 h2 h3 hl hB eK LI hv
  go_enter Tryd.func4, Tryd.ntmps4
  go_wp2_with fail
  go_at_call 12
  refine HH.out.1.mono ?_
  rintro e w2 ⟨rfl, r2, c2⟩
  have C3 : Chg (· = w.heap.size + 1) (rsW w (p : Int) (some ⟨b, off, none⟩) n cap) (w2.alloc (.cells #[.int .i64 K, .int .i64 0, .slice none 0 0, .slice none 0 0] 25)) := c2.trans (Chg.of_below ((Below.refl _ _).alloc (Nat.le_refl _) _))
  have R3 : srB (w2.alloc (.cells #[.int .i64 K, .int .i64 0, .slice none 0 0, .slice none 0 0] 25)) (w.heap.size + 1) (.slice (some ⟨b, off, none⟩) n cap) ((varN xs p : Nat) : Int) false := r2.below ((Below.refl _ _).alloc (Nat.le_refl _) _)
  have F3 : fB (w2.alloc (.cells #[.int .i64 K, .int .i64 0, .slice none 0 0, .slice none 0 0] 25)) w2.heap.size K 0 (.slice none 0 0) (.slice none 0 0) := heap_alloc_new w2 _
  have hgF : w2.heap.size ≠ w.heap.size + 1 := by have := r2.lt; omega
  have hzF : w.heap.size + 2 ≤ w2.heap.size := by have := r2.lt; omega
  have H3 : Hid _ := And.intro C3 (And.intro R3 F3)
  clear C3 R3 F3 r2 c2
  have V2 := variableS_no (w.heap.size + 1) b off n cap (varN xs p) xs _ H3.out.2.1 (HH.out.2.1 _ H3.out.1) HH.out.2.2.1 hn (by omega) hv2
  have hN1 : 0 ≤ ((varN xs p : Nat) : Int) ∧ ((varN xs p : Nat) : Int) ≤ n := by omega
  go_wp2_with fail
  go_at_call 12
  refine V2.mono ?_
  rintro e w4 ⟨rfl, r4, c4⟩
  have s4 := r4.c2
  have T4 := takeS_no (w.heap.size + 1) (some ⟨b, off, none⟩) n cap _ 0 true _ r4 hN1 (by omega) (Or.inl rfl)
  have H4 : Hid _ := And.intro (H3.out.1.trans c4) True.intro
  clear c4 V2
  go_wp2_with fail
  go_at_call 13
  refine T4.mono ?_
  rintro e w5 ⟨q5, rfl, hq5, o5, r5, c5⟩
  have C6 : Chg (· = w.heap.size + 1) (rsW w (p : Int) (some ⟨b, off, none⟩) n cap) (w5.alloc (.cells #[.slice (some ⟨q5, 0, none⟩) 0 0, .int .i64 0, .bool false] 36)) := (H4.out.1.trans c5).trans (Chg.of_below ((Below.refl _ _).alloc (Nat.le_refl _) _))
  have R6 := r5.below ((Below.refl w5.heap.size w5).alloc (Nat.le_refl _) (.cells #[.slice (some ⟨q5, 0, none⟩) 0 0, .int .i64 0, .bool false] 36))
  have s6 := R6.c2
  obtain ⟨K6, B6⟩ := rs_R C6
  clear C6 R6 r5 c5 o5 T4 s4 r4
  obtain ⟨z0, z1, z2, z3, y0, y1, y2, y3⟩ := z4 K6
  have HZ : Hid _ := And.intro (B6) (K6)
  go_wp2_with fail
  refine bodyPost_ret (v := .tuple #[.agg #[.int .i64 0, .int .i64 0, .slice none 0 0, .slice none 0 0], .int .i64 0, .int .i64 2]) ?_ rfl ?_
  · refine results_row_tmp2R (t := 25) rfl _ _ w.heap.size _ (fr := (0, 0)) _ _ _ rfl rfl rfl ?_ Tryd.underlying25 rfl infoHF
    exact st4_heap HZ.out.2
  · exact ⟨⟨.slice none 0 0, .slice none 0 0, rfl, World.ownsRow_nil _ _ _ _, GOwns.nil _ _ _ _, fun j h => by cases h⟩, (((HZ.out.1.setCell (by simp) _).setCell (by simp) _).setCell (by simp) _).setCell (by simp) _⟩
set_option maxRecDepth 20000 in
set_option maxHeartbeats 2000000 in
theorem rhS_big (b off n cap p : Nat) (xs : List Int) (w : World) (hl : Lies w b off n cap xs) (hB : Bytes xs) (hn : n ≤ 65536) (hp : p ≤ n) (hv : varOK xs p) (hv2 : varOK xs (varN xs p)) (m Q2 : Nat) (em : varV xs (varN xs p) = (m : Int)) (eQ2 : varN xs (varN xs p) = Q2) (hbig : 16384 < m) :
    Calls Tryd.prog 4 #[.slice (some ⟨b, off, none⟩) n cap, .int .i64 (p : Int)] w fun e w' => RhA' w.heap.size e w' (zHF, 0, 3) ∧ Below w.heap.size w w' := by
  obtain ⟨h1, h2, h3⟩ := rsW_facts w (p : Int) (some ⟨b, off, none⟩) n cap
  have hbl := hl.lt
  have V1 := variableS_ok (w.heap.size + 1) b off n cap p xs _ h2 (hl.below h3) hB hn hv
  have hlen := hl.len
  have hb1 := varN_bd xs p hv
  have LI : ∀ u, Chg (· = w.heap.size + 1) (rsW w (p : Int) (some ⟨b, off, none⟩) n cap) u → Lies u b off n cap xs := fun u hc => (hl.below h3).chg hc (by omega)
  have hd1 : ¬ (65536 : Int) < (n : Int) := by omega
  have hd2 : ¬ (p : Int) < 0 := by omega
  have hd3 : ¬ (n : Int) < (p : Int) := by omega
  obtain ⟨K, eK⟩ : ∃ K, K = varV xs p := ⟨_, rfl⟩
  rw [← eK] at V1
  have HH : Hid _ := And.intro V1 (And.intro LI (And.intro hB (And.intro eK (And.intro hv hb1))))
  clear V1 h1 h2 h3 hl hB eK LI hv
  go_enter Tryd.func4, Tryd.ntmps4
  go_wp2_with fail
  go_at_call 12
  refine HH.out.1.mono ?_
  rintro e w2 ⟨rfl, r2, c2⟩
  have C3 : Chg (· = w.heap.size + 1) (rsW w (p : Int) (some ⟨b, off, none⟩) n cap) (w2.alloc (.cells #[.int .i64 K, .int .i64 0, .slice none 0 0, .slice none 0 0] 25)) := c2.trans (Chg.of_below ((Below.refl _ _).alloc (Nat.le_refl _) _))
  have R3 : srB (w2.alloc (.cells #[.int .i64 K, .int .i64 0, .slice none 0 0, .slice none 0 0] 25)) (w.heap.size + 1) (.slice (some ⟨b, off, none⟩) n cap) ((varN xs p : Nat) : Int) false := r2.below ((Below.refl _ _).alloc (Nat.le_refl _) _)
  have F3 : fB (w2.alloc (.cells #[.int .i64 K, .int .i64 0, .slice none 0 0, .slice none 0 0] 25)) w2.heap.size K 0 (.slice none 0 0) (.slice none 0 0) := heap_alloc_new w2 _
  have hgF : w2.heap.size ≠ w.heap.size + 1 := by have := r2.lt; omega
  have hzF : w.heap.size + 2 ≤ w2.heap.size := by have := r2.lt; omega
  have H3 : Hid _ := And.intro C3 (And.intro R3 F3)
  clear C3 R3 F3 r2 c2
  have hbg : (16384 : Int) < (m : Int) := by omega
  have V2 := variableS_ok (w.heap.size + 1) b off n cap (varN xs p) xs _ H3.out.2.1 (HH.out.2.1 _ H3.out.1) HH.out.2.2.1 hn hv2
  rw [em, eQ2] at V2
  go_wp2_with fail
  go_at_call 12
  refine V2.mono ?_
  rintro e w4 ⟨rfl, r4, c4⟩
  have s4 := r4.c2
  have C4 := H3.out.1.trans c4
  obtain ⟨K4, B4⟩ := rs_R C4
  clear C4 V2 c4 r4 em eQ2
  obtain ⟨z0, z1, z2, z3, y0, y1, y2, y3⟩ := z4 K4
  have HZ : Hid _ := And.intro (B4) (K4)
  go_wp2_with fail
  refine bodyPost_ret (v := .tuple #[.agg #[.int .i64 0, .int .i64 0, .slice none 0 0, .slice none 0 0], .int .i64 0, .int .i64 3]) ?_ rfl ?_
  · refine results_row_tmp2R (t := 25) rfl _ _ w.heap.size _ (fr := (0, 0)) _ _ _ rfl rfl rfl ?_ Tryd.underlying25 rfl infoHF
    exact st4_heap HZ.out.2
  · exact ⟨⟨.slice none 0 0, .slice none 0 0, rfl, World.ownsRow_nil _ _ _ _, GOwns.nil _ _ _ _, fun j h => by cases h⟩, (((HZ.out.1.setCell (by simp) _).setCell (by simp) _).setCell (by simp) _).setCell (by simp) _⟩
set_option maxRecDepth 20000 in
set_option maxHeartbeats 2000000 in
theorem rhS_short (b off n cap p : Nat) (xs : List Int) (w : World) (hl : Lies w b off n cap xs) (hB : Bytes xs) (hn : n ≤ 65536) (hp : p ≤ n) (hv : varOK xs p) (hv2 : varOK xs (varN xs p)) (m Q2 : Nat) (em : varV xs (varN xs p) = (m : Int)) (eQ2 : varN xs (varN xs p) = Q2) (hbig : ¬ 16384 < m) (hq2 : Q2 ≤ n) (hsh : n < Q2 + m) :
    Calls Tryd.prog 4 #[.slice (some ⟨b, off, none⟩) n cap, .int .i64 (p : Int)] w fun e w' => RhA' w.heap.size e w' (zHF, 0, 2) ∧ Below w.heap.size w w' := by
  obtain ⟨h1, h2, h3⟩ := rsW_facts w (p : Int) (some ⟨b, off, none⟩) n cap
  have hbl := hl.lt
  have V1 := variableS_ok (w.heap.size + 1) b off n cap p xs _ h2 (hl.below h3) hB hn hv
  have hlen := hl.len
  have hb1 := varN_bd xs p hv
  have LI : ∀ u, Chg (· = w.heap.size + 1) (rsW w (p : Int) (some ⟨b, off, none⟩) n cap) u → Lies u b off n cap xs := fun u hc => (hl.below h3).chg hc (by omega)
  have hd1 : ¬ (65536 : Int) < (n : Int) := by omega
  have hd2 : ¬ (p : Int) < 0 := by omega
  have hd3 : ¬ (n : Int) < (p : Int) := by omega
  obtain ⟨K, eK⟩ : ∃ K, K = varV xs p := ⟨_, rfl⟩
  rw [← eK] at V1
  have HH : Hid _ := And.intro V1 (And.intro LI (And.intro hB (And.intro eK (And.intro hv hb1))))
  clear V1 h1 h2 h3 hl hB eK LI hv
  go_enter Tryd.func4, Tryd.ntmps4
  go_wp2_with fail
  go_at_call 12
  refine HH.out.1.mono ?_
  rintro e w2 ⟨rfl, r2, c2⟩
  have C3 : Chg (· = w.heap.size + 1) (rsW w (p : Int) (some ⟨b, off, none⟩) n cap) (w2.alloc (.cells #[.int .i64 K, .int .i64 0, .slice none 0 0, .slice none 0 0] 25)) := c2.trans (Chg.of_below ((Below.refl _ _).alloc (Nat.le_refl _) _))
  have R3 : srB (w2.alloc (.cells #[.int .i64 K, .int .i64 0, .slice none 0 0, .slice none 0 0] 25)) (w.heap.size + 1) (.slice (some ⟨b, off, none⟩) n cap) ((varN xs p : Nat) : Int) false := r2.below ((Below.refl _ _).alloc (Nat.le_refl _) _)
  have F3 : fB (w2.alloc (.cells #[.int .i64 K, .int .i64 0, .slice none 0 0, .slice none 0 0] 25)) w2.heap.size K 0 (.slice none 0 0) (.slice none 0 0) := heap_alloc_new w2 _
  have hgF : w2.heap.size ≠ w.heap.size + 1 := by have := r2.lt; omega
  have hzF : w.heap.size + 2 ≤ w2.heap.size := by have := r2.lt; omega
  have H3 : Hid _ := And.intro C3 (And.intro R3 F3)
  clear C3 R3 F3 r2 c2
  have hbg : ¬ (16384 : Int) < (m : Int) := by omega
  have V2 := variableS_ok (w.heap.size + 1) b off n cap (varN xs p) xs _ H3.out.2.1 (HH.out.2.1 _ H3.out.1) HH.out.2.2.1 hn hv2
  rw [em, eQ2] at V2
  go_wp2_with fail
  go_at_call 12
  refine V2.mono ?_
  rintro e w4 ⟨rfl, r4, c4⟩
  have s4 := r4.c2
  have C4 := H3.out.1.trans c4
  have T4 := takeS_no (w.heap.size + 1) (some ⟨b, off, none⟩) n cap _ (m : Int) false _ r4 ⟨by omega, by omega⟩ (by omega) (Or.inr (by omega))
  have H4 : Hid _ := And.intro C4 True.intro
  clear C4 V2 c4 r4 em eQ2
  go_wp2_with fail
  go_at_call 13
  refine T4.mono ?_
  rintro e w5 ⟨q5, rfl, hq5, o5, r5, c5⟩
  have C6 : Chg (· = w.heap.size + 1) (rsW w (p : Int) (some ⟨b, off, none⟩) n cap) (w5.alloc (.cells #[.slice (some ⟨q5, 0, none⟩) 0 0, .int .i64 0, .bool false] 36)) := (H4.out.1.trans c5).trans (Chg.of_below ((Below.refl _ _).alloc (Nat.le_refl _) _))
  have R6 := r5.below ((Below.refl w5.heap.size w5).alloc (Nat.le_refl _) (.cells #[.slice (some ⟨q5, 0, none⟩) 0 0, .int .i64 0, .bool false] 36))
  have s6 := R6.c2
  obtain ⟨K6, B6⟩ := rs_R C6
  clear C6 R6 r5 c5 o5 T4 s4
  obtain ⟨z0, z1, z2, z3, y0, y1, y2, y3⟩ := z4 K6
  have HZ : Hid _ := And.intro (B6) (K6)
  go_wp2_with fail
  refine bodyPost_ret (v := .tuple #[.agg #[.int .i64 0, .int .i64 0, .slice none 0 0, .slice none 0 0], .int .i64 0, .int .i64 2]) ?_ rfl ?_
  · refine results_row_tmp2R (t := 25) rfl _ _ w.heap.size _ (fr := (0, 0)) _ _ _ rfl rfl rfl ?_ Tryd.underlying25 rfl infoHF
    exact st4_heap HZ.out.2
  · exact ⟨⟨.slice none 0 0, .slice none 0 0, rfl, World.ownsRow_nil _ _ _ _, GOwns.nil _ _ _ _, fun j h => by cases h⟩, (((HZ.out.1.setCell (by simp) _).setCell (by simp) _).setCell (by simp) _).setCell (by simp) _⟩
end Go.Proofs.YtohooehbjbhhhaaDoor
