import Derived.Test.YtcljchbceeiheaaDoorICids
import Derived.Test.YtcljchbceeiheaaDoorAppRow
import Derived.Test.YtcljchbceeiheaaDoorToBytes
namespace Go.Proofs.YtcljchbceeiheaaDoor
open Go.RowKit
set_option linter.unusedVariables false
set_option linter.unusedSimpArgs false

theorem owns_take {w : World} {base g cap n m : Nat} {xs : List Int} (h : w.ownsRow base 5 1 (.slice (some ⟨g, 0, none⟩) n cap) n (xs.map (Value.int .u8))) (hm : m ≤ n) : w.ownsRow base 5 1 (.slice (some ⟨g, 0, none⟩) m cap) m ((xs.take m).map (Value.int .u8)) := by
  have hl : xs.length = n := by simpa using h.1
  refine ⟨by simp; omega, ?_⟩
  rcases h.2 with ⟨e, _⟩ | ⟨g', cap', cur, e, hb, hg, h1, h2, h3, h4⟩
  · cases e
  · cases e
    refine .inr ⟨g, cap, cur, rfl, hb, hg, by omega, h2, h3, ?_⟩
    have : cur.toList.take (m * 1) = (cur.toList.take (n * 1)).take (m * 1) := by rw [List.take_take]; congr 1; omega
    rw [this, h4, List.map_take]
    simp
set_option maxRecDepth 20000 in
set_option maxHeartbeats 1000000 in
theorem grow_zero (w : World) : Calls Tryd.prog 52 #[.slice none 0 0, .int .i64 0] w fun e w' => ∃ r, e = .returned r ∧ w'.ownsRow w.heap.size 5 1 r 0 (([] : List Int).map (Value.int .u8)) ∧ Below w.heap.size w w' := by
  go_enter Tryd.func52, Tryd.ntmps52
  go_wp2
  go_ret
  exact ⟨_, rfl, World.ownsRow_nil _ _ _ _, Below.refl _ _⟩
/-- 'append(nil, make([]byte, n)...)': a new row of n zeros. -/
theorem run_append_zeros (w : World) (ty : TypeId) (n : Nat) (h0 : 0 < n) (h1 : n ≤ 1099511627776) :
    ∃ cap w', (Builtin.append_ #[22, 3] ty #[.slice none 0 0, .int .i64 (n : Int)]).run Tryd.prog w = .ok (.slice (some ⟨w.heap.size, 0, none⟩) n cap) w' ∧ w'.ownsRow w.heap.size 5 1 (.slice (some ⟨w.heap.size, 0, none⟩) 0 cap) 0 (([] : List Int).map (Value.int .u8)) ∧ cap ≤ 9223372036854775807 ∧ Below w.heap.size w w' := by
  obtain ⟨i, hi, hz, hs, hb⟩ := info_parts infoByte
  have hn : n ≠ 0 := by omega
  have h63' : ¬ (9223372036854775807 < (n : Int)) := by omega
  have h48' : ¬ (281474976710656 < Builtin.nextslicecap n 0 * i.bytes) := by rw [nextslicecap_zero h0, hb]; omega
  have hw : IntKind.i64.wrap (n : Int) = (n : Int) := by rw [IntKind.wrap_i64]; omega
  have hneg : ¬ ((n : Int) < 0) := by omega
  have hnt : ¬ ((n : Int) ≤ 0) := by omega
  have hmx : max (n : Int) 0 = (n : Int) := by omega
  have hbig : ¬ ((281474976710656 : Int) < (n : Int) * (i.bytes : Int)) := by rw [hb]; omega
  have hge := grownCap_ge w n 0 5
  have hcm : grownCap w n 0 5 ≤ maxLen := grownCap_le_maxLen w n 0 5 (by unfold maxLen; omega)
  have hne : n * i.size ≠ 0 := by rw [hs]; omega
  refine ⟨grownCap w n 0 5, w.drew.alloc (.cells (Builtin.zeroCells (Value.int .u8 0).cells n ++ Builtin.zeroCells (Value.int .u8 0).cells (grownCap w n 0 5 - n)) 5), ?_, ?_, ?_, ?_⟩
  · simp [Builtin.append_, run_underlying Tryd.underlying22, run_underlying Tryd.underlying3, sizeOf, typeInfo, zeroValue, hi, hz, hn, h63', h48', hw, hneg, hbig, hs, asInt, asIntOf, hnt, hmx, Question.forced, run_firstCells_none, newRow, grownCap]
  · refine ⟨by simp, .inr ⟨w.heap.size, _, _, rfl, Nat.le_refl _, heap_alloc_new w.drew _, Nat.zero_le _, hcm, ?_, by simp⟩⟩
    simp only [Array.size_append, size_zeroCells]
    have : (Value.int .u8 0).cells.size = 1 := by decide
    rw [this]; omega
  · unfold maxLen at hcm; omega
  · exact (below_drewN (Below.refl w.heap.size w) 1).alloc (Nat.le_refl _) _
theorem wpList_append_zeros {w : World} {ops : Array Oper} {rest : List Oper} {o : Oper} {a : Act} {Q : Exit → Act → World → Prop} (hgd : o.guard = none) (p q : Operand)
    (ho : o.op = .call { callee := .builtin .append, args := #[p, q], argTypes := #[22, 3] }) (n : Nat) (hp : a.eval p = .slice none 0 0) (hq : a.eval q = .int .i64 (n : Int)) (h0 : 0 < n) (h1 : n ≤ 1099511627776)
    (h : ∀ cap w', w'.ownsRow w.heap.size 5 1 (.slice (some ⟨w.heap.size, 0, none⟩) 0 cap) 0 (([] : List Int).map (Value.int .u8)) → cap ≤ 9223372036854775807 → Below w.heap.size w w' → wpList Tryd.prog ops Q rest (a.put o.dst (.slice (some ⟨w.heap.size, 0, none⟩) n cap)) w') :
    wpList Tryd.prog ops Q (o :: rest) a w := by
  obtain ⟨cap, w', hr, h2, h3, h4⟩ := run_append_zeros w o.type n h0 h1
  refine wpList_plain hgd fun K hK => ?_
  unfold Oper.wp execOp
  simp only [ho, resolve, invoke, builtin, Sem.run_bind, Sem.run_pure, Result.andThen_ok, List.map_toArray, List.map_cons, List.map_nil, hp, hq, hr]
  exact hK _ _ (h cap w' h2 h3 h4)
set_option maxRecDepth 20000 in
set_option maxHeartbeats 1000000 in
theorem grow_pos (n : Nat) (w : World) (h0 : 0 < n) (h1 : n ≤ 1099511627776) : Calls Tryd.prog 52 #[.slice none 0 0, .int .i64 (n : Int)] w fun e w' => ∃ r, e = .returned r ∧ w'.ownsRow w.heap.size 5 1 r 0 (([] : List Int).map (Value.int .u8)) ∧ Below w.heap.size w w' := by
  have h0' : (0 : Int) < (n : Int) := by omega
  go_enter Tryd.func52, Tryd.ntmps52
  go_wp2_with (at_builtin; refine wpList_append_zeros rfl (.tmp 20) (.tmp 21) rfl n rfl rfl h0 h1 ?_; intro cap w1 hown hcap hb; have HF : Hid _ := And.intro hown hb; clear hown hb)
  go_ret
  exact ⟨_, rfl, HF.out.1, HF.out.2⟩
theorem grow_nil (n : Nat) (w : World) (h1 : n ≤ 1099511627776) : Calls Tryd.prog 52 #[.slice none 0 0, .int .i64 (n : Int)] w fun e w' => ∃ r, e = .returned r ∧ w'.ownsRow w.heap.size 5 1 r 0 (([] : List Int).map (Value.int .u8)) ∧ Below w.heap.size w w' := by
  by_cases h0 : n = 0
  · subst h0; exact grow_zero w
  · exact grow_pos n w (by omega) h1

set_option maxRecDepth 20000 in
set_option maxHeartbeats 2000000 in
/-- slices.Concat: all parts, one behind the other, in a new row. -/
theorem iconcat (vp : Value) (L : List (List Int)) (w : World) (hp : Parts w vp L) (lL : L.length ≤ 1000) (hs : L.flatten.length ≤ 1099511627776) :
    Calls Tryd.prog 31 #[vp] w fun e w' => ∃ r, e = .returned r ∧ w'.ownsRow w.heap.size 5 1 r L.flatten.length (L.flatten.map (Value.int .u8)) ∧ Below w.heap.size w w' := by
  obtain ⟨p, capp, rfl, hpl, hpc⟩ := hp.at'
  obtain ⟨m, em⟩ : ∃ m, m = L.length := ⟨_, rfl⟩
  have fb : ∀ k, (L.take k).flatten.length ≤ 1099511627776 := fun k => by
    have : (L.take k).flatten.length ≤ L.flatten.length := by
      conv => rhs; rw [← List.take_append_drop k L]
      rw [List.flatten_append, List.length_append]
      omega
    omega
  have HH : Hid _ := And.intro em (And.intro fb (And.intro hpc hs))
  rw [← em] at lL ⊢
  clear em hs hp hpc fb
  go_enter Tryd.func31, Tryd.ntmps31
  go_wp2_with fail
  go_loopw [11, 3] (fun i c wr => ∃ k : Nat, k ≤ m ∧ i = .int .i64 (k : Int) ∧ c = .int .i64 (((L.take k).flatten.length : Nat) : Int) ∧ wr = w) (fun i _ _ => m - (intOf i).toNat)
  case atStart => exact ⟨0, by omega, rfl, by simp, rfl⟩
  case round =>
    obtain ⟨k, hk, rfl, rfl, ewr⟩ := hrel
    subst wr
    by_cases hlt : k < m
    · obtain ⟨v, hv, hr⟩ := HH.out.2.2.1 k (by have := HH.out.1; omega)
      have fl : (L.take (k + 1)).flatten.length = (L.take k).flatten.length + (L.getD k []).length := by rw [flat_take L k (by have := HH.out.1; omega), List.length_append]
      have fb := HH.out.2.1 (k + 1)
      obtain ⟨av, cpv, rfl⟩ := hr.form
      have H4 : Hid _ := And.intro fl True.intro
      have hsum : (L.take k).flatten.length + (L.getD k []).length ≤ 1099511627776 := by omega
      clear hr fl fb
      generalize (L.getD k []).length = nx at hv H4 hsum
      obtain ⟨nt, ent⟩ : ∃ q, q = (L.take k).flatten.length := ⟨_, rfl⟩
      rw [← ent] at hsum ⊢
      have EN : Hid _ := And.intro ent True.intro
      clear ent
      have hnn : ¬ ((nt : Int) + (nx : Int) < 0) := by omega
      go_wp2
      go_roundw
      case rel => exact ⟨k + 1, by omega, by go_num, by rw [H4.out.1, ← EN.out.1]; simp, by trivial⟩
      case measure => simp [intOf]; omega
    · obtain rfl : k = m := by omega
      have el : L.take k = L := List.take_of_length_le (by have := HH.out.1; omega)
      rw [el]
      have lp := HH.out.2.2.2
      obtain ⟨nt, ent⟩ : ∃ q, q = L.flatten.length := ⟨_, rfl⟩
      rw [← ent] at lp ⊢
      have EN : Hid _ := And.intro ent True.intro
      clear ent el
      go_wp2_with fail
      go_at_call 52
      refine (grow_nil nt _ lp).mono ?_
      rintro e w1 ⟨r1, rfl, o1, b1⟩
      have H1 : Hid _ := And.intro o1 b1
      clear o1 b1
      go_wp2_with fail
      go_loopw [27, 6] (fun i c wr => ∃ j : Nat, j ≤ k ∧ i = .int .i64 (j : Int) ∧ wr.ownsRow w.heap.size 5 1 c (L.take j).flatten.length ((L.take j).flatten.map (Value.int .u8)) ∧ Below w.heap.size w wr) (fun i _ _ => k - (intOf i).toNat)
      case atStart => exact ⟨0, by omega, rfl, by simpa using H1.out.1, H1.out.2⟩
      case round =>
        obtain ⟨j, hj, rfl, ow, bw⟩ := hrel
        by_cases hjt : j < k
        · obtain ⟨v, hv, hr⟩ := HH.out.2.2.1 j (by have := HH.out.1; omega)
          have cv := (bw.cell (p := ⟨p, j, none⟩) hpl).trans hv
          have ft := flat_take L j (by have := HH.out.1; omega)
          have fb := HH.out.2.1 (j + 1)
          have fl : (L.take (j + 1)).flatten.length = (L.take j).flatten.length + (L.getD j []).length := by rw [ft, List.length_append]
          have H4 : Hid _ := And.intro ow (And.intro bw (And.intro (hr.below bw) (And.intro ft (And.intro fl (show (L.take j).flatten.length + (L.getD j []).length ≤ 1099511627776 by omega)))))
          clear ow bw hr hv ft fb fl
          go_wp2_with (at_builtin; refine wpList_append_row rfl (.tmp 31) (.tmp 32) rfl w.heap.size _ _ _ rfl H4.out.1 v (L.getD j []) rfl H4.out.2.2.1 (by have := H4.out.2.2.2.2.2; omega) H4.out.2.1.size ?_; intro q5 w5 o5 g5; have H5 : Hid _ := And.intro o5 g5; clear o5 g5)
          go_roundw
          case rel =>
            refine ⟨j + 1, by omega, by go_num, ?_, ?_⟩
            · rw [H4.out.2.2.2.2.1, H4.out.2.2.2.1]; exact H5.out.1
            · exact H4.out.2.1.grown H5.out.2 H4.out.2.1.size (fun q hq => (H4.out.1.lt q hq).1)
          case measure => simp [intOf]; omega
        · obtain rfl : j = k := by omega
          have el : L.take j = L := List.take_of_length_le (by have := HH.out.1; omega)
          rw [el] at ow
          have H4 : Hid _ := And.intro ow bw
          clear ow bw
          go_wp2
          go_ret
          exact ⟨_, rfl, H4.out.1, H4.out.2⟩
end Go.Proofs.YtcljchbceeiheaaDoor
