import Derived.Test.YteggfkekgdlecaaGreatDoorAg_S
import Derived.Deep.LoopGhost
import Derived.Test.YteggfkekgdlecaaGreatDoorPartsB
import Derived.Test.YteggfkekgdlecaaGreatDoorAppRow
import Derived.Test.YteggfkekgdlecaaGreatDoorToBytes
import Derived.Test.YteggfkekgdlecaaGreatDoorLongS
import Derived.Test.YteggfkekgdlecaaGreatDoorAg_P
import Derived.Test.YteggfkekgdlecaaGreatDoorBook
import Derived.Test.YteggfkekgdlecaaGreatDoorVersS
import Derived.Test.YteggfkekgdlecaaGreatDoorHoS
import Derived.Maps.OwnSet
import Derived.StringKeys
import Derived.Test.YteggfkekgdlecaaGreatDoorAg_Q
import Derived.Deep.RegionWith
import Derived.Deep.CutRange
namespace Go.Proofs.YteggfkekgdlecaaGreatDoor
open Go.RowKit
set_option linter.unusedVariables false
set_option linter.unusedSimpArgs false

/-- slices.Index over ints: whether it finds. -/
theorem indexN (v : Value) (ys : List Int) (x : Int) (w : World) (hr : Row w .i64 v ys) (hy : ys.length ≤ 4096) :
    Calls Tryz.prog 56 #[v, .int .i64 x] w fun e w' => ∃ i : Int, e = .returned (.int .i64 i) ∧ Hid (decide (0 ≤ i) = ys.contains x) ∧ w' = w := by
  obtain ⟨ao, ca, rfl, hca⟩ := hr.cells
  obtain ⟨n, en⟩ : ∃ n, n = ys.length := ⟨_, rfl⟩
  rw [← en] at hy hca ⊢
  have H0 : Hid _ := And.intro en hca
  clear en hca hr
  go_enter Tryz.func56, Tryz.ntmps56
  go_wp2
  go_loopg [5, 8] n (fun q iv kv wr => ∃ k : Nat, k ≤ n ∧ q = n - k ∧ kv = .int .i64 (k : Int) ∧ wr = w ∧ ∀ j, j < k → x ≠ ys.getD j 0)
  case atStart => exact ⟨0, Nat.zero_le _, rfl, rfl, rfl, fun j h => by omega⟩
  case round =>
    obtain ⟨k, hk, hq, rfl, rfl, hno⟩ := hrel
    have HN : Hid _ := And.intro hno hq
    clear hno hq
    by_cases hlt : k < n
    · obtain ⟨b, off, rfl, hbl, c1⟩ := H0.out.2 k hlt
      obtain ⟨y, ey⟩ : ∃ y, y = ys.getD k 0 := ⟨_, rfl⟩
      rw [← ey] at c1
      have HY : Hid _ := ey
      clear ey
      by_cases he : x = y
      · subst he
        go_wp2
        go_ret
        refine ⟨(k : Int), rfl, ?_, rfl⟩
        show _ = _
        rw [HY.out, contains_yes ys k (by have := H0.out.1; omega)]
        simp
      · have f1 : (x == y) = false := by simpa using he
        have HE : Hid _ := he
        clear he
        go_wp2
        go_roundg (n - (k + 1))
        case measure => (have := HN.out.2; omega)
        case rel => exact ⟨k + 1, by omega, by omega, by go_num, rfl, fun j hj => by
          by_cases e : j = k
          · rw [e, ← HY.out]; exact HE.out
          · exact HN.out.1 j (by omega)⟩
    · have hnk : ¬ (k : Int) < (n : Int) := by omega
      have hke : k = n := by omega
      go_wp2
      go_ret
      have hc := contains_no ys x (fun j hj => HN.out.1 j (by have := H0.out.1; omega))
      refine ⟨-1, rfl, ?_, rfl⟩
      first
        | (show (0 ≤ (-1 : Int) ↔ x ∈ ys); exact ⟨fun h => by omega, fun h => absurd h (by simpa using hc)⟩)
        | (show _ = _; rw [hc]; rfl)
theorem containsN (v : Value) (ys : List Int) (x : Int) (w : World) (hr : Row w .i64 v ys) (hy : ys.length ≤ 4096) :
    Calls Tryz.prog 30 #[v, .int .i64 x] w fun e w' => e = .returned (.bool (ys.contains x)) ∧ w' = w := by
  obtain ⟨R, eR⟩ : ∃ R, R = ys.contains x := ⟨_, rfl⟩
  have C := indexN v ys x w hr hy
  rw [← eR] at C ⊢
  obtain ⟨ao, ca, rfl, -⟩ := hr.cells
  clear hr eR
  have HC : Hid _ := And.intro C True.intro
  clear C
  go_enter Tryz.func30, Tryz.ntmps30
  go_wp2_with fail
  go_at_call 56
  refine HC.out.1.mono ?_
  rintro e w1 ⟨i, rfl, hi, hw⟩
  subst hw
  go_wp2
  go_ret
  first
    | exact ⟨congrArg (fun b => Ending.returned (Value.bool b)) hi.out, rfl⟩
    | exact congrArg (fun b => Ending.returned (Value.bool b)) hi.out
/-- slices.Index over texts: whether it finds. -/
theorem indexT (v : Value) (L : List ByteArray) (x : ByteArray) (w : World) (hr : TRow w v L) (hy : L.length ≤ 4096) :
    Calls Tryz.prog 57 #[v, .string x] w fun e w' => ∃ i : Int, e = .returned (.int .i64 i) ∧ Hid (decide (0 ≤ i) = true ↔ ∃ j, j < L.length ∧ (L.getD j ByteArray.empty).data = x.data) ∧ w' = w := by
  obtain ⟨ao, ca, rfl, hca⟩ := hr.cells
  obtain ⟨n, en⟩ : ∃ n, n = L.length := ⟨_, rfl⟩
  obtain ⟨P, eP⟩ : ∃ P : Prop, P = ∃ j, j < L.length ∧ (L.getD j ByteArray.empty).data = x.data := ⟨_, rfl⟩
  rw [← eP]
  rw [← en] at hy hca ⊢
  have H0 : Hid _ := And.intro en (And.intro hca eP)
  clear en hca hr eP
  go_enter Tryz.func57, Tryz.ntmps57
  go_wp2
  go_loopg [5, 8] n (fun q iv kv wr => ∃ k : Nat, k ≤ n ∧ q = n - k ∧ kv = .int .i64 (k : Int) ∧ wr = w ∧ ∀ j, j < k → (L.getD j ByteArray.empty).data ≠ x.data)
  case atStart => exact ⟨0, Nat.zero_le _, rfl, rfl, rfl, fun j h => by omega⟩
  case round =>
    obtain ⟨k, hk, hq, rfl, rfl, hno⟩ := hrel
    have HN : Hid _ := And.intro hno hq
    clear hno hq
    by_cases hlt : k < n
    · obtain ⟨b, off, rfl, hbl, c1⟩ := H0.out.2.1 k hlt
      obtain ⟨y, ey⟩ : ∃ y, y = L.getD k ByteArray.empty := ⟨_, rfl⟩
      rw [← ey] at c1
      have HY : Hid _ := ey
      clear ey
      by_cases he : x.data = y.data
      · have hp : P := by rw [H0.out.2.2]; exact ⟨k, by have := H0.out.1; omega, by rw [← HY.out]; exact he.symm⟩
        have HP : Hid _ := hp
        have f1 := beq_yes he
        have f2 := tl_yes he
        clear he hp
        go_wp2
        go_ret
        exact ⟨(k : Int), rfl, ⟨fun _ => HP.out, fun _ => decide_eq_true (by omega)⟩, rfl⟩
      · have f1 := beq_no he
        have f2 := tl_no he
        have HE : Hid _ := he
        clear he
        go_wp2
        go_roundg (n - (k + 1))
        case measure => (have := HN.out.2; omega)
        case rel => exact ⟨k + 1, by omega, by omega, by go_num, rfl, fun j hj => by
          by_cases e : j = k
          · rw [e, ← HY.out]; exact fun q => HE.out q.symm
          · exact HN.out.1 j (by omega)⟩
    · have hnk : ¬ (k : Int) < (n : Int) := by omega
      have hke : k = n := by omega
      have hnp : ¬ P := by
        rw [H0.out.2.2]
        rintro ⟨j, hj, e⟩
        exact HN.out.1 j (by have := H0.out.1; omega) e
      have HP : Hid _ := hnp
      clear hnp
      go_wp2
      go_ret
      refine ⟨-1, rfl, ?_, rfl⟩
      first
        | (show _ ↔ P; exact ⟨fun h => absurd h (by decide), fun h => absurd h HP.out⟩)
        | (show ¬ P; exact HP.out)
theorem containsT (v : Value) (L : List ByteArray) (x : ByteArray) (w : World) (hr : TRow w v L) (hy : L.length ≤ 4096) :
    Calls Tryz.prog 31 #[v, .string x] w fun e w' => ∃ b : Bool, e = .returned (.bool b) ∧ Hid (b = true ↔ ∃ j, j < L.length ∧ (L.getD j ByteArray.empty).data = x.data) ∧ w' = w := by
  obtain ⟨P, eP⟩ : ∃ P : Prop, P = ∃ j, j < L.length ∧ (L.getD j ByteArray.empty).data = x.data := ⟨_, rfl⟩
  have C := indexT v L x w hr hy
  rw [← eP] at C ⊢
  obtain ⟨ao, ca, rfl, -⟩ := hr.cells
  clear hr eP
  have HC : Hid _ := And.intro C True.intro
  clear C
  go_enter Tryz.func31, Tryz.ntmps31
  go_wp2_with fail
  go_at_call 57
  refine HC.out.1.mono ?_
  rintro e w1 ⟨i, rfl, hi, hw⟩
  subst hw
  go_wp2
  go_ret
  exact ⟨_, rfl, hi, rfl⟩
end Go.Proofs.YteggfkekgdlecaaGreatDoor

namespace Go.Proofs.YteggfkekgdlecaaGreatDoor
open Go.RowKit
set_option linter.unusedVariables false

end Go.Proofs.YteggfkekgdlecaaGreatDoor

namespace Go.Proofs.YteggfkekgdlecaaGreatDoor
open Go.RowKit
set_option linter.unusedVariables false
set_option linter.unusedSimpArgs false

theorem owns_take {w : World} {base g cap n m : Nat} {xs : List Int} (h : w.ownsRow base 5 1 (.slice (some ⟨g, 0, none⟩) n cap) n (xs.map (Value.int .u8))) (hm : m ≤ n) : w.ownsRow base 5 1 (.slice (some ⟨g, 0, none⟩) m cap) m ((xs.take m).map (Value.int .u8)) := by
  have hl : xs.length = n := by simpa using h.1
  refine ⟨by simp; omega, ?_⟩
  rcases h.2 with ⟨e, _⟩ | ⟨g', cap', cur, e, hb, hg, h1, h2, h3, h4⟩
  · cases e
  · cases e
    refine .inr ⟨g, cap, cur, rfl, hb, hg, by omega, h2, h3, ?_⟩
    have : cur.toList.take (m * 1) = (cur.toList.take (n * 1)).take (m * 1) := by rw [List.take_take]; congr 1; omega
    rw [this, h4, List.map_take]
    simp
set_option maxRecDepth 20000 in
set_option maxHeartbeats 1000000 in
theorem grow_zero (w : World) : Calls Tryz.prog 77 #[.slice none 0 0, .int .i64 0] w fun e w' => ∃ r, e = .returned r ∧ w'.ownsRow w.heap.size 5 1 r 0 (([] : List Int).map (Value.int .u8)) ∧ Below w.heap.size w w' := by
  go_enter Tryz.func77, Tryz.ntmps77
  go_wp2
  go_ret
  exact ⟨_, rfl, World.ownsRow_nil _ _ _ _, Below.refl _ _⟩
/-- 'append(nil, make([]byte, n)...)': a new row of n zeros. -/
theorem run_append_zeros (w : World) (ty : TypeId) (n : Nat) (h0 : 0 < n) (h1 : n ≤ 1099511627776) :
    ∃ cap w', (Builtin.append_ #[22, 3] ty #[.slice none 0 0, .int .i64 (n : Int)]).run Tryz.prog w = .ok (.slice (some ⟨w.heap.size, 0, none⟩) n cap) w' ∧ w'.ownsRow w.heap.size 5 1 (.slice (some ⟨w.heap.size, 0, none⟩) 0 cap) 0 (([] : List Int).map (Value.int .u8)) ∧ cap ≤ 9223372036854775807 ∧ Below w.heap.size w w' := by
  obtain ⟨i, hi, hz, hs, hb⟩ := info_parts infoByte
  have hn : n ≠ 0 := by omega
  have h63' : ¬ (9223372036854775807 < (n : Int)) := by omega
  have h48' : ¬ (281474976710656 < Builtin.nextslicecap n 0 * i.bytes) := by rw [nextslicecap_zero h0, hb]; omega
  have hw : IntKind.i64.wrap (n : Int) = (n : Int) := by rw [IntKind.wrap_i64]; omega
  have hneg : ¬ ((n : Int) < 0) := by omega
  have hnt : ¬ ((n : Int) ≤ 0) := by omega
  have hmx : max (n : Int) 0 = (n : Int) := by omega
  have hbig : ¬ ((281474976710656 : Int) < (n : Int) * (i.bytes : Int)) := by rw [hb]; omega
  have hge := grownCap_ge w n 0 5
  have hcm : grownCap w n 0 5 ≤ maxLen := grownCap_le_maxLen w n 0 5 (by unfold maxLen; omega)
  have hne : n * i.size ≠ 0 := by rw [hs]; omega
  refine ⟨grownCap w n 0 5, w.drew.alloc (.cells (Builtin.zeroCells (Value.int .u8 0).cells n ++ Builtin.zeroCells (Value.int .u8 0).cells (grownCap w n 0 5 - n)) 5), ?_, ?_, ?_, ?_⟩
  · simp [Builtin.append_, run_underlying Tryz.underlying22, run_underlying Tryz.underlying3, sizeOf, typeInfo, zeroValue, hi, hz, hn, h63', h48', hw, hneg, hbig, hs, asInt, asIntOf, hnt, hmx, Question.forced, run_firstCells_none, newRow, grownCap]
  · refine ⟨by simp, .inr ⟨w.heap.size, _, _, rfl, Nat.le_refl _, heap_alloc_new w.drew _, Nat.zero_le _, hcm, ?_, by simp⟩⟩
    simp only [Array.size_append, size_zeroCells]
    have : (Value.int .u8 0).cells.size = 1 := by decide
    rw [this]; omega
  · unfold maxLen at hcm; omega
  · exact (below_drewN (Below.refl w.heap.size w) 1).alloc (Nat.le_refl _) _
theorem wpList_append_zeros {w : World} {ops : Array Oper} {rest : List Oper} {o : Oper} {a : Act} {Q : Exit → Act → World → Prop} (hgd : o.guard = none) (p q : Operand)
    (ho : o.op = .call { callee := .builtin .append, args := #[p, q], argTypes := #[22, 3] }) (n : Nat) (hp : a.eval p = .slice none 0 0) (hq : a.eval q = .int .i64 (n : Int)) (h0 : 0 < n) (h1 : n ≤ 1099511627776)
    (h : ∀ cap w', w'.ownsRow w.heap.size 5 1 (.slice (some ⟨w.heap.size, 0, none⟩) 0 cap) 0 (([] : List Int).map (Value.int .u8)) → cap ≤ 9223372036854775807 → Below w.heap.size w w' → wpList Tryz.prog ops Q rest (a.put o.dst (.slice (some ⟨w.heap.size, 0, none⟩) n cap)) w') :
    wpList Tryz.prog ops Q (o :: rest) a w := by
  obtain ⟨cap, w', hr, h2, h3, h4⟩ := run_append_zeros w o.type n h0 h1
  refine wpList_plain hgd fun K hK => ?_
  unfold Oper.wp execOp
  simp only [ho, resolve, invoke, builtin, Sem.run_bind, Sem.run_pure, Result.andThen_ok, List.map_toArray, List.map_cons, List.map_nil, hp, hq, hr]
  exact hK _ _ (h cap w' h2 h3 h4)
set_option maxRecDepth 20000 in
set_option maxHeartbeats 1000000 in
theorem grow_pos (n : Nat) (w : World) (h0 : 0 < n) (h1 : n ≤ 1099511627776) : Calls Tryz.prog 77 #[.slice none 0 0, .int .i64 (n : Int)] w fun e w' => ∃ r, e = .returned r ∧ w'.ownsRow w.heap.size 5 1 r 0 (([] : List Int).map (Value.int .u8)) ∧ Below w.heap.size w w' := by
  have h0' : (0 : Int) < (n : Int) := by omega
  go_enter Tryz.func77, Tryz.ntmps77
  go_wp2_with (at_builtin; refine wpList_append_zeros rfl (.tmp 20) (.tmp 21) rfl n rfl rfl h0 h1 ?_; intro cap w1 hown hcap hb; have HF : Hid _ := And.intro hown hb; clear hown hb)
  go_ret
  exact ⟨_, rfl, HF.out.1, HF.out.2⟩
theorem grow_nil (n : Nat) (w : World) (h1 : n ≤ 1099511627776) : Calls Tryz.prog 77 #[.slice none 0 0, .int .i64 (n : Int)] w fun e w' => ∃ r, e = .returned r ∧ w'.ownsRow w.heap.size 5 1 r 0 (([] : List Int).map (Value.int .u8)) ∧ Below w.heap.size w w' := by
  by_cases h0 : n = 0
  · subst h0; exact grow_zero w
  · exact grow_pos n w (by omega) h1

set_option maxRecDepth 20000 in
set_option maxHeartbeats 2000000 in
/-- slices.Concat: all parts, one behind the other, in a new row. -/
theorem iconcat (vp : Value) (L : List (List Int)) (w : World) (hp : Parts w vp L) (lL : L.length ≤ 1000) (hs : L.flatten.length ≤ 1099511627776) :
    Calls Tryz.prog 55 #[vp] w fun e w' => ∃ r, e = .returned r ∧ w'.ownsRow w.heap.size 5 1 r L.flatten.length (L.flatten.map (Value.int .u8)) ∧ Below w.heap.size w w' := by
  obtain ⟨p, capp, rfl, hpl, hpc⟩ := hp.at'
  obtain ⟨m, em⟩ : ∃ m, m = L.length := ⟨_, rfl⟩
  have fb : ∀ k, (L.take k).flatten.length ≤ 1099511627776 := fun k => by
    have : (L.take k).flatten.length ≤ L.flatten.length := by
      conv => rhs; rw [← List.take_append_drop k L]
      rw [List.flatten_append, List.length_append]
      omega
    omega
  have HH : Hid _ := And.intro em (And.intro fb (And.intro hpc hs))
  rw [← em] at lL ⊢
  clear em hs hp hpc fb
  go_enter Tryz.func55, Tryz.ntmps55
  go_wp2_with fail
  go_loopw [11, 3] (fun i c wr => ∃ k : Nat, k ≤ m ∧ i = .int .i64 (k : Int) ∧ c = .int .i64 (((L.take k).flatten.length : Nat) : Int) ∧ wr = w) (fun i _ _ => m - (intOf i).toNat)
  case atStart => exact ⟨0, by omega, rfl, by simp, rfl⟩
  case round =>
    obtain ⟨k, hk, rfl, rfl, ewr⟩ := hrel
    subst wr
    by_cases hlt : k < m
    · obtain ⟨v, hv, hr⟩ := HH.out.2.2.1 k (by have := HH.out.1; omega)
      have fl : (L.take (k + 1)).flatten.length = (L.take k).flatten.length + (L.getD k []).length := by rw [flat_take L k (by have := HH.out.1; omega), List.length_append]
      have fb := HH.out.2.1 (k + 1)
      obtain ⟨av, cpv, rfl⟩ := hr.form
      have H4 : Hid _ := And.intro fl True.intro
      have hsum : (L.take k).flatten.length + (L.getD k []).length ≤ 1099511627776 := by omega
      clear hr fl fb
      generalize (L.getD k []).length = nx at hv H4 hsum
      obtain ⟨nt, ent⟩ : ∃ q, q = (L.take k).flatten.length := ⟨_, rfl⟩
      rw [← ent] at hsum ⊢
      have EN : Hid _ := And.intro ent True.intro
      clear ent
      have hnn : ¬ ((nt : Int) + (nx : Int) < 0) := by omega
      go_wp2
      go_roundw
      case rel => exact ⟨k + 1, by omega, by go_num, by rw [H4.out.1, ← EN.out.1]; simp, by trivial⟩
      case measure => simp [intOf]; omega
    · obtain rfl : k = m := by omega
      have el : L.take k = L := List.take_of_length_le (by have := HH.out.1; omega)
      rw [el]
      have lp := HH.out.2.2.2
      obtain ⟨nt, ent⟩ : ∃ q, q = L.flatten.length := ⟨_, rfl⟩
      rw [← ent] at lp ⊢
      have EN : Hid _ := And.intro ent True.intro
      clear ent el
      go_wp2_with fail
      go_at_call 77
      refine (grow_nil nt _ lp).mono ?_
      rintro e w1 ⟨r1, rfl, o1, b1⟩
      have H1 : Hid _ := And.intro o1 b1
      clear o1 b1
      go_wp2_with fail
      go_loopw [27, 6] (fun i c wr => ∃ j : Nat, j ≤ k ∧ i = .int .i64 (j : Int) ∧ wr.ownsRow w.heap.size 5 1 c (L.take j).flatten.length ((L.take j).flatten.map (Value.int .u8)) ∧ Below w.heap.size w wr) (fun i _ _ => k - (intOf i).toNat)
      case atStart => exact ⟨0, by omega, rfl, by simpa using H1.out.1, H1.out.2⟩
      case round =>
        obtain ⟨j, hj, rfl, ow, bw⟩ := hrel
        by_cases hjt : j < k
        · obtain ⟨v, hv, hr⟩ := HH.out.2.2.1 j (by have := HH.out.1; omega)
          have cv := (bw.cell (p := ⟨p, j, none⟩) hpl).trans hv
          have ft := flat_take L j (by have := HH.out.1; omega)
          have fb := HH.out.2.1 (j + 1)
          have fl : (L.take (j + 1)).flatten.length = (L.take j).flatten.length + (L.getD j []).length := by rw [ft, List.length_append]
          have H4 : Hid _ := And.intro ow (And.intro bw (And.intro (hr.below bw) (And.intro ft (And.intro fl (show (L.take j).flatten.length + (L.getD j []).length ≤ 1099511627776 by omega)))))
          clear ow bw hr hv ft fb fl
          go_wp2_with (at_builtin; refine wpList_append_row rfl (.tmp 31) (.tmp 32) rfl w.heap.size _ _ _ rfl H4.out.1 v (L.getD j []) rfl H4.out.2.2.1 (by have := H4.out.2.2.2.2.2; omega) H4.out.2.1.size ?_; intro q5 w5 o5 g5; have H5 : Hid _ := And.intro o5 g5; clear o5 g5)
          go_roundw
          case rel =>
            refine ⟨j + 1, by omega, by go_num, ?_, ?_⟩
            · rw [H4.out.2.2.2.2.1, H4.out.2.2.2.1]; exact H5.out.1
            · exact H4.out.2.1.grown H5.out.2 H4.out.2.1.size (fun q hq => (H4.out.1.lt q hq).1)
          case measure => simp [intOf]; omega
        · obtain rfl : j = k := by omega
          have el : L.take j = L := List.take_of_length_le (by have := HH.out.1; omega)
          rw [el] at ow
          have H4 : Hid _ := And.intro ow bw
          clear ow bw
          go_wp2
          go_ret
          exact ⟨_, rfl, H4.out.1, H4.out.2⟩
end Go.Proofs.YteggfkekgdlecaaGreatDoor

namespace Go.Proofs.YteggfkekgdlecaaGreatDoor
open Go.RowKit
set_option linter.unusedVariables false

theorem parts_at {w : World} {p n cap : Nat} {vs : List Value} {L : List (List Int)} {t : TypeId} (hp : w.heap[p]? = some (.cells vs.toArray t (0, 0))) (hn : n = L.length) (hr : ∀ j, j < L.length → ∃ v, vs[j]? = some v ∧ Row w .u8 v (L.getD j [])) :
    Parts w (.slice (some ⟨p, 0, none⟩) n cap) L := by
  subst hn
  refine ⟨p, cap, rfl, (Array.getElem?_eq_some_iff.1 hp).1, fun j hj => ?_⟩
  obtain ⟨v, h1, h2⟩ := hr j hj
  exact ⟨v, by rw [blkS_cell hp]; simpa using h1, h2⟩
theorem parts6 {w : World} {v1 v2 v3 v4 v5 v6 : Value} {x1 x2 x3 x4 x5 x6 : List Int} (t : TypeId) (h1 : Row w .u8 v1 x1) (h2 : Row w .u8 v2 x2) (h3 : Row w .u8 v3 x3) (h4 : Row w .u8 v4 x4) (h5 : Row w .u8 v5 x5) (h6 : Row w .u8 v6 x6) :
    Parts (w.alloc (.cells #[v1, v2, v3, v4, v5, v6] t)) (.slice (some ⟨w.heap.size, 0, none⟩) 6 6) [x1, x2, x3, x4, x5, x6] := by
  have hb := (Below.refl w.heap.size w).alloc (Nat.le_refl _) (.cells #[v1, v2, v3, v4, v5, v6] t)
  refine parts_at (vs := [v1, v2, v3, v4, v5, v6]) (MapKept.heap_alloc w _).1 rfl (fun j hj => ?_)
  rcases (show j = 0 ∨ j = 1 ∨ j = 2 ∨ j = 3 ∨ j = 4 ∨ j = 5 by simp at hj; omega) with rfl | rfl | rfl | rfl | rfl | rfl
  · exact ⟨v1, rfl, h1.below hb⟩
  · exact ⟨v2, rfl, h2.below hb⟩
  · exact ⟨v3, rfl, h3.below hb⟩
  · exact ⟨v4, rfl, h4.below hb⟩
  · exact ⟨v5, rfl, h5.below hb⟩
  · exact ⟨v6, rfl, h6.below hb⟩
theorem below_new (w : World) (o : Obj) : Below w.heap.size w (w.alloc o) := (Below.refl _ _).alloc (Nat.le_refl _) _
end Go.Proofs.YteggfkekgdlecaaGreatDoor

namespace Go.Proofs.YteggfkekgdlecaaGreatDoor
open Go.RowKit
set_option linter.unusedVariables false

theorem iVok (v : Int) (w : World) (h : vok v) : Calls Tryz.prog 73 #[.int .i64 v] w fun e w' => e = .returned (.bool true) ∧ w' = w := by
  obtain ⟨h1, h2⟩ := h
  go_enter Tryz.func73, Tryz.ntmps73
  go_wp2
  go_ret
  exact ⟨rfl, rfl⟩
theorem iVbad (v : Int) (w : World) (h : ¬ vok v) : Calls Tryz.prog 73 #[.int .i64 v] w fun e w' => e = .returned (.bool false) ∧ w' = w := by
  by_cases h1 : 1 ≤ v
  · have h2 : 4294967295 < v := by unfold vok at h; omega
    have hd : decide (v ≤ 4294967295) = false := decide_eq_false (by omega)
    clear h
    go_enter Tryz.func73, Tryz.ntmps73
    go_wp2
    go_ret
    exact ⟨rfl, rfl⟩
  · have h2 : v < 1 := by omega
    clear h h1
    go_enter Tryz.func73, Tryz.ntmps73
    go_wp2
    go_ret
    exact ⟨rfl, rfl⟩
theorem cids2 (n m : Nat) (d s : List Int) (e : d.length = n) (e2 : s.length = m) : (decide (∀ j, j < ([d, s] : List (List Int)).length → (([d, s] : List (List Int)).getD j []).length ≤ 8)) = decide (n ≤ 8 ∧ m ≤ 8) := by
  rw [decide_eq_decide]
  constructor
  · intro h
    have h0 := h 0 (by simp)
    have h1 := h 1 (by simp)
    simp only [List.getD_cons_zero, List.getD_cons_succ] at h0 h1
    omega
  · intro h j hj
    rcases (show j = 0 ∨ j = 1 by simp at hj; omega) with rfl | rfl
    · simp only [List.getD_cons_zero]; omega
    · simp only [List.getD_cons_zero, List.getD_cons_succ]; omega
theorem cids2_len (d s : List Int) (h : d.length ≤ 9223372036854775807) (h2 : s.length ≤ 9223372036854775807) (j : Nat) : (([d, s] : List (List Int)).getD j []).length ≤ 9223372036854775807 := by
  match j with
  | 0 => exact h
  | 1 => exact h2
  | n + 2 => simp [List.getD]
end Go.Proofs.YteggfkekgdlecaaGreatDoor

namespace Go.Proofs.YteggfkekgdlecaaGreatDoor
open Go.RowKit Go.Maps
set_option linter.unusedVariables false
set_option linter.unusedSimpArgs false

/-- As many as were counted: none was left out. -/
theorem cnt_all (c : Nat → Bool) (z : Nat → Nat) (h0 : z 0 = 0) : ∀ n, (∀ k, k < n → z (k + 1) = if c k then z k else z k + 1) → z n ≤ n ∧ (z n = n ↔ ∀ k, k < n → c k = false)
  | 0, _ => ⟨by omega, ⟨fun _ k hk => by omega, fun _ => h0⟩⟩
  | n + 1, hs => by
    obtain ⟨h1, h2⟩ := cnt_all c z h0 n (fun k hk => hs k (by omega))
    have h3 := hs n (by omega)
    cases hc : c n with
    | true =>
      rw [hc, if_pos rfl] at h3
      refine ⟨by omega, ⟨fun e => by omega, fun e => ?_⟩⟩
      have := e n (by omega)
      rw [hc] at this; cases this
    | false =>
      rw [hc] at h3
      simp only [Bool.false_eq_true, if_false] at h3
      refine ⟨by omega, ⟨fun e k hk => ?_, fun e => ?_⟩⟩
      · by_cases hk2 : k < n
        · exact h2.1 (by omega) k hk2
        · obtain rfl : k = n := by omega
          exact hc
      · have := h2.2 (fun k hk => e k (by omega)); omega
/-- A set of the first k of a list of keys, and how great it is. -/
theorem size_step (u : DataW Unit) (L : List Lit) (hL : ∀ x ∈ L, WideAt.IsKeyLit x) (k : Nat) (hk : k < L.length) : Maps.size (Maps.setOf u (L.take (k + 1))) = if (L.take k).any (fun y => y.sameKey (L[k])) then Maps.size (Maps.setOf u (L.take k)) else Maps.size (Maps.setOf u (L.take k)) + 1 := by
  have ht : ∀ x ∈ L.take k, WideAt.IsKeyLit x := fun x hx => hL x (List.mem_of_mem_take hx)
  rw [List.take_add_one, List.getElem?_eq_getElem hk]
  show Maps.size (Maps.setOf u (L.take k ++ [L[k]])) = _
  rw [setOf_snoc, size_put (tidy_setOf u _ ht), has_setOf u _ _ ht]
theorem size_all (u : DataW Unit) (L : List Lit) (hL : ∀ x ∈ L, WideAt.IsKeyLit x) : (Maps.size (Maps.setOf u L) = L.length) ↔ ∀ k, (hk : k < L.length) → (L.take k).any (fun y => y.sameKey (L[k])) = false := by
  have h := cnt_all (fun k => if hk : k < L.length then (L.take k).any (fun y => y.sameKey (L[k])) else false) (fun k => Maps.size (Maps.setOf u (L.take k))) rfl L.length (fun k hk => by
    rw [size_step u L hL k hk]
    simp only [dif_pos hk])
  rw [List.take_length] at h
  rw [h.2]
  constructor
  · intro q k hk
    have := q k hk
    rwa [dif_pos hk] at this
  · intro q k hk
    rw [dif_pos hk]
    exact q k hk
/-- The texts as keys. -/
def tKey (s : ByteArray) : Lit := .string s.data.toList
theorem lawT : Keyed Tryz.prog 9 := string_keyed Tryz.underlying9
def St (L : List ByteArray) (k : Nat) : DataW Unit := Maps.setOf (.agg []) ((L.take k).map tKey)
theorem St_zero (L : List ByteArray) : St L 0 = .map [] := by simp [St, Maps.setOf]
theorem St_succ (L : List ByteArray) (k : Nat) (h : k < L.length) : St L (k + 1) = (St L k).put (tKey (L.getD k ByteArray.empty)) (.agg []) := by
  unfold St
  rw [List.take_add_one, List.map_append, ← setOf_snoc]
  simp [List.getD, List.getElem?_eq_getElem h]
theorem makeMapT (n : Int) (w : World) : (Instr.makeMap 123 (some (.int .i64 n))).run Tryz.prog w = .ok (.map (some w.heap.size)) (w.alloc (.map #[] 0)) := by
  simp [Instr.makeMap, run_underlying Tryz.underlying123, asInt, asIntOf, Result.andThen]
theorem St_size (L : List ByteArray) : (Maps.size (St L L.length) = L.length) ↔ ∀ i, i < L.length → ∀ k, k < i → (L.getD k ByteArray.empty).data ≠ (L.getD i ByteArray.empty).data := by
  unfold St
  rw [List.take_length]
  have h := size_all (.agg []) (L.map tKey) (fun x hx => by obtain ⟨_, _, rfl⟩ := List.mem_map.1 hx; trivial)
  have hl : (L.map tKey).length = L.length := List.length_map ..
  have key : ∀ k, (hk : k < L.length) → (((L.map tKey).take k).any (fun y => y.sameKey ((L.map tKey)[k]'(by simpa using hk))) = false ↔ ∀ j, j < k → (L.getD j ByteArray.empty).data ≠ (L.getD k ByteArray.empty).data) := fun k hk => by
    rw [List.any_eq_false]
    constructor
    · intro q j hj e
      have hm : tKey (L.getD j ByteArray.empty) ∈ (L.map tKey).take k := by
        rw [List.mem_iff_getElem]
        refine ⟨j, by simp; omega, ?_⟩
        simp [List.getD, show j < L.length by omega]
      have := q _ hm
      apply this
      show (tKey (L.getD j ByteArray.empty)).sameKey _ = true
      rw [List.getElem_map]
      show ((L.getD j ByteArray.empty).data.toList == (L[k]).data.toList) = true
      rw [e, List.getD, List.getElem?_eq_getElem hk, Option.getD_some]
      exact beq_self_eq_true _
    · intro q x hx hs
      obtain ⟨j, hj, e⟩ := List.mem_iff_getElem.1 hx
      have hj' : j < k := by simp at hj; omega
      rw [List.getElem_take, List.getElem_map] at e
      rw [← e, List.getElem_map] at hs
      have hs' : ((L[j]).data.toList == (L[k]).data.toList) = true := hs
      rw [beq_iff_eq] at hs'
      apply q j hj'
      simp only [List.getD, List.getElem?_eq_getElem hk, List.getElem?_eq_getElem (show j < L.length by omega), Option.getD_some]
      exact Array.toList_inj.1 hs'
  constructor
  · intro q i hi
    exact (key i hi).1 (h.1 (by rw [hl]; exact q) i (by rw [hl]; exact hi))
  · intro q
    have t := h.2 (fun i hi => (key i (by rw [← hl]; exact hi)).2 (q i (by rw [← hl]; exact hi)))
    rw [hl] at t
    exact t
set_option maxRecDepth 100000 in
set_option maxHeartbeats 1000000 in
theorem setOfT (v : Value) (L : List ByteArray) (w : World) (hr : TRow w v L) (hy : L.length ≤ 4096) (hw : ∀ j, (L.getD j ByteArray.empty).size ≤ maxLen) :
    Calls Tryz.prog 91 #[v] w fun e w' => e = .returned (.map (some w.heap.size)) ∧ w'.ownsMap Tryz.prog 9 unitElem w.heap.size L.length (St L L.length) ∧ Below w.heap.size w w' := by
  have hmm := makeMapT
  obtain ⟨ao, ca, rfl, hca⟩ := hr.cells
  obtain ⟨n, en⟩ : ∃ n, n = L.length := ⟨_, rfl⟩
  rw [← en] at hy hca ⊢
  have H0 : Hid _ := And.intro en (And.intro hca hw)
  clear en hca hw hr
  go_enter Tryz.func91, Tryz.ntmps91
  go_wp2
  go_loopg [11] n (fun q i wr => ∃ k : Nat, k ≤ n ∧ q = n - k ∧ i = .int .i64 (k : Int) ∧ wr.ownsMap Tryz.prog 9 unitElem w.heap.size k (St L k) ∧ Below w.heap.size w wr)
  case atStart => exact ⟨0, Nat.zero_le _, rfl, rfl, by rw [St_zero]; exact World.ownsMap_made _ _ _ _, (Below.refl _ _).alloc (Nat.le_refl _) _⟩
  case round =>
    obtain ⟨k, hk, rfl, rfl, hown, hbx⟩ := hrel
    by_cases hlt : k < n
    · obtain ⟨b, off, rfl, hbl, c1⟩ := H0.out.2.1 k hlt
      have c2 := (hbx.cell (p := ⟨b, off + k, none⟩) hbl).trans c1
      have hkey : keyOf Tryz.prog 9 (.string (L.getD k ByteArray.empty)) = some (tKey (L.getD k ByteArray.empty)) := Go.WideMaps.keyOf_string_mk Tryz.underlying9 (H0.out.2.2 k)
      obtain ⟨y, ey⟩ : ∃ y, y = L.getD k ByteArray.empty := ⟨_, rfl⟩
      rw [← ey] at c2 hkey
      have EY : Hid _ := And.intro ey True.intro
      clear ey c1
      go_wp2_with (first
        | (at_mapUpdate; refine wpList_mapUpdate_own _ rfl _ _ _ 123 rfl 9 132 lawT Tryz.underlying123 (unitElem (H := Unit)) w.heap.size k _ rfl hown (by unfold maxLen; omega) _ _ _ rfl rfl hkey _ [] unitElem_mk ?_; intro w1 hown1 hgrow1)
        | go_in)
      go_roundg (n - (k + 1))
      case measure => omega
      case rel =>
        refine ⟨k + 1, by omega, rfl, by go_num, ?_, hbx.grown hgrow1 hbx.size (fun j hj => by cases hj; exact Nat.le_refl _)⟩
        rw [St_succ L k (by rw [← H0.out.1]; exact hlt), ← EY.out.1]
        exact hown1
    · obtain rfl : k = n := by omega
      go_wp2
      go_ret
      exact ⟨rfl, hown, hbx⟩
theorem Sd_size (V : List Int) : (Maps.size (Sd V V.length) = V.length) ↔ ∀ i, i < V.length → ∀ k, k < i → V.getD k 0 ≠ V.getD i 0 := by
  unfold Sd
  rw [List.take_length]
  have h := size_all (.agg []) (V.map (Lit.int .i64)) (fun x hx => by obtain ⟨_, _, rfl⟩ := List.mem_map.1 hx; trivial)
  have hl : (V.map (Lit.int .i64)).length = V.length := List.length_map ..
  have key : ∀ k, (hk : k < V.length) → (((V.map (Lit.int .i64)).take k).any (fun y => y.sameKey ((V.map (Lit.int .i64))[k]'(by simpa using hk))) = false ↔ ∀ j, j < k → V.getD j 0 ≠ V.getD k 0) := fun k hk => by
    rw [List.any_eq_false]
    constructor
    · intro q j hj e
      have hm : Lit.int .i64 (V.getD j 0) ∈ (V.map (Lit.int .i64)).take k := by
        rw [List.mem_iff_getElem]
        refine ⟨j, by simp; omega, ?_⟩
        simp [List.getD, show j < V.length by omega]
      have := q _ hm
      apply this
      rw [List.getElem_map]
      show decide (IntKind.i64 = IntKind.i64 ∧ V.getD j 0 = V[k]) = true
      rw [e, List.getD, List.getElem?_eq_getElem hk, Option.getD_some]
      simp
    · intro q x hx hs
      obtain ⟨j, hj, e⟩ := List.mem_iff_getElem.1 hx
      have hj' : j < k := by simp at hj; omega
      rw [List.getElem_take, List.getElem_map] at e
      rw [← e, List.getElem_map] at hs
      have hs' : decide (IntKind.i64 = IntKind.i64 ∧ V[j] = V[k]) = true := hs
      rw [decide_eq_true_eq] at hs'
      apply q j hj'
      simp only [List.getD, List.getElem?_eq_getElem hk, List.getElem?_eq_getElem (show j < V.length by omega), Option.getD_some]
      exact hs'.2
  constructor
  · intro q i hi
    exact (key i hi).1 (h.1 (by rw [hl]; exact q) i (by rw [hl]; exact hi))
  · intro q
    have t := h.2 (fun i hi => (key i (by rw [← hl]; exact hi)).2 (q i (by rw [← hl]; exact hi)))
    rw [hl] at t
    exact t
theorem vnI (s : ByteArray) (w : World) (hs : s.size ≤ 9223372036854775807) : Calls Tryz.prog 82 #[.string s] w fun e w' => e = .returned (.bool (decide (1 ≤ s.size ∧ s.size ≤ 16))) ∧ w' = w := by
  by_cases h1 : 1 ≤ s.size
  · by_cases h2 : s.size ≤ 16
    · rw [decide_eq_true ⟨h1, h2⟩]
      have g1 : (1 : Int) ≤ ((s.size : Nat) : Int) := by omega
      have g2 : ((s.size : Nat) : Int) ≤ 16 := by omega
      go_enter Tryz.func82, Tryz.ntmps82
      go_wp2
      go_ret
      exact ⟨rfl, rfl⟩
    · rw [decide_eq_false (fun q => h2 q.2)]
      have g1 : (1 : Int) ≤ ((s.size : Nat) : Int) := by omega
      have g2 : ¬ ((s.size : Nat) : Int) ≤ 16 := by omega
      go_enter Tryz.func82, Tryz.ntmps82
      go_wp2
      go_ret
      exact ⟨rfl, rfl⟩
  · rw [decide_eq_false (fun q => h1 q.1)]
    have g1 : ¬ (1 : Int) ≤ ((s.size : Nat) : Int) := by omega
    go_enter Tryz.func82, Tryz.ntmps82
    go_wp2
    go_ret
    exact ⟨rfl, rfl⟩
set_option maxRecDepth 100000 in
set_option maxHeartbeats 1000000 in
theorem vcT (v : Value) (L : List ByteArray) (most : Nat) (w : World) (hr : TRow w v L) (hl : L.length ≤ 9223372036854775807) (hw : ∀ j, (L.getD j ByteArray.empty).size ≤ maxLen) (hm : most ≤ 4) :
    Calls Tryz.prog 81 #[v, .int .i64 (most : Int), .func (.func 82) #[] #[]] w fun e w' => e = .returned (.bool (decide (nmOK L most))) ∧ Below w.heap.size w w' := by
  have hmx : maxLen ≤ 9223372036854775807 := by decide
  obtain ⟨ao, ca, rfl, hca⟩ := hr.cells
  obtain ⟨R, eR⟩ : ∃ R, R = decide (nmOK L most) := ⟨_, rfl⟩
  rw [← eR]
  obtain ⟨n, en⟩ : ∃ n, n = L.length := ⟨_, rfl⟩
  rw [← en] at hl hca ⊢
  have HR : Hid _ := And.intro hr hw
  rw [← en] at HR
  have H0 : Hid _ := And.intro eR (And.intro en hca)
  clear hca hr hw
  by_cases c1 : ¬ (1 ≤ n ∧ n ≤ most)
  · have hR : R = false := by rw [eR]; exact decide_eq_false (fun q => c1 (by rw [en]; exact q.1))
    subst hR
    clear eR en H0 HR
    by_cases c0 : n < 1
    · have c0' : (n : Int) < 1 := by omega
      go_enter Tryz.func81, Tryz.ntmps81
      go_wp2
      go_ret
      exact ⟨rfl, Below.refl _ _⟩
    · have c2 : (most : Int) < (n : Int) := by omega
      have c0' : ¬ (n : Int) < 1 := by omega
      go_enter Tryz.func81, Tryz.ntmps81
      go_wp2
      go_ret
      exact ⟨rfl, Below.refl _ _⟩
  obtain ⟨c2, c3⟩ := Decidable.not_not.1 c1
  have HC : Hid _ := And.intro c2 c3
  have c4 : ¬ (most : Int) < (n : Int) := by omega
  have c0' : ¬ (n : Int) < 1 := by omega
  have hn4 : n ≤ 4 := by omega
  clear eR en c3 c1
  go_enter Tryz.func81, Tryz.ntmps81
  go_wp2
  go_loopg [20] n (fun q i wr => ∃ k : Nat, k ≤ n ∧ q = n - k ∧ i = .int .i64 (k : Int) ∧ wr = w ∧ ∀ j, j < k → (1 ≤ (L.getD j ByteArray.empty).size ∧ (L.getD j ByteArray.empty).size ≤ 16))
  case atStart => exact ⟨0, Nat.zero_le _, rfl, rfl, rfl, fun j h => by omega⟩
  case round =>
    obtain ⟨k, hk, rfl, rfl, hwr, hno⟩ := hrel
    subst wr
    have HN : Hid _ := And.intro hno True.intro
    clear hno
    by_cases hlt : k < n
    · obtain ⟨b, off, rfl, hbl, c1⟩ := H0.out.2.2 k hlt
      obtain ⟨x, ex⟩ : ∃ x, x = L.getD k ByteArray.empty := ⟨_, rfl⟩
      rw [← ex] at c1
      have V := vnI x w (by rw [ex]; exact Nat.le_trans (HR.out.2 k) hmx)
      have EX : Hid _ := And.intro ex True.intro
      clear ex
      by_cases s1 : 1 ≤ x.size ∧ x.size ≤ 16
      · rw [decide_eq_true s1] at V
        have HV : Hid _ := And.intro V s1
        clear V s1
        go_wp2_with (go_at_call 82; refine HV.out.1.mono ?_; rintro e w1 ⟨rfl, hw1⟩; subst w1)
        go_roundg (n - (k + 1))
        case measure => omega
        case rel =>
          refine ⟨k + 1, by omega, rfl, by go_num, rfl, fun j hj => ?_⟩
          by_cases hjk : j < k
          · exact HN.out.1 j hjk
          · obtain rfl : j = k := by omega
            rw [← EX.out.1]; exact HV.out.2
      · have hR : R = false := by
          rw [H0.out.1]
          refine decide_eq_false (fun q => ?_)
          have t := (q.2 k (by rw [← H0.out.2.1]; exact hlt)).1
          rw [← EX.out.1] at t
          exact s1 t
        subst hR
        rw [decide_eq_false s1] at V
        have HV : Hid _ := And.intro V True.intro
        clear V s1
        go_wp2_with (go_at_call 82; refine HV.out.1.mono ?_; rintro e w1 ⟨rfl, hw1⟩; subst w1)
        go_ret
        exact ⟨rfl, Below.refl _ _⟩
    · have S := setOfT (.slice ao n ca) L w HR.out.1 (by rw [← H0.out.2.1]; omega) HR.out.2
      have hRs : R = ((Maps.size (St L L.length) : Int) == (n : Int)) := by
        rw [H0.out.1, Bool.eq_iff_iff, decide_eq_true_eq, beq_iff_eq, H0.out.2.1]
        constructor
        · intro q
          have := (St_size L).2 (fun i hi => (q.2 i hi).2)
          omega
        · intro q
          have t := (St_size L).1 (by omega)
          exact ⟨by rw [← H0.out.2.1]; exact HC.out, fun i hi => ⟨HN.out.1 i (by rw [← H0.out.2.1] at hi; omega), t i hi⟩⟩
      have HS : Hid _ := And.intro S hRs
      clear S hRs
      go_wp2_with (first
        | (go_at_call 91; refine HS.out.1.mono ?_; rintro e w1 ⟨rfl, o1, b1⟩; have HB : Hid _ := And.intro b1 True.intro; clear b1)
        | (at_len; refine wpList_len_own _ rfl _ 123 rfl 9 132 Tryz.underlying123 unitElem w.heap.size L.length (St L L.length) rfl o1 ?_))
      go_ret
      exact ⟨by rw [HS.out.2]; rfl, HB.out.1⟩
set_option maxRecDepth 100000 in
set_option maxHeartbeats 1000000 in
theorem vcI (v : Value) (L : List Int) (w : World) (hr : Row w .i64 v L) (hl : L.length ≤ 9223372036854775807) (hw : ∀ n ∈ L, (Lit.int .i64 n).wf = true) :
    Calls Tryz.prog 80 #[v, .int .i64 8, .func (.func 73) #[] #[]] w fun e w' => e = .returned (.bool (decide (vsOK L))) ∧ Below w.heap.size w w' := by
  obtain ⟨ao, ca, rfl, hca⟩ := hr.cells
  obtain ⟨R, eR⟩ : ∃ R, R = decide (vsOK L) := ⟨_, rfl⟩
  rw [← eR]
  obtain ⟨n, en⟩ : ∃ n, n = L.length := ⟨_, rfl⟩
  rw [← en] at hl hca ⊢
  have HR : Hid _ := And.intro hr hw
  rw [← en] at HR
  have H0 : Hid _ := And.intro eR (And.intro en hca)
  clear hca hr hw
  by_cases c1 : ¬ (1 ≤ n ∧ n ≤ 8)
  · have hR : R = false := by rw [eR]; exact decide_eq_false (fun q => c1 (by rw [en]; exact q.1))
    subst hR
    clear eR en H0 HR
    by_cases c0 : n < 1
    · have c0' : (n : Int) < 1 := by omega
      go_enter Tryz.func80, Tryz.ntmps80
      go_wp2
      go_ret
      exact ⟨rfl, Below.refl _ _⟩
    · have c2 : (8 : Int) < (n : Int) := by omega
      have c0' : ¬ (n : Int) < 1 := by omega
      go_enter Tryz.func80, Tryz.ntmps80
      go_wp2
      go_ret
      exact ⟨rfl, Below.refl _ _⟩
  obtain ⟨c2, c3⟩ := Decidable.not_not.1 c1
  have HC : Hid _ := And.intro c2 c3
  have c4 : ¬ (8 : Int) < (n : Int) := by omega
  have c0' : ¬ (n : Int) < 1 := by omega
  have hn4 : n ≤ 8 := by omega
  clear eR en c3 c1
  go_enter Tryz.func80, Tryz.ntmps80
  go_wp2
  go_loopg [20] n (fun q i wr => ∃ k : Nat, k ≤ n ∧ q = n - k ∧ i = .int .i64 (k : Int) ∧ wr = w ∧ ∀ j, j < k → (1 ≤ L.getD j 0 ∧ L.getD j 0 ≤ 4294967295))
  case atStart => exact ⟨0, Nat.zero_le _, rfl, rfl, rfl, fun j h => by omega⟩
  case round =>
    obtain ⟨k, hk, rfl, rfl, hwr, hno⟩ := hrel
    subst wr
    have HN : Hid _ := And.intro hno True.intro
    clear hno
    by_cases hlt : k < n
    · obtain ⟨b, off, rfl, hbl, c1⟩ := H0.out.2.2 k hlt
      obtain ⟨x, ex⟩ : ∃ x, x = L.getD k 0 := ⟨_, rfl⟩
      rw [← ex] at c1
      have EX : Hid _ := And.intro ex True.intro
      clear ex
      by_cases s1 : vok x
      · have V := iVok x w s1
        have HV : Hid _ := And.intro V s1
        clear V s1
        go_wp2_with (go_at_call 73; refine HV.out.1.mono ?_; rintro e w1 ⟨rfl, hw1⟩; subst w1)
        go_roundg (n - (k + 1))
        case measure => omega
        case rel =>
          refine ⟨k + 1, by omega, rfl, by go_num, rfl, fun j hj => ?_⟩
          by_cases hjk : j < k
          · exact HN.out.1 j hjk
          · obtain rfl : j = k := by omega
            rw [← EX.out.1]; exact HV.out.2
      · have hR : R = false := by
          rw [H0.out.1]
          refine decide_eq_false (fun q => ?_)
          have t := (q.2 k (by rw [← H0.out.2.1]; exact hlt)).1
          rw [← EX.out.1] at t
          exact s1 t
        subst hR
        have V := iVbad x w s1
        have HV : Hid _ := And.intro V True.intro
        clear V s1
        go_wp2_with (go_at_call 73; refine HV.out.1.mono ?_; rintro e w1 ⟨rfl, hw1⟩; subst w1)
        go_ret
        exact ⟨rfl, Below.refl _ _⟩
    · have S := setOfC (.slice ao n ca) L w HR.out.1 (by rw [← H0.out.2.1]; omega) HR.out.2
      have hRs : R = ((Maps.size (Sd L L.length) : Int) == (n : Int)) := by
        rw [H0.out.1, Bool.eq_iff_iff, decide_eq_true_eq, beq_iff_eq, H0.out.2.1]
        constructor
        · intro q
          have := (Sd_size L).2 (fun i hi => (q.2 i hi).2)
          omega
        · intro q
          have t := (Sd_size L).1 (by omega)
          exact ⟨by rw [← H0.out.2.1]; exact HC.out, fun i hi => ⟨HN.out.1 i (by rw [← H0.out.2.1] at hi; omega), t i hi⟩⟩
      have HS : Hid _ := And.intro S hRs
      clear S hRs
      go_wp2_with (first
        | (go_at_call 90; refine HS.out.1.mono ?_; rintro e w1 ⟨rfl, o1, b1⟩; have HB : Hid _ := And.intro b1 True.intro; clear b1)
        | (at_len; refine wpList_len_own _ rfl _ 121 rfl 3 132 Tryz.underlying121 unitElem w.heap.size L.length (Sd L L.length) rfl o1 ?_))
      go_ret
      exact ⟨by rw [HS.out.2]; rfl, HB.out.1⟩
theorem vnsI (v : Value) (L : List ByteArray) (most : Nat) (w : World) (hr : TRow w v L) (hl : L.length ≤ 9223372036854775807) (hw : ∀ j, (L.getD j ByteArray.empty).size ≤ maxLen) (hm : most ≤ 4) :
    Calls Tryz.prog 71 #[v, .int .i64 (most : Int)] w fun e w' => e = .returned (.bool (decide (nmOK L most))) ∧ Below w.heap.size w w' := by
  have HC : Hid _ := And.intro (vcT v L most w hr hl hw hm) True.intro
  clear hr hl hw
  go_enter Tryz.func71, Tryz.ntmps71
  go_wp2_with (go_at_call 81; refine HC.out.1.mono ?_; rintro e w1 ⟨rfl, b1⟩; have HB : Hid _ := And.intro b1 True.intro; clear b1)
  go_ret
  exact ⟨rfl, HB.out.1⟩
theorem vvsI (v : Value) (L : List Int) (w : World) (hr : Row w .i64 v L) (hl : L.length ≤ 9223372036854775807) (hw : ∀ n ∈ L, (Lit.int .i64 n).wf = true) :
    Calls Tryz.prog 70 #[v] w fun e w' => e = .returned (.bool (decide (vsOK L))) ∧ Below w.heap.size w w' := by
  have HC : Hid _ := And.intro (vcI v L w hr hl hw) True.intro
  clear hr hl hw
  go_enter Tryz.func70, Tryz.ntmps70
  go_wp2_with (go_at_call 80; refine HC.out.1.mono ?_; rintro e w1 ⟨rfl, b1⟩; have HB : Hid _ := And.intro b1 True.intro; clear b1)
  go_ret
  exact ⟨rfl, HB.out.1⟩
end Go.Proofs.YteggfkekgdlecaaGreatDoor

namespace Go.Proofs.YteggfkekgdlecaaGreatDoor
open Go.RowKit
set_option linter.unusedVariables false
set_option linter.unusedSimpArgs false

set_option maxRecDepth 20000 in
set_option maxHeartbeats 4000000 in
/-- The program's validHello. -/
theorem vhI (v : Value) (h : HE) (w : World) (hr : HERow w v h) (hs : h.small 9223372036854775807) (hx : h.texts maxLen) (hwf : ∀ n ∈ h.vers, (Lit.int .i64 n).wf = true) :
    Calls Tryz.prog 50 #[v] w fun e w' => e = .returned (.bool (decide (heOK h))) ∧ Below w.heap.size w w' := by
  obtain ⟨a0, a1, a2, p0, p1, p2, v3, v4, v5, rfl, -, K⟩ := heK_new hr
  obtain ⟨R, eR⟩ : ∃ R, R = decide (heOK h) := ⟨_, rfl⟩
  rw [← eR]
  obtain ⟨CS, eCS⟩ : ∃ CS, CS = heL h (.slice a0 h.rnd.length p0) (.slice a1 h.vers.length p1) (.slice a2 h.nms.length p2) v3 v4 v5 := ⟨_, rfl⟩
  rw [← eCS] at K ⊢
  have BW : Below w.heap.size w (w.alloc (.cells CS 37)) := (Below.refl _ _).alloc (Nat.le_refl _) _
  have hs0 : h.rnd.length ≤ 9223372036854775807 := hs.1
  have hs1 : h.vers.length ≤ 9223372036854775807 := hs.2.1
  have VS := fun (wx : World) (b : Below (w.alloc (.cells CS 37)).heap.size (w.alloc (.cells CS 37)) wx) => vvsI _ h.vers wx (K.below b).r1 hs.2.1 hwf
  have NM := fun (most : Nat) (hm : most ≤ 4) (wx : World) (b : Below (w.alloc (.cells CS 37)).heap.size (w.alloc (.cells CS 37)) wx) => vnsI _ h.nms most wx (K.below b).r2 hs.2.2.1 hx hm
  have PK := fun (s : Bool) (wx : World) (b : Below (w.alloc (.cells CS 37)).heap.size (w.alloc (.cells CS 37)) wx) => pokI (heP h v3 v4 v5) h.par s wx (K.below b).r3 hs.2.2.2
  have HK : Hid _ := And.intro K (And.intro BW (And.intro VS (And.intro NM (And.intro PK eR))))
  obtain ⟨k0, k1, k2, k3, k4, k5, k6, k7, k8, k9, k10, k11, k12, k13, k14, k15, k16, k17⟩ := K.cells
  clear K BW VS NM PK eR hs hx hwf hr eCS
  by_cases c0 : ¬ h.rnd.length = 16
  · have hR : R = false := by rw [HK.out.2.2.2.2.2]; exact decide_eq_false (fun q => c0 q.1)
    subst hR
    have hb : ((h.rnd.length : Int) != 16) = true := by simp; omega
    clear c0
    go_enter Tryz.func50, Tryz.ntmps50
    go_wp2
    go_ret
    exact ⟨rfl, HK.out.2.1⟩
  have c0' : h.rnd.length = 16 := Decidable.not_not.1 c0
  have hb0 : ((h.rnd.length : Int) != 16) = false := by rw [c0']; rfl
  by_cases c1 : h.kd = 1
  · have e1 : R = decide (heC h) := by
      rw [HK.out.2.2.2.2.2, decide_eq_decide]
      exact ⟨fun q => by rcases q.2 with q | q; have := q.1; omega; exact q.2, fun q => ⟨c0', Or.inr ⟨c1, q⟩⟩⟩
    have hk1 : (h.kd == 1) = true := by rw [c1]; rfl
    by_cases c2 : ¬ h.vr = 0
    · have hR : R = false := by rw [e1]; exact decide_eq_false (fun q => c2 q.1)
      subst hR
      have hb : (h.vr == 0) = false := by simp [c2]
      clear c0 c0' c1 c2 e1
      go_enter Tryz.func50, Tryz.ntmps50
      go_wp2
      go_ret
      exact ⟨rfl, HK.out.2.1⟩
    have c2' : h.vr = 0 := Decidable.not_not.1 c2
    have hv0 : (h.vr == 0) = true := by rw [c2']; rfl
    have V1 := HK.out.2.2.1 (w.alloc (.cells CS 37)) (Below.refl _ _)
    by_cases c3 : ¬ vsOK h.vers
    · have hR : R = false := by rw [e1]; exact decide_eq_false (fun q => c3 q.2.1)
      subst hR
      rw [decide_eq_false c3] at V1
      have HV : Hid _ := And.intro V1 True.intro
      clear c0 c0' c1 c2 c2' c3 e1 V1
      go_enter Tryz.func50, Tryz.ntmps50
      go_wp2_with (go_at_call 70; refine HV.out.1.mono ?_; rintro e w1 ⟨rfl, b1⟩; have H1 : Hid _ := And.intro b1 True.intro; clear b1)
      go_ret
      exact ⟨rfl, HK.out.2.1.trans (H1.out.1.mono HK.out.2.1.size)⟩
    have c3' : vsOK h.vers := Decidable.not_not.1 c3
    rw [decide_eq_true c3'] at V1
    have N1 := HK.out.2.2.2.1 4 (by decide)
    by_cases c4 : ¬ nmOK h.nms 4
    · have hR : R = false := by rw [e1]; exact decide_eq_false (fun q => c4 q.2.2.1)
      subst hR
      rw [decide_eq_false c4] at N1
      have HV : Hid _ := And.intro V1 (And.intro N1 True.intro)
      clear c0 c0' c1 c2 c2' c3 c3' c4 e1 V1 N1
      go_enter Tryz.func50, Tryz.ntmps50
      go_wp2_with (first
        | (go_at_call 70; refine HV.out.1.mono ?_; rintro e w1 ⟨rfl, b1⟩; have H1 : Hid _ := And.intro b1 True.intro; clear k0 k1 k2 k3 k4 k5 k6 k7 k8 k9 k10 k11 k12 k13 k14 k15 k16 k17; obtain ⟨k0, k1, k2, k3, k4, k5, k6, k7, k8, k9, k10, k11, k12, k13, k14, k15, k16, k17⟩ := (HK.out.1.below b1).cells; clear b1)
        | (go_at_call 71; refine (HV.out.2.1 w1 H1.out.1).mono ?_; rintro e w2 ⟨rfl, b2⟩; have H2 : Hid _ := And.intro (H1.out.1.trans (b2.mono H1.out.1.size)) True.intro; clear b2))
      go_ret
      exact ⟨rfl, HK.out.2.1.trans (H2.out.1.mono HK.out.2.1.size)⟩
    have c4' : nmOK h.nms 4 := Decidable.not_not.1 c4
    rw [decide_eq_true c4'] at N1
    have hR : R = pok h.par false := by
      rw [e1]
      cases hp : pok h.par false with
      | true => exact decide_eq_true ⟨c2', c3', c4', hp⟩
      | false => exact decide_eq_false (fun q => by have := q.2.2.2; rw [hp] at this; cases this)
    have P1 := HK.out.2.2.2.2.1 false
    rw [← hR] at P1
    have HV : Hid _ := And.intro V1 (And.intro N1 P1)
    clear c0 c0' c1 c2 c2' c3 c3' c4 c4' e1 V1 N1 hR P1
    go_enter Tryz.func50, Tryz.ntmps50
    go_wp2_with (first
      | (go_at_call 70; refine HV.out.1.mono ?_; rintro e w1 ⟨rfl, b1⟩; have H1 : Hid _ := And.intro b1 True.intro; clear k0 k1 k2 k3 k4 k5 k6 k7 k8 k9 k10 k11 k12 k13 k14 k15 k16 k17; obtain ⟨k0, k1, k2, k3, k4, k5, k6, k7, k8, k9, k10, k11, k12, k13, k14, k15, k16, k17⟩ := (HK.out.1.below b1).cells; clear b1)
      | (go_at_call 71; refine (HV.out.2.1 w1 H1.out.1).mono ?_; rintro e w2 ⟨rfl, b2⟩; have H2 : Hid _ := And.intro (H1.out.1.trans (b2.mono H1.out.1.size)) True.intro; clear k0 k1 k2 k3 k4 k5 k6 k7 k8 k9 k10 k11 k12 k13 k14 k15 k16 k17; obtain ⟨k0, k1, k2, k3, k4, k5, k6, k7, k8, k9, k10, k11, k12, k13, k14, k15, k16, k17⟩ := (HK.out.1.below H2.out.1).cells; clear b2)
      | (go_at_call 72; refine (HV.out.2.2 w2 H2.out.1).mono ?_; rintro e w3 ⟨rfl, b3⟩; have H3 : Hid _ := And.intro (H2.out.1.trans (b3.mono H2.out.1.size)) True.intro; clear b3))
    go_ret
    exact ⟨rfl, HK.out.2.1.trans (H3.out.1.mono HK.out.2.1.size)⟩
  have hk1 : (h.kd == 1) = false := by simp [c1]
  by_cases c2 : ¬ h.kd = 2
  · have hR : R = false := by
      rw [HK.out.2.2.2.2.2]
      refine decide_eq_false (fun q => ?_)
      rcases q.2 with q | q
      · exact c2 q.1
      · exact c1 q.1
    subst hR
    have hk2 : (h.kd == 2) = false := by simp [c2]
    clear c0 c0' c1 c2
    go_enter Tryz.func50, Tryz.ntmps50
    go_wp2
    go_ret
    exact ⟨rfl, HK.out.2.1⟩
  have c2' : h.kd = 2 := Decidable.not_not.1 c2
  have hk2 : (h.kd == 2) = true := by rw [c2']; rfl
  have e1 : R = decide (heS h) := by
    rw [HK.out.2.2.2.2.2, decide_eq_decide]
    exact ⟨fun q => by rcases q.2 with q | q; exact q.2; exact absurd q.1 c1, fun q => ⟨c0', Or.inl ⟨c2', q⟩⟩⟩
  by_cases c3 : ¬ vok h.vr
  · have hR : R = false := by rw [e1]; exact decide_eq_false (fun q => c3 q.1)
    subst hR
    have HV : Hid _ := And.intro (iVbad h.vr (w.alloc (.cells CS 37)) c3) True.intro
    clear c0 c0' c1 c2 c2' c3 e1
    go_enter Tryz.func50, Tryz.ntmps50
    go_wp2_with (go_at_call 73; refine HV.out.1.mono ?_; rintro e w1 ⟨rfl, hw⟩; subst w1)
    go_ret
    exact ⟨rfl, HK.out.2.1⟩
  have c3' : vok h.vr := Classical.not_not.1 c3
  have V1 := iVok h.vr (w.alloc (.cells CS 37)) c3'
  by_cases c4 : ¬ h.vers.length = 0
  · have hR : R = false := by rw [e1]; exact decide_eq_false (fun q => c4 q.2.1)
    subst hR
    have hb : ((h.vers.length : Int) == 0) = false := by rw [beq_eq_false_iff_ne]; omega
    have HV : Hid _ := And.intro V1 True.intro
    clear c0 c0' c1 c2 c2' c3 c3' c4 e1 V1
    go_enter Tryz.func50, Tryz.ntmps50
    go_wp2_with (go_at_call 73; refine HV.out.1.mono ?_; rintro e w1 ⟨rfl, hw⟩; subst w1)
    go_ret
    exact ⟨rfl, HK.out.2.1⟩
  have c4' : h.vers.length = 0 := Decidable.not_not.1 c4
  have hb4 : ((h.vers.length : Int) == 0) = true := by rw [c4']; rfl
  have N1 := HK.out.2.2.2.1 1 (by decide) (w.alloc (.cells CS 37)) (Below.refl _ _)
  by_cases c5 : ¬ nmOK h.nms 1
  · have hR : R = false := by rw [e1]; exact decide_eq_false (fun q => c5 q.2.2.1)
    subst hR
    rw [decide_eq_false c5] at N1
    have HV : Hid _ := And.intro V1 N1
    clear c0 c0' c1 c2 c2' c3 c3' c4 c4' c5 e1 V1 N1
    go_enter Tryz.func50, Tryz.ntmps50
    go_wp2_with (first
      | (go_at_call 73; refine HV.out.1.mono ?_; rintro e w1 ⟨rfl, hw⟩; subst w1)
      | (go_at_call 71; refine HV.out.2.mono ?_; rintro e w2 ⟨rfl, b2⟩; have H2 : Hid _ := And.intro b2 True.intro; clear b2))
    go_ret
    exact ⟨rfl, HK.out.2.1.trans (H2.out.1.mono HK.out.2.1.size)⟩
  have c5' : nmOK h.nms 1 := Decidable.not_not.1 c5
  rw [decide_eq_true c5'] at N1
  have hR : R = pok h.par true := by
    rw [e1]
    cases hp : pok h.par true with
    | true => exact decide_eq_true ⟨c3', c4', c5', hp⟩
    | false => exact decide_eq_false (fun q => by have := q.2.2.2; rw [hp] at this; cases this)
  have P1 := HK.out.2.2.2.2.1 true
  rw [← hR] at P1
  have HV : Hid _ := And.intro V1 (And.intro N1 P1)
  clear c0 c0' c1 c2 c2' c3 c3' c4 c4' c5 c5' e1 V1 N1 hR P1
  go_enter Tryz.func50, Tryz.ntmps50
  go_wp2_with (first
    | (go_at_call 73; refine HV.out.1.mono ?_; rintro e w1 ⟨rfl, hw⟩; subst w1)
    | (go_at_call 71; refine HV.out.2.1.mono ?_; rintro e w2 ⟨rfl, b2⟩; have H2 : Hid _ := And.intro b2 True.intro; clear k0 k1 k2 k3 k4 k5 k6 k7 k8 k9 k10 k11 k12 k13 k14 k15 k16 k17; obtain ⟨k0, k1, k2, k3, k4, k5, k6, k7, k8, k9, k10, k11, k12, k13, k14, k15, k16, k17⟩ := (HK.out.1.below b2).cells; clear b2)
    | (go_at_call 72; refine (HV.out.2.2 w2 H2.out.1).mono ?_; rintro e w3 ⟨rfl, b3⟩; have H3 : Hid _ := And.intro (H2.out.1.trans (b3.mono H2.out.1.size)) True.intro; clear b3))
  go_ret
  exact ⟨rfl, HK.out.2.1.trans (H3.out.1.mono HK.out.2.1.size)⟩
end Go.Proofs.YteggfkekgdlecaaGreatDoor

namespace Go.Proofs.YteggfkekgdlecaaGreatDoor
open Go.RowKit
set_option linter.unusedVariables false
set_option linter.unusedSimpArgs false

/-- The first k of a list, each in n bytes. -/
def pfA (L : List Int) (n k : Nat) : List Int := ((L.take k).map (fun v => be v n)).flatten
theorem pfA_succ (L : List Int) (n k : Nat) (hk : k < L.length) : pfA L n (k + 1) = pfA L n k ++ be (L.getD k 0) n := by
  unfold pfA
  rw [List.take_add_one, List.map_append, List.flatten_append]
  simp [List.getD, List.getElem?_eq_getElem hk]
theorem pfA_len (L : List Int) (n : Nat) : ∀ k, k ≤ L.length → (pfA L n k).length = n * k
  | 0, _ => rfl
  | k + 1, hk => by rw [pfA_succ L n k (by omega), List.length_append, pfA_len L n k (by omega), be_length, Nat.mul_succ]
set_option maxRecDepth 20000 in
set_option maxHeartbeats 2000000 in
theorem pfI (base : Nat) (vo vl : Value) (xs L : List Int) (n : Nat) (w : World) (ho : w.ownsRow base 5 1 vo xs.length (xs.map (Value.int .u8))) (hr : Row w .i64 vl L) (ha : L ≠ [] → ∀ k, vl.ownBlock = some k → vo.ownBlock ≠ some k) (hb : base ≤ w.heap.size) (hx : xs.length ≤ 100000) (hL : L.length ≤ 8) (hn : n ≤ 8) (hv : ∀ j, j < L.length → 0 ≤ L.getD j 0 ∧ L.getD j 0 ≤ 4294967295) :
    Calls Tryz.prog 52 #[vo, .int .i64 (n : Int), vl] w fun e w' => ∃ r, e = .returned r ∧ w'.ownsRow base 5 1 r (xs ++ pfA L n L.length).length ((xs ++ pfA L n L.length).map (Value.int .u8)) ∧ GrW w w' vo r := by
  obtain ⟨ao, ca, rfl, hca⟩ := hr.cells
  obtain ⟨m, em⟩ : ∃ m, m = L.length := ⟨_, rfl⟩
  rw [← em] at hca hL ⊢
  have H0 : Hid _ := And.intro em (And.intro hr (And.intro hv (And.intro hb (And.intro ha (And.intro ho hca)))))
  rw [← em] at H0
  have EM : Hid _ := And.intro em True.intro
  clear em hca hr hv hb ha ho
  go_enter Tryz.func52, Tryz.ntmps52
  go_wp2
  go_loopg [0, 11] m (fun q ov iv wx => ∃ k : Nat, k ≤ m ∧ q = m - k ∧ iv = .int .i64 (k : Int) ∧ wx.ownsRow base 5 1 ov (xs ++ pfA L n k).length ((xs ++ pfA L n k).map (Value.int .u8)) ∧ GrW w wx vo ov)
  case atStart => exact ⟨0, by omega, by omega, rfl, by simpa [pfA] using H0.out.2.2.2.2.2.1, GrW.refl _ _⟩
  case round =>
    obtain ⟨k, hk, hq, rfl, o, g⟩ := hrel
    obtain ⟨zs, ezs⟩ : ∃ zs, zs = xs ++ pfA L n k := ⟨_, rfl⟩
    rw [← ezs] at o
    obtain ⟨az, cz, evz⟩ := (row_of_owns o).form
    subst evz
    have hzl : zs.length ≤ 100064 := by
      rw [ezs, List.length_append, pfA_len L n k (by rw [← EM.out.1]; exact hk)]
      have := Nat.mul_le_mul hn (show k ≤ 8 by omega)
      omega
    have HO : Hid _ := And.intro o (And.intro g (And.intro ezs hq))
    clear o g ezs hq
    by_cases hlt : k < m
    · obtain ⟨b, off, rfl, hbl, c1⟩ := H0.out.2.2.2.2.2.2 k hlt
      have hx' := H0.out.2.2.1 k hlt
      have cx : wr.cell? ⟨b, off + k, none⟩ = some (.int .i64 (L.getD k 0)) := by
        have hne : L ≠ [] := fun e => by rw [e] at EM; have := EM.out.1; simp at this; omega
        have e1 : wr.heap[b]? = w.heap[b]? := HO.out.2.1.chg.block b hbl (fun e => H0.out.2.2.2.2.1 hne b rfl e)
        rw [← c1]
        simp only [World.cell?, e1]
      obtain ⟨x, ex⟩ : ∃ x, x = L.getD k 0 := ⟨_, rfl⟩
      rw [← ex] at cx hx'
      have hw64 : IntKind.u64.wrap x = x := by rw [IntKind.wrap_u64]; omega
      have D1 := high x n wr (by omega) (by omega) hn
      have hb' : base ≤ wr.heap.size := Nat.le_trans H0.out.2.2.2.1 HO.out.2.1.chg.size
      have HX : Hid _ := And.intro ex (And.intro D1 hb')
      clear ex D1 c1 hb'
      go_wp2_with (first
        | (go_at_call 74; refine HX.out.2.1.mono ?_; rintro e w1 ⟨r1, rfl, o1, b1⟩; have H1 : Hid _ := And.intro (row_of_owns o1) b1; clear o1 b1)
        | (at_builtin; refine wpList_append_loc rfl (.tmp 15) (.tmp 19) rfl base (.slice az zs.length cz) zs rfl (owns_below HO.out.1 H1.out.2) r1 (be x n) rfl H1.out.1 (by rw [be_length]; omega) (Nat.le_trans HX.out.2.2 H1.out.2.size) ?_; intro q2 w2 o2 g2; have H2 : Hid _ := And.intro o2 (HO.out.2.1.trans (GrW.after H1.out.2 g2)); clear o2 g2))
      go_roundg (m - (k + 1))
      case measure => (have := HO.out.2.2.2; omega)
      case rel =>
        refine ⟨k + 1, by omega, rfl, by go_num, ?_, H2.out.2⟩
        have t := H2.out.1
        rw [HX.out.1, HO.out.2.2.1, List.append_assoc, ← pfA_succ L n k (by rw [← EM.out.1]; exact hlt)] at t
        exact t
    · obtain rfl : k = m := by omega
      go_wp2
      go_ret
      exact ⟨_, rfl, by rw [← HO.out.2.2.1]; exact HO.out.1, HO.out.2.1⟩
theorem ne_nilB (g off n cp : Nat) (w : World) : (binOp .eql 22 (.slice (some ⟨g, off, none⟩) n cp) (.slice none 0 0)).run Tryz.prog w = .ok (.bool false) w := by kernel_rfl
set_option maxRecDepth 20000 in
set_option maxHeartbeats 1000000 in
theorem cloneB (v : Value) (xs : List Int) (w : World) (hr : Row w .u8 v xs) (h0 : 0 < xs.length) (hl : xs.length ≤ 1048576) :
    Calls Tryz.prog 51 #[v] w fun e w' => ∃ r, e = .returned r ∧ w'.ownsRow w.heap.size 5 1 r xs.length (xs.map (Value.int .u8)) ∧ Below w.heap.size w w' := by
  have ba : Below w.heap.size w (w.alloc (.cells #[] 5)) := (Below.refl _ _).alloc (Nat.le_refl _) _
  have HN : Hid _ := And.intro (hr.below ba) (And.intro ba hl)
  obtain ⟨b, off, cap, rfl, hb, hc⟩ := hr.at h0
  have hnil := ne_nilB b off xs.length cap w
  clear hr ba hl hc h0
  go_enter Tryz.func51, Tryz.ntmps51
  go_wp2_with (at_builtin; refine wpList_append_row rfl _ _ rfl w.heap.size (.slice (some ⟨w.heap.size, 0, none⟩) 0 0) 0 [] rfl (World.ownsRow_lit w #[] 0 (Nat.le_refl _) (by decide) rfl) _ xs rfl HN.out.1 (by have := HN.out.2.2; omega) (by simp) ?_; intro v' w2 hown2 hgrow)
  have R : w2.ownsRow w.heap.size 5 1 v' xs.length (xs.map (Value.int .u8)) := by simpa using hown2
  have B : Below w.heap.size w w2 := HN.out.2.1.grown hgrow (by simp) (by intro k hk; simp [Value.ownBlock] at hk; omega)
  have HR : Hid _ := And.intro R B
  clear R B hown2 hgrow
  go_wp2
  go_ret
  exact ⟨_, rfl, HR.out.1, HR.out.2⟩
set_option maxRecDepth 20000 in
set_option maxHeartbeats 4000000 in
theorem hbI_bad (v : Value) (h : HE) (w : World) (hr : HERow w v h) (hs : h.small 9223372036854775807) (hx : h.texts maxLen) (hwf : ∀ n ∈ h.vers, (Lit.int .i64 n).wf = true) (no : ¬ heOK h) :
    Calls Tryz.prog 29 #[v] w fun e w' => ∃ r, e = .returned (.tuple #[r, .int .i64 1]) ∧ w'.ownsRow w.heap.size 5 1 r 0 [] ∧ Below w.heap.size w w' := by
  obtain ⟨a0, a1, a2, p0, p1, p2, v3, v4, v5, rfl, -, K⟩ := heK_new hr
  have BW : Below w.heap.size w (w.alloc (.cells (heL h (.slice a0 h.rnd.length p0) (.slice a1 h.vers.length p1) (.slice a2 h.nms.length p2) v3 v4 v5) 37)) := (Below.refl _ _).alloc (Nat.le_refl _) _
  have C := vhI _ h _ (hr.below BW) hs hx hwf
  rw [decide_eq_false no] at C
  have HC : Hid _ := And.intro C (And.intro BW (heap_alloc_new w (.cells (heL h (.slice a0 h.rnd.length p0) (.slice a1 h.vers.length p1) (.slice a2 h.nms.length p2) v3 v4 v5) 37)))
  have HSZ : Hid ((Tryz.prog.info? 37).map (·.size) = some (heL h (.slice a0 h.rnd.length p0) (.slice a1 h.vers.length p1) (.slice a2 h.nms.length p2) v3 v4 v5).size) := infoHel18
  generalize heL h (.slice a0 h.rnd.length p0) (.slice a1 h.vers.length p1) (.slice a2 h.nms.length p2) v3 v4 v5 = CS at *
  clear C BW K hr hs no hx hwf
  go_enter Tryz.func29, Tryz.ntmps29
  go_wp2_with (first | (refine wpList_load_row rfl 37 (.tmp 1) rfl w.heap.size rfl 37 CS (0, 0) _ HC.out.2.2 Tryz.underlying37 rfl HSZ.out ?_) | (go_at_call 50; refine HC.out.1.mono ?_; rintro e w1 ⟨rfl, b1⟩; have H1 : Hid _ := And.intro b1 True.intro; clear b1))
  go_ret2
  have B := HC.out.2.1.trans (H1.out.1.mono HC.out.2.1.size)
  exact ⟨_, rfl, World.ownsRow_nil _ _ _ _, B⟩
end Go.Proofs.YteggfkekgdlecaaGreatDoor

namespace Go.Proofs.YteggfkekgdlecaaGreatDoor
open Go.RowKit
set_option linter.unusedVariables false
set_option linter.unusedSimpArgs false

theorem be1 (x : Int) (h0 : 0 ≤ x) (h1 : x < 256) : be x 1 = [x] := by
  show be (x / 256) 0 ++ [x % 256] = [x]
  rw [Int.emod_eq_of_lt h0 h1]; rfl
theorem pfA_one (x : Int) (n : Nat) : pfA [x] n ([x] : List Int).length = be x n := by simp [pfA]
theorem parts3 {w : World} {v v2 v3 : Value} {xs ys zs : List Int} (h : Row w .u8 v xs) (h2 : Row w .u8 v2 ys) (h3 : Row w .u8 v3 zs) (t : TypeId) : Parts (w.alloc (.cells #[v, v2, v3] t)) (.slice (some ⟨w.heap.size, 0, none⟩) 3 3) [xs, ys, zs] := by
  refine ⟨w.heap.size, 3, rfl, by simp, fun j hj => ?_⟩
  have hb := (Below.refl w.heap.size w).alloc (Nat.le_refl _) (.cells #[v, v2, v3] t)
  rcases (show j = 0 ∨ j = 1 ∨ j = 2 by simp at hj; omega) with rfl | rfl | rfl
  · exact ⟨v, by rw [blkS_cell (MapKept.heap_alloc w _).1]; rfl, h.below hb⟩
  · exact ⟨v2, by rw [blkS_cell (MapKept.heap_alloc w _).1]; rfl, h2.below hb⟩
  · exact ⟨v3, by rw [blkS_cell (MapKept.heap_alloc w _).1]; rfl, h3.below hb⟩
theorem lit1I (w : World) (x : Int) : Row (w.alloc (.cells #[.int .i64 x] 3)) .i64 (.slice (some ⟨w.heap.size, 0, none⟩) 1 1) [x] := by
  refine Or.inr ⟨w.heap.size, 0, 1, rfl, by simp, ⟨Nat.le_refl _, by unfold maxLen; decide⟩, fun j hj => ?_⟩
  obtain rfl : j = 0 := by simpa using hj
  exact bk_cell (heap_alloc_new w _) 0
/-- putFixed of one number that lies somewhere. -/
theorem pfX {W : World} {vo : Value} {xs : List Int} (n : Nat) (x : Int) (g : Nat) (w : World) (O : OutH W w vo xs) (hr : Row w .i64 (.slice (some ⟨g, 0, none⟩) 1 1) [x]) (hne : ∀ k, vo.ownBlock = some k → k ≠ g) (hx : xs.length ≤ 100000) (hn : n ≤ 8) (h0 : 0 ≤ x) (h1 : x ≤ 4294967295) :
    Calls Tryz.prog 52 #[vo, .int .i64 (n : Int), .slice (some ⟨g, 0, none⟩) 1 1] w fun e w' => ∃ r, e = .returned r ∧ OutH W w' r (xs ++ be x n) := by
  refine (pfI W.heap.size vo (.slice (some ⟨g, 0, none⟩) 1 1) xs [x] n w O.own hr (fun _ k ek e2 => ?_) O.bel.size hx (by simp) hn (fun j hj => ?_)).mono ?_
  · have e3 : g = k := Option.some.inj ek
    exact hne k e2 e3.symm
  · obtain rfl : j = 0 := by simpa using hj
    exact ⟨h0, h1⟩
  · rintro e w' ⟨r, rfl, o, g⟩
    rw [pfA_one] at o
    exact ⟨r, rfl, O.gr o g⟩
/-- putFixed of one number that was just laid. -/
theorem pf1 {W : World} {vo : Value} {xs : List Int} (n : Nat) (x : Int) (w : World) (O : OutH W w vo xs) (hx : xs.length ≤ 100000) (hn : n ≤ 8) (h0 : 0 ≤ x) (h1 : x ≤ 4294967295) :
    Calls Tryz.prog 52 #[vo, .int .i64 (n : Int), .slice (some ⟨w.heap.size, 0, none⟩) 1 1] (w.alloc (.cells #[.int .i64 x] 3)) fun e w' => ∃ r, e = .returned r ∧ OutH W w' r (xs ++ be x n) := by
  have O1 := O.went ((Below.refl _ _).alloc (Nat.le_refl _) (.cells #[.int .i64 x] 3))
  refine (pfI W.heap.size vo (.slice (some ⟨w.heap.size, 0, none⟩) 1 1) xs [x] n _ O1.own (lit1I w x) (fun _ k ek e2 => ?_) O1.bel.size hx (by simp) hn (fun j hj => ?_)).mono ?_
  · have e3 : w.heap.size = k := Option.some.inj ek
    have := (O.own.lt k e2).2
    omega
  · obtain rfl : j = 0 := by simpa using hj
    exact ⟨h0, h1⟩
  · rintro e w' ⟨r, rfl, o, g⟩
    rw [pfA_one] at o
    exact ⟨r, rfl, O1.gr o g⟩
theorem vs_pf (V : List Int) (k : Nat) : pfA V 4 k = vsA V k := rfl
set_option maxRecDepth 20000 in
set_option maxHeartbeats 8000000 in
theorem hbI_ok (v : Value) (h : HE) (w : World) (ht : Tab w) (hr : HERow w v h) (hs : h.small 9223372036854775807) (hx : h.texts maxLen) (hwf : ∀ n ∈ h.vers, (Lit.int .i64 n).wf = true) (ok : heOK h) :
    Calls Tryz.prog 29 #[v] w fun e w' => ∃ r, e = .returned (.tuple #[r, .int .i64 0]) ∧ w'.ownsRow w.heap.size 5 1 r (heB h).length ((heB h).map (Value.int .u8)) ∧ Below w.heap.size w w' := by
  obtain ⟨a0, a1, a2, p0, p1, p2, v3, v4, v5, rfl, -, K⟩ := heK_new hr
  obtain ⟨W, eW⟩ : ∃ W, W = w.alloc (.cells (heL h (.slice a0 h.rnd.length p0) (.slice a1 h.vers.length p1) (.slice a2 h.nms.length p2) v3 v4 v5) 37) := ⟨_, rfl⟩
  have BW : Below w.heap.size w W := by rw [eW]; exact (Below.refl _ _).alloc (Nat.le_refl _) _
  have C := vhI _ h _ (hr.below BW) hs hx hwf
  rw [decide_eq_true ok, eW] at C
  have hlen := heOK_len h ok
  have hpk : pok h.par (decide (h.kd = 2)) = true := by
    rcases ok.2 with ⟨e, q⟩ | ⟨e, q⟩
    · rw [decide_eq_true e]; exact q.2.2.2
    · rw [decide_eq_false (by omega)]; exact q.2.2.2
  have hkd : h.kd = 1 ∨ h.kd = 2 := by rcases ok.2 with q | q; exact Or.inr q.1; exact Or.inl q.1
  rw [← eW] at K
  have TT := fun (w1 : World) (b : Below W.heap.size W w1) => ht.below (BW.trans (b.mono BW.size)) ht.lt
  have CP := fun (w1 : World) (b : Below W.heap.size W w1) => cloneB _ h.rnd w1 (K.below b).r0 (by have := ok.1; omega) (by have := ok.1; omega)
  have hvr : h.kd = 2 → 0 ≤ h.vr ∧ h.vr ≤ 4294967295 := fun e => by
    rcases ok.2 with ⟨_, q⟩ | ⟨e2, _⟩
    · exact ⟨by have := q.1.1; omega, q.1.2⟩
    · omega
  have hvs : h.kd = 1 → ∀ i, i < h.vers.length → 0 ≤ h.vers.getD i 0 ∧ h.vers.getD i 0 ≤ 4294967295 := fun e i hi => by
    rcases ok.2 with ⟨e2, _⟩ | ⟨_, q⟩
    · omega
    · have t := (q.2.1.2 i hi).1; exact ⟨by omega, t.2⟩
  have PB := fun (w1 : World) (b : Below W.heap.size W w1) => pbI_ok (heP h v3 v4 v5) h.par (decide (h.kd = 2)) w1 (TT w1 b) (K.below b).r3 hs.2.2.2 hpk
  have HK : Hid _ := And.intro K (And.intro BW (And.intro C (And.intro CP (And.intro PB (And.intro hlen (And.intro hvr (And.intro hvs TT)))))))
  obtain ⟨nv, env⟩ : ∃ n, n = h.vers.length := ⟨_, rfl⟩
  obtain ⟨nn, enn⟩ : ∃ n, n = h.nms.length := ⟨_, rfl⟩
  have hnv : nv ≤ 8 := by rw [env]; exact hlen.2.2.2.1
  have hnn : nn ≤ 4 := by rw [enn]; exact hlen.2.2.1
  have EN : Hid _ := And.intro env enn
  have e2 : h.vers.length = nv := env.symm
  have e4 : h.nms.length = nn := enn.symm
  have CE : ∀ wx, Below W.heap.size W wx → wx.cell? ⟨w.heap.size, 0, none⟩ = some (.int .i64 h.kd) ∧ wx.cell? ⟨w.heap.size, 1, none⟩ = some (.int .i64 h.vr) ∧ wx.cell? ⟨w.heap.size, 2, none⟩ = some (.slice a0 h.rnd.length p0) ∧ wx.cell? ⟨w.heap.size, 3, none⟩ = some (.slice a1 nv p1) ∧ wx.cell? ⟨w.heap.size, 4, none⟩ = some (.slice a2 nn p2) := fun wx hx => by
    obtain ⟨k0, k1, k2, k3, k4, -⟩ := (HK.out.1.below hx).cells
    rw [e2] at k3
    rw [e4] at k4
    exact ⟨k0, k1, k2, k3, k4⟩
  have HE' : Hid _ := And.intro CE True.intro
  have HSZ : Hid ((Tryz.prog.info? 37).map (·.size) = some (heL h (.slice a0 h.rnd.length p0) (.slice a1 h.vers.length p1) (.slice a2 h.nms.length p2) v3 v4 v5).size) := infoHel18
  have hrl : h.rnd.length ≤ 200 := by have := hlen.1; unfold heM at this; simp only [List.length_append, List.length_cons] at this; omega
  clear K BW C CP PB hpk hlen hvr hvs hr hs ok env enn CE TT hx hwf ht
  obtain ⟨CS, eCS⟩ : ∃ CS, CS = heL h (.slice a0 h.rnd.length p0) (.slice a1 h.vers.length p1) (.slice a2 h.nms.length p2) v3 v4 v5 := ⟨_, rfl⟩
  rw [← eCS] at eW HK HSZ ⊢
  clear eCS e2 e4
  have HW : Hid _ := And.intro eW True.intro
  clear eW
  go_enter Tryz.func29, Tryz.ntmps29
  go_upto_if 18 with (first
    | (refine wpList_load_row rfl 37 (.tmp 1) rfl w.heap.size rfl 37 CS (0, 0) _ (heap_alloc_new w _) Tryz.underlying37 rfl HSZ.out ?_)
    | (go_at_call 50; refine HK.out.2.2.1.mono ?_; rintro e w1 ⟨rfl, b1⟩; have H1 : Hid (Below W.heap.size W w1) := (by rw [HW.out.1]; exact b1); obtain ⟨k0, k1, k2, k3, k4⟩ := HE'.out.1 w1 H1.out; clear b1)
    | (go_at_call 51; refine (HK.out.2.2.2.1 w1 H1.out).mono ?_; rintro e w2 ⟨r2, rfl, o2, b2⟩; have O2 : OutH W w2 r2 h.rnd := ⟨owns_mono o2 H1.out.size, H1.out.trans (b2.mono H1.out.size)⟩; obtain ⟨ao2, co2, ev2⟩ := O2.form; subst ev2; have H2 : Hid _ := And.intro O2 True.intro; clear k0 k1 k2 k3 k4; obtain ⟨k0, k1, k2, k3, k4⟩ := HE'.out.1 w2 O2.bel; clear o2 b2 O2))
  go_cut [4] from 5 to 32 (fun ov wx => OutH W wx ov (h.rnd ++ heV h))
  case first =>
    rcases hkd with hk | hk
    · have hkb : (h.kd == 1) = true := by rw [hk]; rfl
      have eV : heV h = (nv : Int) :: vsA h.vers nv := by unfold heV; rw [if_pos hk, EN.out.1]
      have hvs := HK.out.2.2.2.2.2.2.2.1 hk
      have OD : OutH W w2.drew (.slice ao2 h.rnd.length co2) h.rnd := H2.out.1.went (below_drewN (Below.refl _ _) 1)
      have OL : OutH W (w2.alloc (.cells #[.int .i64 (nv : Int)] 3)).drew (.slice ao2 h.rnd.length co2) h.rnd := (H2.out.1.went ((Below.refl _ _).alloc (Nat.le_refl _) _)).went (below_drewN (Below.refl _ _) 1)
      have P1 : Calls Tryz.prog 52 #[.slice ao2 h.rnd.length co2, .int .i64 1, .slice (some ⟨w2.heap.size, 0, none⟩) 1 1] (w2.alloc (.cells #[.int .i64 (nv : Int)] 3)).drew fun e w' => ∃ r, e = .returned r ∧ OutH W w' r (h.rnd ++ be (nv : Int) 1) := pfX 1 (nv : Int) w2.heap.size _ OL ((lit1I w2 (nv : Int)).below (below_drewN (Below.refl _ _) 1)) (fun k hk => by have := (H2.out.1.own.lt k hk).2; omega) (by omega) (by decide) (by omega) (by omega)
      have q3 := (HE'.out.1 w2.drew OD.bel).2.2.2.1
      have q3' := (HE'.out.1 _ OL.bel).2.2.2.1
      have P2 : ∀ (wx : World) (vo : Value), OutH W wx vo (h.rnd ++ be (nv : Int) 1) → Calls Tryz.prog 52 #[vo, .int .i64 4, .slice a1 nv p1] wx fun e w' => ∃ r, e = .returned r ∧ OutH W w' r (h.rnd ++ heV h) := fun wx vo O => by
        have rv := (HK.out.1.below O.bel).r1
        have C := pfI W.heap.size vo _ (h.rnd ++ be (nv : Int) 1) h.vers 4 wx O.own rv (fun hne k ek e2 => by
          have h1 := own_of_row HK.out.1.r1 hne ek
          have h2 := (O.own.lt k e2).1
          omega) O.bel.size (by rw [List.length_append, be_length]; omega) (by rw [← EN.out.1]; exact hnv) (by decide) hvs
        rw [← EN.out.1] at C
        refine C.mono ?_
        rintro e w' ⟨r, rfl, o, g⟩
        refine ⟨r, rfl, ?_⟩
        have t := O.gr o g
        rw [vs_pf, be1 (nv : Int) (by omega) (by omega), List.append_assoc, List.singleton_append, ← eV] at t
        exact t
      obtain ⟨xs1, exs1⟩ : ∃ xs1, xs1 = h.rnd ++ be (nv : Int) 1 := ⟨_, rfl⟩
      rw [← exs1] at P1 P2
      have HP : Hid _ := And.intro P1 (And.intro P2 True.intro)
      clear P1 P2 eV hvs hk OD OL exs1
      go_wp2_with fail
      go_region_with (first
        | (go_at_call 52; (fail_if_success (have hyy := HQ)); refine HP.out.1.mono ?_; rintro e w4 ⟨r4, rfl, O4⟩; have HQ : Hid (OutH W w4 r4 xs1 ∧ True) := And.intro O4 True.intro; have q4 := (HE'.out.1 w4 O4.bel).2.2.2.1; clear O4)
        | (go_at_call 52; refine (HP.out.2.1 w4 r4 HQ.out.1).mono ?_; rintro e w5 ⟨r5, rfl, O5⟩; have HQ5 : Hid _ := And.intro O5 True.intro; clear O5))
      all_goals
        go_wp2_with fail
        go_meet
        exact HQ5.out.1
    · have hkb : (h.kd == 1) = false := by rw [hk]; rfl
      have eV : heV h = be h.vr 4 := by unfold heV; rw [if_neg (by omega)]
      have hvr := HK.out.2.2.2.2.2.2.1 hk
      have P1 := pf1 4 h.vr w2 H2.out.1 (by omega) (by decide) hvr.1 hvr.2
      have HP : Hid _ := And.intro P1 eV
      clear P1 eV hvr hk
      go_wp2_with (go_at_call 52; refine HP.out.1.mono ?_; rintro e w4 ⟨r4, rfl, O4⟩; have HQ : Hid _ := And.intro O4 True.intro; clear O4)
      go_meet
      rw [HP.out.2]
      exact HQ.out.1
  case rest =>
  clear k0 k1 k2 k3 k4
  rename World => wc
  obtain ⟨ys, eys⟩ : ∃ ys, ys = h.rnd ++ heV h := ⟨_, rfl⟩
  rw [← eys] at hcut
  have hyl : ys.length ≤ 200 := by have := HK.out.2.2.2.2.2.1.1; unfold heM at this; rw [← eys] at this; simp only [List.length_append, List.length_cons] at this; omega
  obtain ⟨-, -, -, -, k4⟩ := HE'.out.1 wc hcut.bel
  obtain ⟨ao5, co5, ev5⟩ := hcut.form
  subst ev5
  have P1 := pf1 1 (nn : Int) wc hcut (by omega) (by decide) (by omega) (by omega)
  rw [be1 (nn : Int) (by omega) (by omega)] at P1
  have HA : Hid _ := And.intro P1 (And.intro eys hcut)
  clear P1 eys hcut
  go_wp2_with (go_at_call 52; refine HA.out.1.mono ?_; rintro e w6 ⟨r6, rfl, O6⟩; have H6 : Hid (OutH W w6 r6 (ys ++ [(nn : Int)]) ∧ True) := And.intro O6 True.intro; clear k4; obtain ⟨-, -, -, -, k4⟩ := HE'.out.1 w6 O6.bel; clear O6)
  go_loopg [4, 42] nn (fun q ov iv wx => ∃ k : Nat, k ≤ nn ∧ q = nn - k ∧ iv = .int .i64 (k : Int) ∧ OutH W wx ov (ys ++ ((nn : Int) :: nmA h.nms k)))
  case atStart => exact ⟨0, by omega, by omega, rfl, H6.out.1⟩
  case round =>
    obtain ⟨k, hkn, hq, rfl, O⟩ := hrel
    rename World => wy
    clear k4
    obtain ⟨xs, exs⟩ : ∃ xs, xs = ys ++ ((nn : Int) :: nmA h.nms k) := ⟨_, rfl⟩
    rw [← exs] at O
    obtain ⟨aoo, coo, evo⟩ := O.form
    subst evo
    have hol : xs.length ≤ 600 := by
      have := nmA_len h.nms HK.out.2.2.2.2.2.1.2.2.2.2 k (by rw [← EN.out.2]; exact hkn)
      rw [exs, List.length_append, List.length_cons]; omega
    have HO : Hid _ := And.intro O (And.intro hol (And.intro hq exs))
    clear O hol hq exs
    by_cases hlt : k < nn
    · have rv := (HK.out.1.below HO.out.1.bel).r2
      rw [← EN.out.2] at rv
      obtain ⟨aq, cq, eq', hc'⟩ := rv.cells
      rw [← EN.out.2] at eq' hc'
      cases eq'
      obtain ⟨b, off, ea, hb', cx⟩ := hc' k hlt
      subst ea
      have hx := HK.out.2.2.2.2.2.1.2.2.2.2 k (by rw [← EN.out.2]; exact hlt)
      obtain ⟨x, ex⟩ : ∃ x, x = h.nms.getD k ByteArray.empty := ⟨_, rfl⟩
      rw [← ex] at cx hx
      obtain ⟨C, W', cv, rw', bw', lw'⟩ := convSB wy x (by omega)
      have aw : Below W'.heap.size W' (W'.alloc (.cells #[.slice (some ⟨wy.heap.size, 0, none⟩) x.size C] 22)) := (Below.refl _ _).alloc (Nat.le_refl _) _
      have O1 := (HO.out.1.went bw').went aw
      have CN := putC1 W.heap.size (.slice aoo xs.length coo) (.slice (some ⟨wy.heap.size, 0, none⟩) x.size C) xs (txB x) W'.heap.size _ (HK.out.2.2.2.2.2.2.2.2 _ O1.bel) O1.own (rw'.below aw) (fun _ k' ek' e2 => by
        have e3 : wy.heap.size = k' := by simpa [Value.ownBlock] using ek'
        have := (HO.out.1.own.lt k' e2).2
        omega) O1.bel.size (by have := HO.out.2.1; omega) (by rw [txB_length]; omega) (bk_cell (heap_alloc_new W' _) 0)
      have HX : Hid _ := And.intro ex (And.intro CN (And.intro O1 True.intro))
      clear rv hc' ex CN rw' bw' hb' aw O1
      go_wp2_with (go_at_call 53; refine HX.out.2.1.mono ?_; rintro e w7 ⟨r7, rfl, o7, g7⟩; have H7 : Hid _ := HX.out.2.2.1.gr o7 g7; clear o7 g7)
      go_roundg (nn - (k + 1))
      case measure => (have := HO.out.2.2.1; omega)
      case rel =>
        refine ⟨k + 1, by omega, rfl, by go_num, ?_⟩
        have t := H7.out
        rw [txB_length, HX.out.1, HO.out.2.2.2, List.append_assoc, List.cons_append, ← nmA_succ h.nms k (by rw [← EN.out.2]; exact hlt)] at t
        exact t
    · obtain rfl : k = nn := by omega
      obtain ⟨sv, esv⟩ : ∃ sv, sv = decide (h.kd = 2) := ⟨_, rfl⟩
      have hk2 : (h.kd == 2) = sv := by rw [esv]; rfl
      have P1 := HK.out.2.2.2.2.1 wy HO.out.1.bel
      rw [← esv] at P1
      have hM : xs = heM h := by rw [HO.out.2.2.2, HA.out.2.1]; unfold heM; rw [← EN.out.2]
      have hWl := HK.out.2.2.2.2.2.1.2.1
      obtain ⟨pv, epv⟩ : ∃ pv, pv = parB h.par sv := ⟨_, rfl⟩
      rw [← epv] at P1
      have hzW : xs ++ pv = heW h := by rw [epv, hM, esv]; rfl
      have hzl : xs.length + pv.length ≤ 600 := by rw [← List.length_append, hzW]; exact hWl
      obtain ⟨k0', -, -, -, -, k5, k6, k7, k8, k9, k10, k11, k12, k13, k14, k15, k16, k17⟩ := (HK.out.1.below HO.out.1.bel).cells
      have hkd0 : 0 ≤ h.kd ∧ h.kd ≤ 2 := by omega
      have HP : Hid _ := And.intro P1 hzW
      clear P1 hM hWl hzW esv epv
      go_wp2_with (first
        | (go_at_call 54; refine HP.out.1.mono ?_; rintro e w7 ⟨r7, rfl, o7, b7⟩; obtain ⟨a7, c7, ev7⟩ := (row_of_owns o7).form; subst ev7; have H7 : Hid _ := And.intro (HO.out.1.went b7) (row_of_owns o7); clear k0' k5 k6 k7 k8 k9 k10 k11 k12 k13 k14 k15 k16 k17; have k0'' := (HE'.out.1 w7 H7.out.1.bel).1; have Q1 := pf1 (W := w7) (vo := .slice none 0 0) (xs := []) 1 h.kd w7 ⟨World.ownsRow_nil _ _ _ _, Below.refl _ _⟩ (by simp) (by decide) (by omega) (by omega); rw [be1 h.kd (by omega) (by omega)] at Q1; have HQ1 : Hid _ := And.intro Q1 True.intro; clear o7 b7 Q1)
        | (go_at_call 52; (fail_if_success (have hyy := HR8)); refine HQ1.out.1.mono ?_; rintro e w8 ⟨r8, rfl, O8⟩; have HR8 : Hid (OutH w7 w8 r8 ([] ++ [h.kd]) ∧ True) := And.intro O8 True.intro; have Q2 := pf1 (W := w7) 2 ((xs.length : Int) + (pv.length : Int)) w8 O8 (by simp) (by decide) (by omega) (by omega); have HQ2 : Hid _ := And.intro Q2 True.intro; clear O8 Q2)
        | (go_at_call 52; refine HQ2.out.1.mono ?_; rintro e w9 ⟨r9, rfl, O9⟩; obtain ⟨R9, eR9⟩ : ∃ R9, R9 = [] ++ [h.kd] ++ be ((xs.length : Int) + (pv.length : Int)) 2 := ⟨_, rfl⟩; rw [← eR9] at O9; obtain ⟨a9, c9, ev9⟩ := O9.form; subst ev9; have H9 : Hid _ := And.intro O9 eR9; have IC := iconcat (.slice (some ⟨w9.heap.size, 0, none⟩) 3 3) [R9, xs, pv] _ (parts3 (row_of_owns O9.own) ((row_of_owns (H7.out.1.went O9.bel).own)) (H7.out.2.below O9.bel) 22) (by simp) (by have e := congrArg List.length eR9; simp [be_length] at e; simp; omega); have HIC : Hid _ := And.intro IC True.intro; clear O9 eR9 IC)
        | (go_at_call 55; refine HIC.out.1.mono ?_; rintro e w10 ⟨r10, rfl, o10, b10⟩; have H10 : Hid _ := And.intro o10 b10; clear o10 b10))
      go_ret2
      have B9 : Below W.heap.size W w9 := (H7.out.1.went H9.out.1.bel).bel
      have B10 := (B9.alloc B9.size _).trans (H10.out.2.mono (B9.alloc B9.size _).size)
      refine ⟨_, rfl, ?_, HK.out.2.1.trans (B10.mono HK.out.2.1.size)⟩
      have t := owns_mono H10.out.1 (Nat.le_trans HK.out.2.1.size (B9.alloc B9.size _).size)
      have e1 : heB h = [R9, xs, pv].flatten := by
        unfold heB
        rw [← HP.out.2, H9.out.2]
        simp [List.length_append]
      rw [e1]
      exact t
end Go.Proofs.YteggfkekgdlecaaGreatDoor
