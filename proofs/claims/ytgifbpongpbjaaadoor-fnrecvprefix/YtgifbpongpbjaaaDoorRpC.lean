import Derived.Test.YtgifbpongpbjaaaDoorRpA
import Derived.Test.YtgifbpongpbjaaaDoorAt
import Derived.Test.YtgifbpongpbjaaaDoorStr
import Derived.Test.YtgifbpongpbjaaaDoorStrNe
import Derived.Test.YtgifbpongpbjaaaDoorAppRow
import Derived.Laws.Append
import Derived.Lib.SlBytesConst
import Derived.Test.YtgifbpongpbjaaaDoorPartsB
namespace Go.Proofs.YtgifbpongpbjaaaDoor
open Go.RowKit
set_option linter.unusedVariables false

theorem conv_anyP {P : Program} {w : World} {e ts tstr : Nat} {v : Value} {xs : List Int} (hs : P.underlying ts = some (.slice e)) (he : P.underlying e = some (.int .u8)) (hd : P.underlying tstr = some .string)
    (h : Row w .u8 v xs) : (convert ts tstr v).run P w = .ok (.string (strOfNums xs)) w := by
  by_cases h0 : 0 < xs.length
  · obtain ⟨b, off, cap, rfl, hb, hc⟩ := h.at h0
    exact run_convert_bytes_arg w ts e hs he b off xs.length cap xs rfl hc tstr hd
  · obtain rfl : xs = [] := List.eq_nil_of_length_eq_zero (by omega)
    obtain ⟨ao, cap, rfl⟩ := h.form
    cases ao with
    | none => exact run_convert_bytes_nil w ts e hs he 0 cap tstr hd
    | some p => simp [convert, run_underlying hs, run_underlying he, run_underlying hd, Conv.bytesToString, loadCells, loadCellsFrom, strOfNums]; rfl
theorem sameP (va vb : Value) (xs : List Int) (w : World) (ha : Row w .u8 va xs) (hb : Row w .u8 vb xs) :
    Calls Tryd.prog 7 #[va, vb] w fun e w' => e = .returned (.bool true) ∧ w' = w := by
  have c1 := conv_anyP (P := Tryd.prog) Tryd.underlying22 Tryd.underlying5 Tryd.underlying9 ha
  have c2 := conv_anyP (P := Tryd.prog) Tryd.underlying22 Tryd.underlying5 Tryd.underlying9 hb
  clear ha hb
  generalize strOfNums xs = s at c1 c2
  have ht : (s.toList == s.toList) = true := by simp
  go_enter Tryd.func7, Tryd.ntmps7
  go_wp2
  go_ret
  exact ⟨rfl, rfl⟩
set_option maxHeartbeats 400000 in
theorem copiedP (v : Value) (xs : List Int) (w : World) (hr : Row w .u8 v xs) (hl : xs.length ≤ 1048576) :
    Calls Tryd.prog 5 #[v] w fun e w' => ∃ r, e = .returned r ∧ w'.ownsRow w.heap.size 5 1 r xs.length (xs.map (Value.int .u8)) ∧ Below w.heap.size w w' := by
  have ba : Below w.heap.size w (w.alloc (.cells #[] 5)) := (Below.refl _ _).alloc (Nat.le_refl _) _
  have HN : Hid _ := And.intro (hr.below ba) (And.intro ba hl)
  clear hr ba hl
  go_enter Tryd.func5, Tryd.ntmps5
  go_wp2_with (at_builtin; refine wpList_append_row rfl _ _ rfl w.heap.size (.slice (some ⟨w.heap.size, 0, none⟩) 0 0) 0 [] rfl (World.ownsRow_lit w #[] 0 (Nat.le_refl _) (by decide) rfl) v xs rfl HN.out.1 (by have := HN.out.2.2; omega) (by simp) ?_; intro v' w2 hown2 hgrow)
  have R : w2.ownsRow w.heap.size 5 1 v' xs.length (xs.map (Value.int .u8)) := by simpa using hown2
  have B : Below w.heap.size w w2 := HN.out.2.1.grown hgrow (by simp) (by intro k hk; simp [Value.ownBlock] at hk; omega)
  have HR : Hid _ := And.intro R B
  clear R B hown2 hgrow
  go_wp2
  go_ret
  exact ⟨_, rfl, HR.out.1, HR.out.2⟩
theorem at_low (v : Value) (i : Int) (w : World) :
    Calls Tryd.prog 4 #[v, .int .i64 i, .int .i64 1] w fun e w' => e = .returned (.int .i64 0) ∧ w' = w := by
  go_enter Tryd.func4, Tryd.ntmps4
  go_wp2
  go_ret
  exact ⟨rfl, rfl⟩
/-- What at tells, whatever n from 1 on. -/
def atN (ys : List Int) (i n : Nat) : Nat := if n = 1 then 0 else (atV ys i (n : Int)).toNat
theorem atP (v : Value) (ys : List Int) (i n : Nat) (w : World) (hrow : Row w .u8 v ys) (hB : Bytes ys) (hl : ys.length ≤ 9223372036854775807) (hi : i ≤ 2147483648) (hn : 1 ≤ n) (hn1 : n ≤ 2147483648) :
    Calls Tryd.prog 4 #[v, .int .i64 (i : Int), .int .i64 (n : Int)] w fun e w' => e = .returned (.int .i64 (atN ys i n : Int)) ∧ ∃ m, w' = w.drewN m := by
  by_cases h1 : n = 1
  · subst h1
    refine (at_low v (i : Int) w).mono ?_
    rintro e w' ⟨rfl, rfl⟩
    exact ⟨rfl, 0, rfl⟩
  · have hb := atV_bd ys i (n : Int) (by omega)
    refine (atC v ys i (n : Int) w hrow hB hl hi (by omega) (by omega)).mono ?_
    rintro e w' ⟨rfl, h⟩
    refine ⟨?_, h⟩
    unfold atN
    rw [if_neg h1, Int.toNat_of_nonneg hb.1]
theorem atN_lt (ys : List Int) (i n : Nat) (hn : 1 ≤ n) : atN ys i n < n := by
  unfold atN
  split
  · omega
  · have hb := atV_bd ys i (n : Int) (by omega)
    omega
theorem infoI64 : (Tryd.prog.info? 3).map (fun i => (i.zero, i.size, i.bytes)) = some (some (.int .i64 0), 1, 8) := by kernel_rfl
theorem infoRO5P : (Tryd.prog.info? 28).map (fun i => (i.zero, i.size, i.bytes)) = some (some (.agg #[.int .i64 0, .int .i64 0, .int .i64 0, .slice none 0 0, .bool false]), 5, 56) := by kernel_rfl
/-- 'append(own, x)' of a number, a step of a region that draws. -/
theorem step_append_i {w : World} {ops : Array Oper} {o : Oper} {a : Act} {K : Act → World → Prop} {Q : Exit → Act → World → Prop} {E : Prop} (hgd : o.guard = none) (p q : Operand)
    (ho : o.op = .call { callee := .builtin .append, args := #[p, q], argTypes := #[23, 23] })
    (base : Nat) (v : Value) (L : List Int) (hp : a.eval p = v) (hown : w.ownsRow base 3 1 v L.length (L.map (Value.int .i64))) (g : Nat) (x : Int) (hq : a.eval q = .slice (some ⟨g, 0, none⟩) 1 1) (hx : w.cell? ⟨g, 0, none⟩ = some (.int .i64 x)) (h63 : L.length + 1 ≤ 1099511627776) (hbase : base ≤ w.heap.size)
    (h : ∀ v' w', w'.ownsRow base 3 1 v' (L.length + 1) ((L ++ [x]).map (Value.int .i64)) → w.grownBy w' v.ownBlock → K (a.put o.dst v') w') :
    if Region.wanted o (yielded ops a.tmps) = true then Oper.wp Tryd.prog o a w K Q else E := by
  have hw : Region.wanted o (yielded ops a.tmps) = true := by simp [Region.wanted, hgd]
  rw [if_pos hw]
  obtain ⟨i0, hi, hz0, hz1, hz2⟩ := info_parts infoI64
  obtain ⟨v', w', hr, h2, h3, _⟩ := run_append_own (P := Tryd.prog) w base 23 o.type 3 i0 _ 1 8 Tryd.underlying23 hi hz0 hz1 hz2 rfl (by decide) v L.length _ hown ⟨g, 0, none⟩ 1 1 [.int .i64 x] rfl (by
    intro j u hj
    match j, hj with
    | 0, hj => simp at hj; subst hj; rw [Go.WideShapes.add_plain]; exact hx) (by intro u hu; simp at hu; subst hu; rfl) (by unfold maxLen; omega) (by omega) hbase
  unfold Oper.wp
  simp [execOp, ho, resolve, invoke, builtin, hp, hq, hr, Result.andThen]
  exact h v' w' (by simpa using h2) h3
theorem ownsBlkP {w w' : World} {base e s n : Nat} {v : Value} {xs : List Value} (ho : w.ownsRow base e s v n xs) (hne : ∀ k, k < w.heap.size → v.ownBlock = some k → w'.heap[k]? = w.heap[k]?) : w'.ownsRow base e s v n xs := by
  obtain ⟨hl, h2⟩ := ho
  refine ⟨hl, ?_⟩
  rcases h2 with h2 | ⟨g', cap, cur, rfl, hg, hh, r⟩
  · exact Or.inl h2
  · exact Or.inr ⟨g', cap, cur, rfl, hg, (hne g' (Array.getElem?_eq_some_iff.1 hh).1 rfl).trans hh, r⟩
/-- 'append(own, x)' of an operation: what it does. -/
theorem run_append_op {w : World} (ty : TypeId) (base : Nat) (v : Value) (n : Nat) (ys : List Value) (hown : w.ownsRow base 28 5 v n ys) (g : Nat) (x0 x1 x2 x3 x4 : Value) (hx : x0.oneCell' = true ∧ x1.oneCell' = true ∧ x2.oneCell' = true ∧ x3.oneCell' = true ∧ x4.oneCell' = true)
    (hc : w.heap[g]? = some (.cells #[x0, x1, x2, x3, x4] 28 (0, 0))) (h63 : n + 1 ≤ 1099511627776) (hbase : base ≤ w.heap.size) :
    ∃ v' w', (Builtin.append_ #[25, 25] ty #[v, .slice (some ⟨g, 0, none⟩) 1 1]).run Tryd.prog w = .ok v' w' ∧ w'.ownsRow base 28 5 v' (n + 1) (ys ++ [x0, x1, x2, x3, x4]) ∧ w.grownBy w' v.ownBlock := by
  obtain ⟨i0, hi, hz0, hz1, hz2⟩ := info_parts infoRO5P
  obtain ⟨v', w', hr, h2, h3, _⟩ := run_append_own (P := Tryd.prog) w base 25 ty 28 i0 _ 5 56 Tryd.underlying25 hi hz0 hz1 hz2 rfl (by decide) v n ys hown ⟨g, 0, none⟩ 1 1 [x0, x1, x2, x3, x4] rfl (by
    intro j u hj
    rw [Go.WideShapes.add_plain]
    have e := bk_cell hc (0 + j)
    rw [e, Nat.zero_add]
    have hl : j < 5 := by have := (List.getElem?_eq_some_iff.1 hj).1; simpa using this
    rw [← hj]
    obtain rfl | rfl | rfl | rfl | rfl : j = 0 ∨ j = 1 ∨ j = 2 ∨ j = 3 ∨ j = 4 := by omega
    all_goals rfl) (by
    intro u hu
    simp only [List.mem_cons, List.not_mem_nil, or_false] at hu
    obtain ⟨a0, a1, a2, a3, a4⟩ := hx
    rcases hu with rfl | rfl | rfl | rfl | rfl <;> assumption) (by unfold maxLen; omega) (by omega) hbase
  exact ⟨v', w', hr, h2, h3⟩
theorem step_append_op {w : World} {ops : Array Oper} {o : Oper} {a : Act} {K : Act → World → Prop} {Q : Exit → Act → World → Prop} {E : Prop} (hgd : o.guard = none) (p q : Operand)
    (ho : o.op = .call { callee := .builtin .append, args := #[p, q], argTypes := #[25, 25] })
    (base : Nat) (v : Value) (n : Nat) (ys : List Value) (hp : a.eval p = v) (hown : w.ownsRow base 28 5 v n ys) (g : Nat) (x0 x1 x2 x3 x4 : Value) (hx : x0.oneCell' = true ∧ x1.oneCell' = true ∧ x2.oneCell' = true ∧ x3.oneCell' = true ∧ x4.oneCell' = true)
    (hq : a.eval q = .slice (some ⟨g, 0, none⟩) 1 1) (hc : w.heap[g]? = some (.cells #[x0, x1, x2, x3, x4] 28 (0, 0))) (h63 : n + 1 ≤ 1099511627776) (hbase : base ≤ w.heap.size)
    (h : ∀ v' w', w'.ownsRow base 28 5 v' (n + 1) (ys ++ [x0, x1, x2, x3, x4]) → w.grownBy w' v.ownBlock → K (a.put o.dst v') w') :
    if Region.wanted o (yielded ops a.tmps) = true then Oper.wp Tryd.prog o a w K Q else E := by
  have hw : Region.wanted o (yielded ops a.tmps) = true := by simp [Region.wanted, hgd]
  rw [if_pos hw]
  obtain ⟨v', w', hr, h2, h3⟩ := run_append_op o.type base v n ys hown g x0 x1 x2 x3 x4 hx hc h63 hbase
  unfold Oper.wp
  simp [execOp, ho, resolve, invoke, builtin, hp, hq, hr, Result.andThen]
  exact h v' w' h2 h3
theorem wpList_append_op {w : World} {ops : Array Oper} {rest : List Oper} {o : Oper} {a : Act} {Q : Exit → Act → World → Prop} (hgd : o.guard = none) (p q : Operand)
    (ho : o.op = .call { callee := .builtin .append, args := #[p, q], argTypes := #[25, 25] })
    (base : Nat) (v : Value) (n : Nat) (ys : List Value) (hp : a.eval p = v) (hown : w.ownsRow base 28 5 v n ys) (g : Nat) (x0 x1 x2 x3 x4 : Value) (hx : x0.oneCell' = true ∧ x1.oneCell' = true ∧ x2.oneCell' = true ∧ x3.oneCell' = true ∧ x4.oneCell' = true)
    (hq : a.eval q = .slice (some ⟨g, 0, none⟩) 1 1) (hc : w.heap[g]? = some (.cells #[x0, x1, x2, x3, x4] 28 (0, 0))) (h63 : n + 1 ≤ 1099511627776) (hbase : base ≤ w.heap.size)
    (h : ∀ v' w', w'.ownsRow base 28 5 v' (n + 1) (ys ++ [x0, x1, x2, x3, x4]) → w.grownBy w' v.ownBlock → wpList Tryd.prog ops Q rest (a.put o.dst v') w') :
    wpList Tryd.prog ops Q (o :: rest) a w := by
  obtain ⟨v', w', hr, h2, h3⟩ := run_append_op o.type base v n ys hown g x0 x1 x2 x3 x4 hx hc h63 hbase
  refine wpList_plain hgd fun K hK => ?_
  unfold Oper.wp
  simp [execOp, ho, resolve, invoke, builtin, hp, hq, hr, Result.andThen]
  exact hK _ _ (h v' w' h2 h3)
/-- The operations as the law's own list. -/
structure OpK (w : World) (base : Nat) (v : Value) (R : List SRecvOp) (U : Nat → Value) (zs : List Value) : Prop where
  ow : w.ownsRow base 28 5 v R.length zs
  cs : ∀ j, j < R.length → ∀ f, f < 5 → zs[j * 5 + f]? = ((R.getD j default).c (U j))[f]?
  inn : ∀ j, j < R.length → w.ownsRow base 5 1 (U j) (R.getD j default).d.length ((R.getD j default).d.map (Value.int .u8))
theorem OpK.brow {w : World} {base : Nat} {v : Value} {R : List SRecvOp} {U : Nat → Value} {zs : List Value} (h : OpK w base v R U zs) : BRow 5 SRecvOp.c SRecvOp.d w v R :=
  ⟨U, GOwns.row (T := 28) (base := base) ⟨zs, by rw [zl_length]; exact h.ow, fun j hj f hf => by rw [zl_length] at hj; rw [zl_at _ _ _ _ hj]; exact h.cs j hj f hf⟩, fun j hj => row_of_owns (h.inn j hj)⟩
theorem OpK.below {w w' : World} {base : Nat} {v : Value} {R : List SRecvOp} {U : Nat → Value} {zs : List Value} (h : OpK w base v R U zs) (hb : Below w.heap.size w w') : OpK w' base v R U zs :=
  ⟨owns_below h.ow hb, h.cs, fun j hj => owns_below (h.inn j hj) hb⟩
theorem opk0 (w : World) (base : Nat) (hb : base ≤ w.heap.size) : OpK (w.alloc (.cells #[] 28)) base (.slice (some ⟨w.heap.size, 0, none⟩) 0 0) [] (fun _ => .slice none 0 0) [] :=
  ⟨World.ownsRow_lit _ #[] 0 hb (by decide) rfl, fun j hj => by simp at hj, fun j hj => by simp at hj⟩
/-- Behind an append: w is the world ahead of it, with the literal and what it holds. -/
theorem OpK.push {w w' : World} {base : Nat} {v v' : Value} {R : List SRecvOp} {U : Nat → Value} {zs : List Value} (h : OpK w base v R U zs) (o : SRecvOp) (u : Value) (hu : w.ownsRow base 5 1 u o.d.length (o.d.map (Value.int .u8)))
    (o6 : w'.ownsRow base 28 5 v' (R.length + 1) (zs ++ o.c u)) (g6 : w.grownBy w' v.ownBlock) : OpK w' base v' (R ++ [o]) (fun j => if j = R.length then u else U j) (zs ++ o.c u) := by
  have hzl : zs.length = R.length * 5 := h.ow.1
  have keep : ∀ {z : Value} {n : Nat} {L : List Value}, w.ownsRow base 5 1 z n L → w'.ownsRow base 5 1 z n L := fun hz =>
    ownsBlkP hz (fun k hk e => g6.block k hk (fun e2 => types_apartB (by decide) h.ow hz k e2.symm e.symm))
  refine ⟨by simpa using o6, fun j hj f hf => ?_, fun j hj => ?_⟩
  · rw [List.length_append, List.length_singleton] at hj
    rw [getD_snoc]
    by_cases e : j < R.length
    · rw [if_pos e, if_neg (by omega), List.getElem?_append_left (by rw [hzl]; exact jK_lt e hf)]
      exact h.cs j e f hf
    · have e2 : j = R.length := by omega
      subst e2
      rw [if_neg e, if_pos rfl, if_pos rfl, List.getElem?_append_right (by rw [hzl]; omega), hzl, Nat.add_sub_cancel_left]
  · rw [List.length_append, List.length_singleton] at hj
    rw [getD_snoc]
    by_cases e : j < R.length
    · rw [if_pos e, if_neg (by omega)]; exact keep (h.inn j e)
    · rw [if_neg e, if_pos (by omega), if_pos (by omega)]; exact keep hu
theorem OpK.piece {wl wc w5 w6 : World} {base : Nat} {ao : Option Addr} {co : Nat} {R : List SRecvOp} {U : Nat → Value} {zs : List Value} {C X : List Int} {kk i pA : Nat} {u v6 : Value} (K : OpK wc base (.slice ao R.length co) R U zs) (BC : Below base wl wc) (hbl : base ≤ wl.heap.size) (eA : C.getD kk 0 = (pA : Int)) (eL : i + 1 = C.length) (hkk : kk < i)
    (o5 : w5.ownsRow wc.drew.heap.size 5 1 u (pcO C X kk).f3.length ((pcO C X kk).f3.map (Value.int .u8))) (b5 : Below wc.drew.heap.size wc.drew w5)
    (o6 : w6.ownsRow base 28 5 v6 (R.length + 1) (zs ++ [.int .i64 1, .int .i64 (pA : Int), .int .i64 0, u, .bool ((kk : Int) == (i : Int) - 1)]))
    (g6 : (w5.alloc (.cells #[.int .i64 1, .int .i64 (pA : Int), .int .i64 0, u, .bool ((kk : Int) == (i : Int) - 1)] 28)).grownBy w6 (Value.slice ao R.length co).ownBlock) :
    ∃ U zs, OpK w6 base v6 (R ++ [pcO C X kk]) U zs ∧ Below base wl w6 := by
  have hsz : wc.drew.heap.size = wc.heap.size := rfl
  have B1 : Below base wl wc.drew := below_drewN BC 1
  have B2 : Below base wl w5 := B1.trans (b5.mono (Nat.le_trans hbl B1.size))
  have B3 := B2.alloc (Nat.le_trans hbl B2.size) (.cells #[.int .i64 1, .int .i64 (pA : Int), .int .i64 0, u, .bool ((kk : Int) == (i : Int) - 1)] 28)
  have ba : Below w5.heap.size w5 (w5.alloc (.cells #[.int .i64 1, .int .i64 (pA : Int), .int .i64 0, u, .bool ((kk : Int) == (i : Int) - 1)] 28)) := (Below.refl _ _).alloc (Nat.le_refl _) _
  have K1 : OpK wc.drew base (.slice ao R.length co) R U zs := K.below (below_drewN (Below.refl _ _) 1)
  have K3 := (K1.below b5).below ba
  have e : (zs ++ [.int .i64 1, .int .i64 (pA : Int), .int .i64 0, u, .bool ((kk : Int) == (i : Int) - 1)] : List Value) = zs ++ (pcO C X kk).c u := by
    have eb : ((kk : Int) == (i : Int) - 1) = decide (kk + 2 = C.length) := by
      rw [Bool.eq_iff_iff, beq_iff_eq, decide_eq_true_eq]
      omega
    rw [eb, ← eA]
    rfl
  rw [e] at o6
  exact ⟨_, _, K3.push (pcO C X kk) u (owns_mono (owns_below o5 ba) (Nat.le_trans hbl B1.size)) o6 g6, B3.grown g6 (Nat.le_trans hbl B3.size) (fun t ht => (K3.ow.lt t ht).1)⟩
theorem OpK.readP {wl wc w6 : World} {base : Nat} {ao : Option Addr} {co : Nat} {R : List SRecvOp} {U : Nat → Value} {zs : List Value} {r : Int} {v6 : Value} (K : OpK wc base (.slice ao R.length co) R U zs) (BC : Below base wl wc) (hbl : base ≤ wl.heap.size)
    (o6 : w6.ownsRow base 28 5 v6 (R.length + 1) (zs ++ [.int .i64 3, .int .i64 0, .int .i64 r, .slice none 0 0, .bool false]))
    (g6 : (wc.alloc (.cells #[.int .i64 3, .int .i64 0, .int .i64 r, .slice none 0 0, .bool false] 28)).grownBy w6 (Value.slice ao R.length co).ownBlock) :
    ∃ U zs, OpK w6 base v6 (R ++ [rdO r]) U zs ∧ Below base wl w6 := by
  have B3 := BC.alloc (Nat.le_trans hbl BC.size) (.cells #[.int .i64 3, .int .i64 0, .int .i64 r, .slice none 0 0, .bool false] 28)
  have ba : Below wc.heap.size wc (wc.alloc (.cells #[.int .i64 3, .int .i64 0, .int .i64 r, .slice none 0 0, .bool false] 28)) := (Below.refl _ _).alloc (Nat.le_refl _) _
  have K3 := K.below ba
  exact ⟨_, _, K3.push (rdO r) (.slice none 0 0) (World.ownsRow_nil _ _ _ _) o6 g6, B3.grown g6 (Nat.le_trans hbl B3.size) (fun t ht => (K3.ow.lt t ht).1)⟩
theorem constB (w : World) (C : Array Value) (n c : Nat) : (convert 22 22 (.slice (some ⟨w.heap.size, 0, none⟩) n c)).run Tryd.prog (w.alloc (.cells C 5)) = .ok (.slice (some ⟨w.heap.size, 0, none⟩) n c) (w.alloc (.cells C 5 (C.size, C.size + 1))) :=
  Lib.run_convert_bytes_const w 22 5 C n c Tryd.underlying22 Tryd.underlying5
theorem run_append_fullP {w : World} (ty : TypeId) (b off n : Nat) (xs : List Int) (en : xs.length = n) (hx : Row w .u8 (.slice (some ⟨b, off, none⟩) n n) xs)
    (v2 : Value) (ys : List Int) (hrow : Row w .u8 v2 ys) (h0 : 0 < ys.length) (h1 : 0 < n) (h63 : n + ys.length ≤ 1099511627776) :
    ∃ v' w', (Builtin.append_ #[22, 22] ty #[.slice (some ⟨b, off, none⟩) n n, v2]).run Tryd.prog w = .ok v' w' ∧ w'.ownsRow w.heap.size 5 1 v' (n + ys.length) ((xs ++ ys).map (Value.int .u8)) ∧ w.grownBy w' none := by
  obtain ⟨i, hi, hz, hsize, hby⟩ := info_parts infoBy
  obtain ⟨b2, off2, cap2, rfl, hb2, hc2⟩ := hrow.at h0
  obtain ⟨b1, off1, cap1, e1, hb1, hc1⟩ := hx.at (by omega)
  rw [en] at e1 hc1
  cases e1
  have rd : ∀ (zs : List Int) (bb oo : Nat), (∀ j, j < zs.length → w.cell? ⟨bb, oo + j, none⟩ = some (.int .u8 (zs.getD j 0))) → ∀ (j : Nat) (u : Value), (zs.map (Value.int .u8))[j]? = some u → w.cell? ((⟨bb, oo, none⟩ : Addr).add j) = some u := by
    intro zs bb oo hc j u hj
    have hj' : j < zs.length := by
      have := (List.getElem?_eq_some_iff.1 hj).1
      rwa [List.length_map] at this
    rw [Go.WideShapes.add_plain, hc j hj']
    rw [List.getElem?_map, List.getElem?_eq_getElem hj'] at hj
    simp only [Option.map_some, Option.some.injEq] at hj
    rw [← hj]
    simp [List.getD, hj']
  have hr := run_append_grow (P := Tryd.prog) w 22 ty 5 i (.int .u8 0) Tryd.underlying22 hi hz ⟨b, off, none⟩ n n (xs.map (Value.int .u8)) (by rw [hsize]; simp [en]) (rd xs b off (by rw [en]; exact hc1)) ⟨b2, off2, none⟩ ys.length cap2 (ys.map (Value.int .u8)) (by rw [hsize]; simp) (rd ys b2 off2 hc2) (by omega) (by omega) (growslice_fits (by omega) (by rw [hby]; omega))
  have hge := grownCap_ge w (n + ys.length) n 5
  have hcm : grownCap w (n + ys.length) n 5 ≤ maxLen := grownCap_le_maxLen w (n + ys.length) n 5 (by unfold maxLen; omega)
  refine ⟨_, _, hr, ⟨by simp [en], .inr ⟨w.heap.size, _, _, rfl, Nat.le_refl _, heap_alloc_new w.drew _, hge, hcm, ?_, ?_⟩⟩, ⟨rfl, rfl, rfl, by simp, fun k hk _ => Below.heap_alloc w.drew _ k hk⟩⟩
  · simp only [Array.size_append, List.size_toArray, size_zeroCells, List.length_map, en]
    show n + ys.length + (grownCap w (n + ys.length) n 5 - (n + ys.length)) * 1 = _
    omega
  · simp only [Array.toList_append, List.append_assoc]
    rw [← List.append_assoc, ← List.map_append]
    have e : (n + ys.length) * 1 = ((xs ++ ys).map (Value.int .u8)).length := by simp [en]
    rw [e]
    exact List.take_left
/-- 'append([]byte("text"), row...)'. -/
theorem wpList_append_txt {w : World} {ops : Array Oper} {rest : List Oper} {o : Oper} {a : Act} {Q : Exit → Act → World → Prop} (hgd : o.guard = none) (p q : Operand)
    (ho : o.op = .call { callee := .builtin .append, args := #[p, q], argTypes := #[22, 22] })
    (b n : Nat) (xs : List Int) (en : xs.length = n) (hp : a.eval p = .slice (some ⟨b, 0, none⟩) n n) (hx : Row w .u8 (.slice (some ⟨b, 0, none⟩) n n) xs)
    (v2 : Value) (ys : List Int) (hq : a.eval q = v2) (hrow : Row w .u8 v2 ys) (h1 : 0 < n) (h63 : n + ys.length ≤ 1099511627776)
    (h : ∀ v' w', Row w' .u8 v' (xs ++ ys) → Below w.heap.size w w' → wpList Tryd.prog ops Q rest (a.put o.dst v') w') :
    wpList Tryd.prog ops Q (o :: rest) a w := by
  by_cases h0 : 0 < ys.length
  · obtain ⟨v', w', hr, h2, h3⟩ := run_append_fullP o.type b 0 n xs en hx v2 ys hrow h0 h1 h63
    refine wpList_plain hgd fun K hK => ?_
    unfold Oper.wp
    simp [execOp, ho, resolve, invoke, builtin, hp, hq, hr, Result.andThen]
    refine hK _ _ (h v' w' ?_ ((Below.refl _ _).grown h3 (Nat.le_refl _) (by intro k hk; cases hk)))
    have h2' : w'.ownsRow w.heap.size 5 1 v' (n + ys.length) ((xs ++ ys).map (Value.int .u8)) := h2
    exact row_of_owns h2'
  · have hn : ys = [] := List.eq_nil_of_length_eq_zero (by omega)
    subst hn
    obtain ⟨ao, cap, rfl⟩ := hrow.form
    obtain ⟨i, hi, hz, hsize, hby⟩ := info_parts infoBy
    have hrun : (Builtin.append_ #[22, 22] o.type #[.slice (some ⟨b, 0, none⟩) n n, .slice ao 0 cap]).run Tryd.prog w = .ok (.slice (some ⟨b, 0, none⟩) n n) w := by
      cases ao <;> simp [Builtin.append_, run_underlying Tryd.underlying22, sizeOf, typeInfo, hi, Builtin.lenOf, Builtin.firstCells, storeCells, loadCells, loadCellsFrom]
    refine wpList_plain hgd fun K hK => ?_
    unfold Oper.wp
    simp only [List.length_nil] at hq
    simp [execOp, ho, resolve, invoke, builtin, hp, hq, hrun, Result.andThen]
    exact hK _ _ (h _ _ (by simpa using hx) (Below.refl _ _))
theorem txt_row (w : World) : Row (w.alloc (.cells #[.int .u8 116, .int .u8 101, .int .u8 120, .int .u8 116] 5 (4, 5))) .u8 (.slice (some ⟨w.heap.size, 0, none⟩) 4 4) [116, 101, 120, 116] := by
  refine Or.inr ⟨w.heap.size, 0, 4, rfl, by simp, ⟨Nat.le_refl _, by unfold maxLen; decide⟩, fun j hj => ?_⟩
  have hh := heap_alloc_new w (.cells #[.int .u8 116, .int .u8 101, .int .u8 120, .int .u8 116] 5 (4, 5))
  rw [Nat.zero_add]
  rw [blkS_cell hh]
  rcases (show j = 0 ∨ j = 1 ∨ j = 2 ∨ j = 3 by simp at hj; omega) with rfl | rfl | rfl | rfl <;> rfl
theorem own_formP {w : World} {base n : Nat} {v : Value} {xs : List Int} {T : TypeId} {k : IntKind} (h : w.ownsRow base T 1 v n (xs.map (Value.int k))) (hn : 0 < n) : ∃ g cap, v = .slice (some ⟨g, 0, none⟩) n cap ∧ g < w.heap.size ∧ base ≤ g ∧ n ≤ cap ∧ cap ≤ maxLen ∧ ∀ j, j < n → w.cell? ⟨g, j, none⟩ = some (.int k (xs.getD j 0)) := by
  have hl : xs.length = n := by have := h.1; simpa using this
  rcases h.2 with ⟨rfl, e⟩ | ⟨g, cap, cur, rfl, hg, hh, hnc, hcm, _⟩
  · omega
  · refine ⟨g, cap, rfl, (Array.getElem?_eq_some_iff.1 hh).1, hg, hnc, hcm, fun j hj => ?_⟩
    rw [h.cellAt j (by omega)]
    simp [List.getD, show j < xs.length by omega]
theorem row_cutP {w : World} {b off N ct : Nat} {X : List Int} (h : Row w .u8 (.slice (some ⟨b, off, none⟩) N ct) X) (hX : X.length = N) (p k : Nat) (hk : p + k ≤ N) : Row w .u8 (.slice (some ⟨b, off + p, none⟩) k (ct - p)) ((X.drop p).take k) := by
  rcases h with ⟨rfl, ao', cap', e⟩ | ⟨b', off', cap, e, hb, hc, hx⟩
  · simp at hX
    subst hX
    obtain rfl : k = 0 := by omega
    exact Or.inl ⟨by simp, _, _, rfl⟩
  · cases e
    refine Or.inr ⟨b, off + p, ct - p, by simp; omega, hb, ⟨by simp; omega, by omega⟩, fun j hj => ?_⟩
    have hj' : j < k := by simp at hj; omega
    have := hx (p + j) (by omega)
    rw [Nat.add_assoc, this]
    simp only [List.getD]
    rw [List.getElem?_take_of_lt hj', List.getElem?_drop]
theorem lit1P (w : World) (x : Value) (t : TypeId) : (w.alloc (.cells #[x] t)).cell? ⟨w.heap.size, 0, none⟩ = some x := bk_cell (heap_alloc_new w _) 0
end Go.Proofs.YtgifbpongpbjaaaDoor
