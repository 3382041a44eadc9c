import Derived.Test.YtmfbfophjnaapaaDoorParP
import Derived.Test.YtmfbfophjnaapaaDoorPutVars
import Derived.Test.YtmfbfophjnaapaaDoorAppRow
import Derived.Maps.AppendAt
namespace Go.Proofs.YtmfbfophjnaapaaDoor
open Go.RowKit
set_option linter.unusedVariables false

theorem Row.chg {S : Nat → Prop} {w w' : World} {k : IntKind} {v : Value} {xs : List Int} (h : Row w k v xs) (c : Chg S w w') (hs : xs ≠ [] → ∀ b, v.ownBlock = some b → ¬ S b) : Row w' k v xs := by
  rcases h with h | ⟨b, off, cap, rfl, hlt, hcap, hc⟩
  · exact Or.inl h
  · by_cases hx : xs = []
    · subst hx
      exact Or.inl ⟨rfl, _, _, rfl⟩
    · have e : w'.heap[b]? = w.heap[b]? := c.block b hlt (hs hx b rfl)
      refine Or.inr ⟨b, off, cap, rfl, Nat.lt_of_lt_of_le hlt c.size, hcap, fun j hj => ?_⟩
      rw [← hc j hj]
      simp only [World.cell?, e]
theorem own_of_row {w : World} {k : IntKind} {v : Value} {xs : List Int} (h : Row w k v xs) (hx : xs ≠ []) {b : Nat} (e : v.ownBlock = some b) : b < w.heap.size := by
  rcases h with ⟨rfl, _⟩ | ⟨b', off, cap, rfl, hb, _⟩
  · exact absurd rfl hx
  · have := Option.some.inj e
    simp only at this
    omega
/-- What was put behind v is v': of the old blocks v's own alone has turned, and v' lies there or is new. -/
structure GrW (w w' : World) (v v' : Value) : Prop where
  chg : Chg (fun k => v.ownBlock = some k) w w'
  loc : ∀ k, v'.ownBlock = some k → v.ownBlock = some k ∨ w.heap.size ≤ k
theorem GrW.refl (w : World) (v : Value) : GrW w w v v := ⟨⟨rfl, rfl, rfl, Nat.le_refl _, fun _ _ _ => rfl⟩, fun k h => Or.inl h⟩
theorem GrW.trans {w w1 w2 : World} {v v1 v2 : Value} (h : GrW w w1 v v1) (k : GrW w1 w2 v1 v2) : GrW w w2 v v2 := by
  refine ⟨⟨k.chg.os.trans h.chg.os, k.chg.tape.trans h.chg.tape, k.chg.output.trans h.chg.output, Nat.le_trans h.chg.size k.chg.size, fun i hi hn => ?_⟩, fun i hi => ?_⟩
  · refine (k.chg.block i (Nat.lt_of_lt_of_le hi h.chg.size) (fun e => ?_)).trans (h.chg.block i hi hn)
    rcases h.loc i e with q | q
    · exact hn q
    · omega
  · rcases k.loc i hi with q | q
    · exact h.loc i q
    · exact Or.inr (Nat.le_trans h.chg.size q)
/-- First something below is made, then it goes on. -/
theorem GrW.after {w w1 w2 : World} {v v2 : Value} (b : Below w.heap.size w w1) (k : GrW w1 w2 v v2) : GrW w w2 v v2 :=
  ⟨⟨k.chg.os.trans b.os, k.chg.tape.trans b.tape, k.chg.output.trans b.output, Nat.le_trans b.size k.chg.size, fun i hi hn => (k.chg.block i (Nat.lt_of_lt_of_le hi b.size) hn).trans (b.block i hi)⟩, fun i hi => (k.loc i hi).imp id (fun q => Nat.le_trans b.size q)⟩
theorem GrW.below {w w' : World} {v v' : Value} {base n : Nat} {xs : List Value} (h : GrW w w' v v') (ho : w.ownsRow base 5 1 v n xs) (hb : base ≤ w.heap.size) : Below base w w' :=
  h.chg.below hb (fun k e => (ho.lt k e).1)
/-- 'append(own, row...)', where it lies told. -/
theorem wpList_append_loc {w : World} {ops : Array Oper} {rest : List Oper} {o : Oper} {a : Act} {Q : Exit → Act → World → Prop} (hgd : o.guard = none) (p q : Operand)
    (ho : o.op = .call { callee := .builtin .append, args := #[p, q], argTypes := #[22, 22] })
    (base : Nat) (v : Value) (xs : List Int) (hp : a.eval p = v) (hown : w.ownsRow base 5 1 v xs.length (xs.map (Value.int .u8)))
    (v2 : Value) (ys : List Int) (hq : a.eval q = v2) (hrow : Row w .u8 v2 ys) (h63 : xs.length + ys.length ≤ 140737488355328) (hbase : base ≤ w.heap.size)
    (h : ∀ v' w', w'.ownsRow base 5 1 v' (xs ++ ys).length ((xs ++ ys).map (Value.int .u8)) → GrW w w' v v' → wpList Tryd.prog ops Q rest (a.put o.dst v') w') :
    wpList Tryd.prog ops Q (o :: rest) a w := by
  obtain ⟨i0, hi, hz0, hz1, hz2⟩ := info_parts infoBy
  by_cases h0 : 0 < ys.length
  · obtain ⟨b, off, cap, rfl, hb, hc⟩ := hrow.at h0
    refine wpList_append_own_at w hgd p q 22 ho base 5 i0 (.int .u8 0) 1 1 Tryd.underlying22 hi hz0 hz1 hz2 rfl (by decide) v xs.length (xs.map (Value.int .u8)) hp hown ⟨b, off, none⟩ ys.length cap (ys.map (Value.int .u8)) hq (by simp) ?_ ?_ (by unfold maxLen; omega) (by omega) hbase ?_
    · intro j u hj
      have hj' : j < ys.length := by
        have := (List.getElem?_eq_some_iff.1 hj).1
        rwa [List.length_map] at this
      rw [Go.WideShapes.add_plain, hc j hj']
      rw [List.getElem?_map, List.getElem?_eq_getElem hj'] at hj
      simp only [Option.map_some, Option.some.injEq] at hj
      rw [← hj]
      simp [List.getD, hj']
    · intro u hu
      obtain ⟨z, _, rfl⟩ := List.mem_map.1 hu
      rfl
    · intro v' w' ho' hg _ hl
      refine h v' w' (by rw [List.map_append, List.length_append]; exact ho') ⟨⟨hg.os, hg.tape, hg.output, hg.size, fun k hk hn => hg.block k hk (fun e => hn e.symm)⟩, fun k hk => ?_⟩
      rcases hl with e | e
      · exact Or.inl (e ▸ hk)
      · rw [e] at hk; exact Or.inr (by have := Option.some.inj hk; omega)
  · have hn : ys = [] := List.eq_nil_of_length_eq_zero (by omega)
    subst hn
    obtain ⟨ao, cap, rfl⟩ := hrow.form
    have hrun := run_append_owned_zero (P := Tryd.prog) (w := w) base 22 o.type 5 i0 1 Tryd.underlying22 hi v xs.length (xs.map (Value.int .u8)) ao cap hown
    refine wpList_plain hgd fun K hK => ?_
    unfold Oper.wp
    simp only [List.length_nil] at hq
    simp [execOp, ho, resolve, invoke, builtin, hp, hq, hrun, Result.andThen]
    refine hK _ _ (h v w ?_ (GrW.refl w v))
    simpa using hown

def entB (n : Int) (ys : List Int) : List Int := putv n ++ (putv ys.length ++ ys)
theorem putv_le (v : Int) (h0 : 0 ≤ v) (h1 : v ≤ 4611686018427387903) : (putv v).length ≤ 8 := by rw [putv_length]; exact (vsize_bd v ⟨h0, h1⟩).2
theorem entB_le (n : Int) (ys : List Int) (h0 : 0 ≤ n) (h1 : n ≤ 63) (hy : ys.length ≤ 8) : (entB n ys).length ≤ 24 := by
  have a := putv_le n h0 (by omega)
  have b := putv_le ys.length (by omega) (by omega)
  simp only [entB, List.length_append]
  omega
/-- What the entries say, one by one; empty where one is not told. -/
def parL (p : PP) (s : Bool) : List (List Int) :=
  [if s = true then entB 0 p.o else [], entB 1 (putv p.a0), if 0 < p.t.length then entB 2 p.t else [], entB 3 (putv p.a1), entB 4 (putv p.a2), entB 5 (putv p.a3), entB 8 (putv p.a4), entB 9 (putv p.a5), entB 11 (putv p.a6), if p.m = true then entB 12 [] else [], entB 14 (putv p.a7), entB 15 p.f, entB 32 (putv p.a8)]
def parA (p : PP) (s : Bool) (k : Nat) : List Int := ((parL p s).take k).flatten
def parB (p : PP) (s : Bool) : List Int := (parL p s).flatten
theorem parA_13 (p : PP) (s : Bool) : parA p s 13 = parB p s := by unfold parA parB; rw [List.take_of_length_le (by simp [parL])]
theorem parA_succ (p : PP) (s : Bool) (k : Nat) (h : k < 13) : parA p s (k + 1) = parA p s k ++ (parL p s).getD k [] := by
  unfold parA
  have hk : k < (parL p s).length := by simpa [parL] using h
  rw [List.take_add_one, List.flatten_append]
  simp [List.getD, hk]

theorem nC (base : Nat) (vo : Value) (xs : List Int) (n : Int) (w : World) (ho : w.ownsRow base 5 1 vo xs.length (xs.map (Value.int .u8))) (hb : base ≤ w.heap.size) (hx : xs.length ≤ 1000000) (h0 : 0 ≤ n) (h1 : n ≤ 4611686018427387903) :
    Calls Tryd.prog 17 #[vo, .int .i64 n] w fun e w' => ∃ r, e = .returned r ∧ w'.ownsRow base 5 1 r (xs ++ putv n).length ((xs ++ putv n).map (Value.int .u8)) ∧ GrW w w' vo r := by
  have HH : Hid _ := And.intro ho (And.intro (specPutVar n w h0 h1) (And.intro hb (putv_le n h0 h1)))
  clear ho hb
  go_enter Tryd.func17, Tryd.ntmps17
  go_wp2_with (first
    | (go_at_call 29; refine HH.out.2.1.mono ?_; rintro e w1 ⟨r1, rfl, o1, b1⟩; have H1 : Hid _ := And.intro (row_of_owns o1) b1; clear o1 b1)
    | (at_builtin; refine wpList_append_loc rfl (.tmp 12) (.tmp 13) rfl base _ xs rfl (owns_below HH.out.1 H1.out.2) _ (putv n) rfl H1.out.1 (by have := HH.out.2.2.2; omega) (Nat.le_trans HH.out.2.2.1 H1.out.2.size) ?_; intro q2 w2 o2 g2; have H2 : Hid _ := And.intro o2 (GrW.after H1.out.2 g2); clear o2 g2))
  go_ret
  exact ⟨_, rfl, H2.out.1, H2.out.2⟩
theorem cntC (base : Nat) (vo vv : Value) (xs ys : List Int) (w : World) (ho : w.ownsRow base 5 1 vo xs.length (xs.map (Value.int .u8))) (hv : Row w .u8 vv ys) (ha : ys ≠ [] → ∀ k, vv.ownBlock = some k → vo.ownBlock ≠ some k) (hb : base ≤ w.heap.size) (hx : xs.length ≤ 1000000) (hy : ys.length ≤ 1000000) :
    Calls Tryd.prog 16 #[vo, vv] w fun e w' => ∃ r, e = .returned r ∧ w'.ownsRow base 5 1 r (xs ++ (putv ys.length ++ ys)).length ((xs ++ (putv ys.length ++ ys)).map (Value.int .u8)) ∧ GrW w w' vo r := by
  obtain ⟨ao, cap, rfl⟩ := hv.form
  have C := nC base vo xs ys.length w ho hb hx (by omega) (by omega)
  have HH : Hid _ := And.intro C (And.intro hv (And.intro ha (And.intro hb (And.intro (putv_le ys.length (by omega) (by omega)) (And.intro ho True.intro)))))
  obtain ⟨n, en⟩ : ∃ n, n = ys.length := ⟨_, rfl⟩
  have EN : Hid _ := And.intro en True.intro
  have hny : n ≤ 1000000 := by omega
  rw [← en]
  clear C hv ha hb ho en hy
  go_enter Tryd.func16, Tryd.ntmps16
  go_wp2_with (first
    | (go_at_call 17; rw [EN.out.1]; refine HH.out.1.mono ?_; rintro e w1 ⟨r1, rfl, o1, g1⟩; have H1 : Hid _ := And.intro o1 g1; clear o1 g1)
    | (at_builtin; refine wpList_append_loc rfl (.tmp 8) (.tmp 9) rfl base _ (xs ++ putv ys.length) rfl H1.out.1 _ ys (by rw [← EN.out.1]; rfl) (HH.out.2.1.chg H1.out.2.chg (fun hx k h e => HH.out.2.2.1 hx k h e)) (by have := HH.out.2.2.2.2.1; have := EN.out.1; rw [List.length_append]; omega) (Nat.le_trans HH.out.2.2.2.1 H1.out.2.chg.size) ?_; intro q2 w2 o2 g2; have H2 : Hid _ := And.intro o2 (GrW.trans H1.out.2 g2); clear o2 g2))
  go_ret
  refine ⟨_, rfl, ?_, H2.out.2⟩
  have := H2.out.1
  rw [List.append_assoc, ← EN.out.1] at this
  exact this
theorem own_lt {w : World} {base n : Nat} {v : Value} {xs : List Value} (h : w.ownsRow base 5 1 v n xs) (k : Nat) (e : v.ownBlock = some k) : k < w.heap.size := (h.lt k e).2
end Go.Proofs.YtmfbfophjnaapaaDoor
