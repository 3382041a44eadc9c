import Derived.Test.YtcljchbceeiheaaDoorEqBytes
import Derived.Test.YtcljchbceeiheaaDoorMarkBytes
import Derived.Test.YtcljchbceeiheaaDoorToBytes
import Derived.Test.YtcljchbceeiheaaDoorKeys
import Derived.Test.YtcljchbceeiheaaDoorBook
import Derived.Test.YtcljchbceeiheaaDoorParP
import Derived.Test.YtcljchbceeiheaaDoorEqPar
import Derived.Test.YtcljchbceeiheaaDoorMarkPar
import Derived.Test.YtcljchbceeiheaaDoorSzPar
import Derived.Test.YtcljchbceeiheaaDoorToPar
import Derived.Deep.RegionWith
import Derived.Deep.CutRange
import Derived.Test.YtcljchbceeiheaaDoorPutVars
import Derived.Test.YtcljchbceeiheaaDoorAppRow
import Derived.Maps.AppendAt
import Derived.Test.YtcljchbceeiheaaDoorBlocks
import Derived.Test.YtcljchbceeiheaaDoorParT
import Derived.Laws.EntriesVeiled
import Derived.Test.YtcljchbceeiheaaDoorPokS
import Derived.Test.YtcljchbceeiheaaDoorStoreE
import Derived.Test.YtcljchbceeiheaaDoorHjE
import Derived.Deep.RegionHeld3
import Derived.Deep.LoopGhost
namespace Go.Proofs.YtcljchbceeiheaaDoor
open Go.RowKit
set_option linter.unusedVariables false

end Go.Proofs.YtcljchbceeiheaaDoor

namespace Go.Proofs.YtcljchbceeiheaaDoor
open Go.RowKit
set_option linter.unusedVariables false

theorem Row.chg {S : Nat → Prop} {w w' : World} {k : IntKind} {v : Value} {xs : List Int} (h : Row w k v xs) (c : Chg S w w') (hs : xs ≠ [] → ∀ b, v.ownBlock = some b → ¬ S b) : Row w' k v xs := by
  rcases h with h | ⟨b, off, cap, rfl, hlt, hcap, hc⟩
  · exact Or.inl h
  · by_cases hx : xs = []
    · subst hx
      exact Or.inl ⟨rfl, _, _, rfl⟩
    · have e : w'.heap[b]? = w.heap[b]? := c.block b hlt (hs hx b rfl)
      refine Or.inr ⟨b, off, cap, rfl, Nat.lt_of_lt_of_le hlt c.size, hcap, fun j hj => ?_⟩
      rw [← hc j hj]
      simp only [World.cell?, e]
theorem own_of_row {w : World} {k : IntKind} {v : Value} {xs : List Int} (h : Row w k v xs) (hx : xs ≠ []) {b : Nat} (e : v.ownBlock = some b) : b < w.heap.size := by
  rcases h with ⟨rfl, _⟩ | ⟨b', off, cap, rfl, hb, _⟩
  · exact absurd rfl hx
  · have := Option.some.inj e
    simp only at this
    omega
/-- What was put behind v is v': of the old blocks v's own alone has turned, and v' lies there or is new. -/
structure GrW (w w' : World) (v v' : Value) : Prop where
  chg : Chg (fun k => v.ownBlock = some k) w w'
  loc : ∀ k, v'.ownBlock = some k → v.ownBlock = some k ∨ w.heap.size ≤ k
theorem GrW.refl (w : World) (v : Value) : GrW w w v v := ⟨⟨rfl, rfl, rfl, Nat.le_refl _, fun _ _ _ => rfl⟩, fun k h => Or.inl h⟩
theorem GrW.trans {w w1 w2 : World} {v v1 v2 : Value} (h : GrW w w1 v v1) (k : GrW w1 w2 v1 v2) : GrW w w2 v v2 := by
  refine ⟨⟨k.chg.os.trans h.chg.os, k.chg.tape.trans h.chg.tape, k.chg.output.trans h.chg.output, Nat.le_trans h.chg.size k.chg.size, fun i hi hn => ?_⟩, fun i hi => ?_⟩
  · refine (k.chg.block i (Nat.lt_of_lt_of_le hi h.chg.size) (fun e => ?_)).trans (h.chg.block i hi hn)
    rcases h.loc i e with q | q
    · exact hn q
    · omega
  · rcases k.loc i hi with q | q
    · exact h.loc i q
    · exact Or.inr (Nat.le_trans h.chg.size q)
/-- First something below is made, then it goes on. -/
theorem GrW.after {w w1 w2 : World} {v v2 : Value} (b : Below w.heap.size w w1) (k : GrW w1 w2 v v2) : GrW w w2 v v2 :=
  ⟨⟨k.chg.os.trans b.os, k.chg.tape.trans b.tape, k.chg.output.trans b.output, Nat.le_trans b.size k.chg.size, fun i hi hn => (k.chg.block i (Nat.lt_of_lt_of_le hi b.size) hn).trans (b.block i hi)⟩, fun i hi => (k.loc i hi).imp id (fun q => Nat.le_trans b.size q)⟩
theorem GrW.below {w w' : World} {v v' : Value} {base n : Nat} {xs : List Value} (h : GrW w w' v v') (ho : w.ownsRow base 5 1 v n xs) (hb : base ≤ w.heap.size) : Below base w w' :=
  h.chg.below hb (fun k e => (ho.lt k e).1)
/-- 'append(own, row...)', where it lies told. -/
theorem wpList_append_loc {w : World} {ops : Array Oper} {rest : List Oper} {o : Oper} {a : Act} {Q : Exit → Act → World → Prop} (hgd : o.guard = none) (p q : Operand)
    (ho : o.op = .call { callee := .builtin .append, args := #[p, q], argTypes := #[22, 22] })
    (base : Nat) (v : Value) (xs : List Int) (hp : a.eval p = v) (hown : w.ownsRow base 5 1 v xs.length (xs.map (Value.int .u8)))
    (v2 : Value) (ys : List Int) (hq : a.eval q = v2) (hrow : Row w .u8 v2 ys) (h63 : xs.length + ys.length ≤ 140737488355328) (hbase : base ≤ w.heap.size)
    (h : ∀ v' w', w'.ownsRow base 5 1 v' (xs ++ ys).length ((xs ++ ys).map (Value.int .u8)) → GrW w w' v v' → wpList Tryd.prog ops Q rest (a.put o.dst v') w') :
    wpList Tryd.prog ops Q (o :: rest) a w := by
  obtain ⟨i0, hi, hz0, hz1, hz2⟩ := info_parts infoBy
  by_cases h0 : 0 < ys.length
  · obtain ⟨b, off, cap, rfl, hb, hc⟩ := hrow.at h0
    refine wpList_append_own_at w hgd p q 22 ho base 5 i0 (.int .u8 0) 1 1 Tryd.underlying22 hi hz0 hz1 hz2 rfl (by decide) v xs.length (xs.map (Value.int .u8)) hp hown ⟨b, off, none⟩ ys.length cap (ys.map (Value.int .u8)) hq (by simp) ?_ ?_ (by unfold maxLen; omega) (by omega) hbase ?_
    · intro j u hj
      have hj' : j < ys.length := by
        have := (List.getElem?_eq_some_iff.1 hj).1
        rwa [List.length_map] at this
      rw [Go.WideShapes.add_plain, hc j hj']
      rw [List.getElem?_map, List.getElem?_eq_getElem hj'] at hj
      simp only [Option.map_some, Option.some.injEq] at hj
      rw [← hj]
      simp [List.getD, hj']
    · intro u hu
      obtain ⟨z, _, rfl⟩ := List.mem_map.1 hu
      rfl
    · intro v' w' ho' hg _ hl
      refine h v' w' (by rw [List.map_append, List.length_append]; exact ho') ⟨⟨hg.os, hg.tape, hg.output, hg.size, fun k hk hn => hg.block k hk (fun e => hn e.symm)⟩, fun k hk => ?_⟩
      rcases hl with e | e
      · exact Or.inl (e ▸ hk)
      · rw [e] at hk; exact Or.inr (by have := Option.some.inj hk; omega)
  · have hn : ys = [] := List.eq_nil_of_length_eq_zero (by omega)
    subst hn
    obtain ⟨ao, cap, rfl⟩ := hrow.form
    have hrun := run_append_owned_zero (P := Tryd.prog) (w := w) base 22 o.type 5 i0 1 Tryd.underlying22 hi v xs.length (xs.map (Value.int .u8)) ao cap hown
    refine wpList_plain hgd fun K hK => ?_
    unfold Oper.wp
    simp only [List.length_nil] at hq
    simp [execOp, ho, resolve, invoke, builtin, hp, hq, hrun, Result.andThen]
    refine hK _ _ (h v w ?_ (GrW.refl w v))
    simpa using hown

def entB (n : Int) (ys : List Int) : List Int := putv n ++ (putv ys.length ++ ys)
theorem putv_le (v : Int) (h0 : 0 ≤ v) (h1 : v ≤ 4611686018427387903) : (putv v).length ≤ 8 := by rw [putv_length]; exact (vsize_bd v ⟨h0, h1⟩).2
theorem entB_le (n : Int) (ys : List Int) (h0 : 0 ≤ n) (h1 : n ≤ 63) (hy : ys.length ≤ 8) : (entB n ys).length ≤ 24 := by
  have a := putv_le n h0 (by omega)
  have b := putv_le ys.length (by omega) (by omega)
  simp only [entB, List.length_append]
  omega
/-- What the entries say, one by one; empty where one is not told. -/
def parL (p : PP) (s : Bool) : List (List Int) :=
  [if s = true then entB 0 p.o else [], entB 1 (putv p.a0), if 0 < p.t.length then entB 2 p.t else [], entB 3 (putv p.a1), entB 4 (putv p.a2), entB 5 (putv p.a3), entB 8 (putv p.a4), entB 9 (putv p.a5), entB 11 (putv p.a6), if p.m = true then entB 12 [] else [], entB 14 (putv p.a7), entB 15 p.f, entB 32 (putv p.a8)]
def parA (p : PP) (s : Bool) (k : Nat) : List Int := ((parL p s).take k).flatten
def parB (p : PP) (s : Bool) : List Int := (parL p s).flatten
theorem parA_13 (p : PP) (s : Bool) : parA p s 13 = parB p s := by unfold parA parB; rw [List.take_of_length_le (by simp [parL])]
theorem parA_succ (p : PP) (s : Bool) (k : Nat) (h : k < 13) : parA p s (k + 1) = parA p s k ++ (parL p s).getD k [] := by
  unfold parA
  have hk : k < (parL p s).length := by simpa [parL] using h
  rw [List.take_add_one, List.flatten_append]
  simp [List.getD, hk]

theorem nC (base : Nat) (vo : Value) (xs : List Int) (n : Int) (w : World) (ho : w.ownsRow base 5 1 vo xs.length (xs.map (Value.int .u8))) (hb : base ≤ w.heap.size) (hx : xs.length ≤ 1000000) (h0 : 0 ≤ n) (h1 : n ≤ 4611686018427387903) :
    Calls Tryd.prog 42 #[vo, .int .i64 n] w fun e w' => ∃ r, e = .returned r ∧ w'.ownsRow base 5 1 r (xs ++ putv n).length ((xs ++ putv n).map (Value.int .u8)) ∧ GrW w w' vo r := by
  have HH : Hid _ := And.intro ho (And.intro (specPutVar n w h0 h1) (And.intro hb (putv_le n h0 h1)))
  clear ho hb
  go_enter Tryd.func42, Tryd.ntmps42
  go_wp2_with (first
    | (go_at_call 55; refine HH.out.2.1.mono ?_; rintro e w1 ⟨r1, rfl, o1, b1⟩; have H1 : Hid _ := And.intro (row_of_owns o1) b1; clear o1 b1)
    | (at_builtin; refine wpList_append_loc rfl (.tmp 12) (.tmp 13) rfl base _ xs rfl (owns_below HH.out.1 H1.out.2) _ (putv n) rfl H1.out.1 (by have := HH.out.2.2.2; omega) (Nat.le_trans HH.out.2.2.1 H1.out.2.size) ?_; intro q2 w2 o2 g2; have H2 : Hid _ := And.intro o2 (GrW.after H1.out.2 g2); clear o2 g2))
  go_ret
  exact ⟨_, rfl, H2.out.1, H2.out.2⟩
theorem cntC (base : Nat) (vo vv : Value) (xs ys : List Int) (w : World) (ho : w.ownsRow base 5 1 vo xs.length (xs.map (Value.int .u8))) (hv : Row w .u8 vv ys) (ha : ys ≠ [] → ∀ k, vv.ownBlock = some k → vo.ownBlock ≠ some k) (hb : base ≤ w.heap.size) (hx : xs.length ≤ 1000000) (hy : ys.length ≤ 1000000) :
    Calls Tryd.prog 20 #[vo, vv] w fun e w' => ∃ r, e = .returned r ∧ w'.ownsRow base 5 1 r (xs ++ (putv ys.length ++ ys)).length ((xs ++ (putv ys.length ++ ys)).map (Value.int .u8)) ∧ GrW w w' vo r := by
  obtain ⟨ao, cap, rfl⟩ := hv.form
  have C := nC base vo xs ys.length w ho hb hx (by omega) (by omega)
  have HH : Hid _ := And.intro C (And.intro hv (And.intro ha (And.intro hb (And.intro (putv_le ys.length (by omega) (by omega)) (And.intro ho True.intro)))))
  obtain ⟨n, en⟩ : ∃ n, n = ys.length := ⟨_, rfl⟩
  have EN : Hid _ := And.intro en True.intro
  have hny : n ≤ 1000000 := by omega
  rw [← en]
  clear C hv ha hb ho en hy
  go_enter Tryd.func20, Tryd.ntmps20
  go_wp2_with (first
    | (go_at_call 42; rw [EN.out.1]; refine HH.out.1.mono ?_; rintro e w1 ⟨r1, rfl, o1, g1⟩; have H1 : Hid _ := And.intro o1 g1; clear o1 g1)
    | (at_builtin; refine wpList_append_loc rfl (.tmp 8) (.tmp 9) rfl base _ (xs ++ putv ys.length) rfl H1.out.1 _ ys (by rw [← EN.out.1]; rfl) (HH.out.2.1.chg H1.out.2.chg (fun hx k h e => HH.out.2.2.1 hx k h e)) (by have := HH.out.2.2.2.2.1; have := EN.out.1; rw [List.length_append]; omega) (Nat.le_trans HH.out.2.2.2.1 H1.out.2.chg.size) ?_; intro q2 w2 o2 g2; have H2 : Hid _ := And.intro o2 (GrW.trans H1.out.2 g2); clear o2 g2))
  go_ret
  refine ⟨_, rfl, ?_, H2.out.2⟩
  have := H2.out.1
  rw [List.append_assoc, ← EN.out.1] at this
  exact this
theorem entC (base : Nat) (vo vv : Value) (xs ys : List Int) (n : Int) (w : World) (ho : w.ownsRow base 5 1 vo xs.length (xs.map (Value.int .u8))) (hv : Row w .u8 vv ys) (ha : ys ≠ [] → ∀ k, vv.ownBlock = some k → vo.ownBlock ≠ some k) (hlv : ys ≠ [] → ∀ k, vv.ownBlock = some k → k < w.heap.size) (hb : base ≤ w.heap.size) (hx : xs.length ≤ 100000) (hy : ys.length ≤ 100000) (h0 : 0 ≤ n) (h1 : n ≤ 63) :
    Calls Tryd.prog 43 #[vo, .int .i64 n, vv] w fun e w' => ∃ r, e = .returned r ∧ w'.ownsRow base 5 1 r (xs ++ entB n ys).length ((xs ++ entB n ys).map (Value.int .u8)) ∧ GrW w w' vo r := by
  have HH : Hid _ := And.intro (nC base vo xs n w ho hb (by omega) h0 (by omega)) (And.intro hv (And.intro ha (And.intro hb (And.intro (putv_le n h0 (by omega)) hlv))))
  clear hv ha hb ho hlv
  go_enter Tryd.func43, Tryd.ntmps43
  go_wp2_with (first
    | (go_at_call 42; refine HH.out.1.mono ?_; rintro e w1 ⟨r1, rfl, o1, g1⟩; have H1 : Hid _ := And.intro o1 g1; clear o1 g1)
    | (go_at_call 20; refine (cntC base _ _ (xs ++ putv n) ys w1 H1.out.1 (HH.out.2.1.chg H1.out.2.chg (fun hx k h e => HH.out.2.2.1 hx k h e)) (fun hx k h e => (H1.out.2.loc k e).elim (HH.out.2.2.1 hx k h) (fun q => by have := HH.out.2.2.2.2.2 hx k h; omega)) (Nat.le_trans HH.out.2.2.2.1 H1.out.2.chg.size) (by have := HH.out.2.2.2.2.1; rw [List.length_append]; omega) (by omega)).mono ?_; rintro e w2 ⟨r2, rfl, o2, g2⟩; have H2 : Hid _ := And.intro o2 (GrW.trans H1.out.2 g2); clear o2 g2))
  go_ret
  refine ⟨_, rfl, ?_, H2.out.2⟩
  have := H2.out.1
  rw [List.append_assoc] at this
  exact this
theorem own_lt {w : World} {base n : Nat} {v : Value} {xs : List Value} (h : w.ownsRow base 5 1 v n xs) (k : Nat) (e : v.ownBlock = some k) : k < w.heap.size := (h.lt k e).2
theorem numC (base : Nat) (vo : Value) (xs : List Int) (n x : Int) (w : World) (ho : w.ownsRow base 5 1 vo xs.length (xs.map (Value.int .u8))) (hb : base ≤ w.heap.size) (hx : xs.length ≤ 100000) (h0 : 0 ≤ n) (h1 : n ≤ 63) (x0 : 0 ≤ x) (x1 : x ≤ 4611686018427387903) :
    Calls Tryd.prog 44 #[vo, .int .i64 n, .int .i64 x] w fun e w' => ∃ r, e = .returned r ∧ w'.ownsRow base 5 1 r (xs ++ entB n (putv x)).length ((xs ++ entB n (putv x)).map (Value.int .u8)) ∧ GrW w w' vo r := by
  have A0 : Below w.heap.size w (w.alloc (.cells #[] 5)) := (Below.refl _ _).alloc (Nat.le_refl _) _
  have oz : (w.alloc (.cells #[] 5)).ownsRow w.heap.size 5 1 (.slice (some ⟨w.heap.size, 0, none⟩) 0 0) ([] : List Int).length (([] : List Int).map (Value.int .u8)) := World.ownsRow_lit _ #[] 0 (Nat.le_refl _) (by decide) rfl
  have HH : Hid _ := And.intro (nC w.heap.size _ [] x _ oz A0.size (by simp) x0 x1) (And.intro ho (And.intro hb (And.intro A0 (And.intro (putv_le x x0 x1) (And.intro (fun k (e : Value.ownBlock _ = some k) => (oz.lt k e).1) (own_lt ho))))))
  clear hb ho A0 oz
  go_enter Tryd.func44, Tryd.ntmps44
  go_wp2_with (first
    | (go_at_call 42; refine HH.out.1.mono ?_; rintro e w1 ⟨r1, rfl, o1, g1⟩; rw [List.nil_append] at o1; have H1 : Hid _ := And.intro o1 (And.intro (HH.out.2.2.2.1.trans (g1.chg.below HH.out.2.2.2.1.size (fun k e => HH.out.2.2.2.2.2.1 k e))) (fun k (e : Value.ownBlock _ = some k) => o1.lt k e)); clear o1 g1)
    | (go_at_call 43; refine (entC base _ _ xs (putv x) n w1 (owns_below HH.out.2.1 H1.out.2.1) (row_of_owns H1.out.1) (fun _ k e e2 => by have := (H1.out.2.2 k e).1; have := HH.out.2.2.2.2.2.2 k e2; omega) (fun _ k e => (H1.out.2.2 k e).2) (Nat.le_trans HH.out.2.2.1 H1.out.2.1.size) hx (by have := HH.out.2.2.2.2.1; omega) h0 h1).mono ?_; rintro e w2 ⟨r2, rfl, o2, g2⟩; have H2 : Hid _ := And.intro o2 (GrW.after H1.out.2.1 g2); clear o2 g2))
  go_ret
  exact ⟨_, rfl, H2.out.1, H2.out.2⟩
end Go.Proofs.YtcljchbceeiheaaDoor

namespace Go.Proofs.YtcljchbceeiheaaDoor
open Go.RowKit
set_option linter.unusedVariables false

set_option maxRecDepth 20000 in
set_option maxHeartbeats 1000000 in
theorem putN1 (base : Nat) (vo : Value) (xs : List Int) (n : Int) (g : Nat) (w : World) (ht : Tab w) (ho : w.ownsRow base 5 1 vo xs.length (xs.map (Value.int .u8))) (hb : base ≤ w.heap.size) (hx : xs.length ≤ 1000000) (h0 : 0 ≤ n) (h1 : n ≤ 4611686018427387903) (hc : w.cell? ⟨g, 0, none⟩ = some (.int .i64 n)) :
    Calls Tryd.prog 50 #[vo, .slice (some ⟨g, 0, none⟩) 1 1] w fun e w' => ∃ r, e = .returned r ∧ w'.ownsRow base 5 1 r (xs ++ putv n).length ((xs ++ putv n).map (Value.int .u8)) ∧ GrW w w' vo r := by
  have HH : Hid _ := And.intro ho (And.intro (implPutVar n w ht h0 h1) (And.intro hb (putv_le n h0 h1)))
  clear ho hb ht
  go_enter Tryd.func50, Tryd.ntmps50
  go_wp2
  refine wp_loop_rounds 2 ?_
  rw [rounds_succ]
  go_wp2_with (first
    | (go_at_call 59; refine HH.out.2.1.mono ?_; rintro e w1 ⟨r1, rfl, o1, b1⟩; have H1 : Hid _ := And.intro (row_of_owns o1) b1; clear o1 b1)
    | (at_builtin; refine wpList_append_loc rfl (.tmp 20) (.tmp 21) rfl base _ xs rfl (owns_below HH.out.1 H1.out.2) _ (putv n) rfl H1.out.1 (by have := HH.out.2.2.2; omega) (Nat.le_trans HH.out.2.2.1 H1.out.2.size) ?_; intro q2 w2 o2 g2; have H2 : Hid _ := And.intro o2 (GrW.after H1.out.2 g2); clear o2 g2))
  rw [rounds_succ]
  go_wp2
  go_ret
  exact ⟨_, rfl, H2.out.1, H2.out.2⟩
theorem Tab.al {w : World} (h : Tab w) (o : Obj) : Tab (w.alloc o) := h.below ((Below.refl _ _).alloc (Nat.le_refl _) o) h.lt
set_option maxRecDepth 20000 in
set_option maxHeartbeats 1000000 in
theorem putC1 (base : Nat) (vo vv : Value) (xs ys : List Int) (g : Nat) (w : World) (ht : Tab w) (ho : w.ownsRow base 5 1 vo xs.length (xs.map (Value.int .u8))) (hv : Row w .u8 vv ys) (ha : ys ≠ [] → ∀ k, vv.ownBlock = some k → vo.ownBlock ≠ some k) (hb : base ≤ w.heap.size) (hx : xs.length ≤ 100000) (hy : ys.length ≤ 100000) (hc : w.cell? ⟨g, 0, none⟩ = some vv) :
    Calls Tryd.prog 29 #[vo, .slice (some ⟨g, 0, none⟩) 1 1] w fun e w' => ∃ r, e = .returned r ∧ w'.ownsRow base 5 1 r (xs ++ (putv ys.length ++ ys)).length ((xs ++ (putv ys.length ++ ys)).map (Value.int .u8)) ∧ GrW w w' vo r := by
  obtain ⟨ao, cap, rfl⟩ := hv.form
  have al : Below w.heap.size w (w.alloc (.cells #[.int .i64 (ys.length : Int)] 3)) := (Below.refl _ _).alloc (Nat.le_refl _) _
  have C := putN1 base vo xs ys.length w.heap.size _ (ht.al _) (owns_below ho al) (Nat.le_trans hb al.size) (by omega) (by omega) (by omega) (laid1 w (.int .i64 (ys.length : Int)) 3)
  have HH : Hid _ := And.intro C (And.intro (hv.below al) (And.intro ha (And.intro hb (And.intro (putv_le ys.length (by omega) (by omega)) al))))
  obtain ⟨n, en⟩ : ∃ n, n = ys.length := ⟨_, rfl⟩
  have EN : Hid _ := And.intro en True.intro
  have hny : n ≤ 100000 := by omega
  rw [← en] at hc ⊢
  clear C hv ha hb ho en hy ht al
  go_enter Tryd.func29, Tryd.ntmps29
  go_wp2
  refine wp_loop_rounds 2 ?_
  rw [rounds_succ]
  go_wp2_with (first
    | (go_at_call 50; rw [EN.out.1]; refine HH.out.1.mono ?_; rintro e w1 ⟨r1, rfl, o1, g1⟩; have H1 : Hid _ := And.intro o1 (And.intro g1 (GrW.after HH.out.2.2.2.2.2 g1)); clear o1 g1)
    | (at_builtin; refine wpList_append_loc rfl (.tmp 17) (.tmp 18) rfl base _ (xs ++ putv ys.length) rfl H1.out.1 _ ys (by rw [← EN.out.1]; rfl) (HH.out.2.1.chg H1.out.2.1.chg (fun hx k h e => HH.out.2.2.1 hx k h e)) (by have := HH.out.2.2.2.2.1; have := EN.out.1; rw [List.length_append]; omega) (Nat.le_trans HH.out.2.2.2.1 H1.out.2.2.chg.size) ?_; intro q2 w2 o2 g2; have H2 : Hid _ := And.intro o2 (GrW.trans H1.out.2.2 g2); clear o2 g2))
  rw [rounds_succ]
  go_wp2
  go_ret
  refine ⟨_, rfl, ?_, H2.out.2⟩
  have := H2.out.1
  rw [List.append_assoc, ← EN.out.1] at this
  exact this
set_option maxRecDepth 20000 in
theorem numVal (b g off : Nat) (x : Int) (w : World) (ht : Tab w) (x0 : 0 ≤ x) (x1 : x ≤ 4611686018427387903) (c0 : w.cell? ⟨b, 0, none⟩ = some (.pointer (some ⟨g, off, none⟩))) (cx : w.cell? ⟨g, off, none⟩ = some (.int .i64 x)) :
    Calls Tryd.prog 75 #[.pointer (some ⟨b, 0, none⟩)] w fun e w' => ∃ r, e = .returned r ∧ w'.ownsRow w.heap.size 5 1 r (putv x).length ((putv x).map (Value.int .u8)) ∧ Below w.heap.size w w' := by
  have al : Below w.heap.size w (w.alloc (.cells #[.int .i64 x] 3)) := (Below.refl _ _).alloc (Nat.le_refl _) _
  have oz : (w.alloc (.cells #[.int .i64 x] 3)).ownsRow w.heap.size 5 1 (.slice none 0 0) ([] : List Int).length (([] : List Int).map (Value.int .u8)) := World.ownsRow_nil _ _ _ _
  have C := putN1 w.heap.size (.slice none 0 0) [] x w.heap.size _ (ht.al _) oz al.size (by simp) x0 x1 (laid1 w (.int .i64 x) 3)
  have HH : Hid _ := And.intro C (And.intro al oz)
  clear C al oz ht
  go_enter Tryd.func75, Tryd.ntmps75
  go_wp2_with (go_at_call 50; refine HH.out.1.mono ?_; rintro e w1 ⟨r1, rfl, o1, g1⟩; rw [List.nil_append] at o1; have H1 : Hid _ := And.intro o1 (HH.out.2.1.trans (g1.below HH.out.2.2 HH.out.2.1.size)); clear o1 g1)
  go_ret
  exact ⟨_, rfl, H1.out.1, H1.out.2⟩
theorem lstVal (b g off : Nat) (ao : Option Addr) (n cap : Nat) (w : World) (c0 : w.cell? ⟨b, 0, none⟩ = some (.pointer (some ⟨g, off, none⟩))) (cx : w.cell? ⟨g, off, none⟩ = some (.slice ao n cap)) :
    Calls Tryd.prog 87 #[.pointer (some ⟨b, 0, none⟩)] w fun e w' => e = .returned (.slice ao n cap) ∧ w' = w := by
  go_enter Tryd.func87, Tryd.ntmps87
  go_wp2
  go_ret
  exact ⟨rfl, rfl⟩
theorem flgVal (w : World) : Calls Tryd.prog 82 #[] w fun e w' => e = .returned (.slice none 0 0) ∧ w' = w := by
  go_enter Tryd.func82, Tryd.ntmps82
  go_wp2
  go_ret
  exact ⟨rfl, rfl⟩
theorem orgTold (c : Nat) (s : Bool) (w : World) (hc : w.cell? ⟨c, 0, none⟩ = some (.bool s)) : Calls Tryd.prog 72 #[.pointer (some ⟨c, 0, none⟩)] w fun e w' => e = .returned (.bool s) ∧ w' = w := by
  go_enter Tryd.func72, Tryd.ntmps72
  go_wp2
  go_ret
  exact ⟨rfl, rfl⟩
theorem tokTold (c g off : Nat) (ao : Option Addr) (n cap : Nat) (w : World) (hn : n ≤ 9223372036854775807) (c0 : w.cell? ⟨c, 0, none⟩ = some (.pointer (some ⟨g, off, none⟩))) (cx : w.cell? ⟨g, off, none⟩ = some (.slice ao n cap)) : Calls Tryd.prog 79 #[.pointer (some ⟨c, 0, none⟩)] w fun e w' => e = .returned (.bool (decide (0 < n))) ∧ w' = w := by
  go_enter Tryd.func79, Tryd.ntmps79
  go_wp2
  go_ret
  exact ⟨by first | rfl | (simp; done) | (simp; omega), rfl⟩
theorem flgTold (b g off : Nat) (m : Bool) (w : World) (c0 : w.cell? ⟨b, 0, none⟩ = some (.pointer (some ⟨g, off, none⟩))) (cx : w.cell? ⟨g, off, none⟩ = some (.bool m)) : Calls Tryd.prog 81 #[.pointer (some ⟨b, 0, none⟩)] w fun e w' => e = .returned (.bool m) ∧ w' = w := by
  go_enter Tryd.func81, Tryd.ntmps81
  go_wp2
  go_ret
  exact ⟨rfl, rfl⟩
end Go.Proofs.YtcljchbceeiheaaDoor

namespace Go.Proofs.YtcljchbceeiheaaDoor
open Go.RowKit
set_option linter.unusedVariables false

theorem pok_parts (p : PP) (s : Bool) (h : pok p s = true) : (p.o.length ≤ 8 ∧ p.t.length ≤ 8 ∧ p.f.length ≤ 8) ∧ (0 ≤ p.a0 ∧ p.a0 ≤ 1000000000000) ∧ (1200 ≤ p.a1 ∧ p.a1 ≤ 2000) ∧ (1 ≤ p.a2 ∧ p.a2 ≤ 16384) ∧ (1 ≤ p.a3 ∧ p.a3 ≤ 16384) ∧ (0 ≤ p.a4 ∧ p.a4 ≤ 64) ∧ (0 ≤ p.a5 ∧ p.a5 ≤ 64) ∧ (0 ≤ p.a6 ∧ p.a6 ≤ 1000000) ∧ (2 ≤ p.a7 ∧ p.a7 ≤ 16) ∧ (0 ≤ p.a8 ∧ p.a8 ≤ 1500) := by
  unfold pok pokL at h
  simp only [List.all_cons, List.all_nil, id, Bool.and_true, Bool.true_and, Bool.and_eq_true, btw, decide_eq_true_eq] at h
  obtain ⟨h0, h1, h2, h3, h4, h5, h6, h7, h8, h10, h11, h12⟩ := h
  have e0 : p.o.length ≤ 8 := by generalize p.o.length = no at h0 ⊢; cases s <;> simp at h0 <;> omega
  have e2 : p.t.length ≤ 8 := by generalize p.t.length = nt at h2 ⊢; cases s <;> simp at h2 <;> omega
  exact ⟨⟨e0, e2, h11⟩, h1, h3, h4, h5, h6, h7, h8, h10, h12⟩
theorem parL_le (p : PP) (s : Bool) (h : pok p s = true) (k : Nat) : ((parL p s).getD k []).length ≤ 24 := by
  obtain ⟨⟨e0, e2, e1⟩, h0, h1, h2, h3, h4, h5, h6, h7, h8⟩ := pok_parts p s h
  have pe : ∀ (n x : Int), 0 ≤ n → n ≤ 63 → 0 ≤ x → x ≤ 4611686018427387903 → (entB n (putv x)).length ≤ 24 := fun n x a b c d => entB_le n _ a b (putv_le x c d)
  unfold parL
  match k with
  | 0 => simp only [List.getD, List.getElem?_cons_zero, Option.getD_some]; split; exact entB_le 0 p.o (by decide) (by decide) e0; simp
  | 1 => exact pe 1 p.a0 (by decide) (by decide) (by omega) (by omega)
  | 2 => show (if 0 < p.t.length then entB 2 p.t else []).length ≤ 24; split; exact entB_le 2 p.t (by decide) (by decide) e2; simp
  | 3 => exact pe 3 p.a1 (by decide) (by decide) (by omega) (by omega)
  | 4 => exact pe 4 p.a2 (by decide) (by decide) (by omega) (by omega)
  | 5 => exact pe 5 p.a3 (by decide) (by decide) (by omega) (by omega)
  | 6 => exact pe 8 p.a4 (by decide) (by decide) (by omega) (by omega)
  | 7 => exact pe 9 p.a5 (by decide) (by decide) (by omega) (by omega)
  | 8 => exact pe 11 p.a6 (by decide) (by decide) (by omega) (by omega)
  | 9 => show (if p.m = true then entB 12 [] else []).length ≤ 24; split; exact entB_le 12 [] (by decide) (by decide) (by simp); simp
  | 10 => exact pe 14 p.a7 (by decide) (by decide) (by omega) (by omega)
  | 11 => exact entB_le 15 p.f (by decide) (by decide) e1
  | 12 => exact pe 32 p.a8 (by decide) (by decide) (by omega) (by omega)
  | k + 13 => simp
theorem parA_le (p : PP) (s : Bool) (h : pok p s = true) : ∀ k, k ≤ 13 → (parA p s k).length ≤ 24 * k
  | 0, _ => by simp [parA]
  | k + 1, hk => by
    have := parA_le p s h k (by omega)
    have b := parL_le p s h k
    rw [parA_succ p s k (by omega), List.length_append]
    omega
theorem parB_le (p : PP) (s : Bool) (h : pok p s = true) : (parB p s).length ≤ 312 := by
  have := parA_le p s h 13 (by decide)
  rwa [parA_13] at this
/-- Where the bytes stand behind k entries. -/
structure OutK (w1 wk : World) (vo : Value) (p : PP) (s : Bool) (k : Nat) : Prop where
  own : wk.ownsRow w1.heap.size 5 1 vo (parA p s k).length ((parA p s k).map (Value.int .u8))
  bel : Below w1.heap.size w1 wk
theorem OutK.step {w1 wk wx : World} {vo r : Value} {p : PP} {s : Bool} {k : Nat} (h : OutK w1 wk vo p s k) (hk : k < 13) (ho : wx.ownsRow w1.heap.size 5 1 r (parA p s k ++ (parL p s).getD k []).length ((parA p s k ++ (parL p s).getD k []).map (Value.int .u8))) (g : GrW wk wx vo r) : OutK w1 wx r p s (k + 1) := by
  refine ⟨by rw [parA_succ p s k hk]; exact ho, h.bel.trans (g.below h.own h.bel.size)⟩
theorem OutK.skip {w1 wk : World} {vo : Value} {p : PP} {s : Bool} {k : Nat} (h : OutK w1 wk vo p s k) (hk : k < 13) (he : (parL p s).getD k [] = []) : OutK w1 wk vo p s (k + 1) := by
  refine ⟨by rw [parA_succ p s k hk, he, List.append_nil]; exact h.own, h.bel⟩

set_option maxRecDepth 20000 in
theorem pbS_bad (v : Value) (p : PP) (s : Bool) (w : World) (hr : PPRow w v p) (hs : p.small 9223372036854775807) (hno : pok p s = false) :
    Calls Tryd.prog 21 #[v, .bool s] w fun e w' => ∃ r, e = .returned (.tuple #[r, .int .i64 11]) ∧ w'.ownsRow w.heap.size 5 1 r ([] : List Int).length (([] : List Int).map (Value.int .u8)) ∧ Below w.heap.size w w' := by
  obtain ⟨d2, d3, d4, p2, p3, p4, rfl, -, -, -⟩ := hr.parts
  have b0 := (Below.refl w.heap.size w).alloc (Nat.le_refl _) (.cells #[.int .i64 p.a0, .int .i64 p.a1, .int .i64 p.a2, .int .i64 p.a3, .int .i64 p.a4, .int .i64 p.a5, .int .i64 p.a6, .int .i64 p.a7, .int .i64 p.a8, .bool p.m, .slice d2 p.o.length p2, .slice d3 p.t.length p3, .slice d4 p.f.length p4] 32)
  have C := pokS _ p s _ (hr.below b0) hs
  rw [hno] at C
  have H0 : Hid _ := And.intro C b0
  clear C b0 hr hs hno
  go_enter Tryd.func21, Tryd.ntmps21
  go_wp2_with (go_at_call 40; refine H0.out.1.mono ?_; rintro e w1 ⟨rfl, b1⟩; have H1 : Hid _ := And.intro (H0.out.2.trans (b1.mono H0.out.2.size)) True.intro; clear b1)
  go_ret2
  exact ⟨_, rfl, World.ownsRow_lit _ #[] 0 H1.out.1.size (by decide) rfl, H1.out.1.alloc H1.out.1.size _⟩

end Go.Proofs.YtcljchbceeiheaaDoor

namespace Go.Proofs.YtcljchbceeiheaaDoor
open Go.RowKit
set_option linter.unusedVariables false

theorem OutK.told {w2 wr Wa w3 w4 w5 : World} {vo r3 r5 : Value} {p : PP} {s : Bool} {k : Nat} {num : Int} {ys : List Int} (hK : OutK w2 wr vo p s k) (hk : k < 13) (ba : Below wr.heap.size wr Wa) (g3 : GrW Wa w3 vo r3) (b4 : Below w3.heap.size w3 w4) (g5 : GrW w4 w5 r3 r5)
    (o5 : w5.ownsRow w2.heap.size 5 1 r5 ((parA p s k ++ putv num) ++ (putv ys.length ++ ys)).length (((parA p s k ++ putv num) ++ (putv ys.length ++ ys)).map (Value.int .u8))) (he : (parL p s).getD k [] = entB num ys) : OutK w2 w5 r5 p s (k + 1) := by
  refine hK.step hk ?_ (GrW.after ba (GrW.trans g3 (GrW.after b4 g5)))
  rw [he]
  unfold entB
  rw [← List.append_assoc (parA p s k)]
  exact o5
theorem keep_cell {wr Wa w3 : World} {vo r3 : Value} {base n : Nat} {xs : List Value} {a off : Nat} (g : GrW Wa w3 vo r3) (ba : Below wr.heap.size wr Wa) (ho : wr.ownsRow base 5 1 vo n xs) (hb : a < base) (hl : a < wr.heap.size) : w3.cell? ⟨a, off, none⟩ = wr.cell? ⟨a, off, none⟩ := by
  have e1 : w3.heap[a]? = Wa.heap[a]? := g.chg.block a (Nat.lt_of_lt_of_le hl ba.size) (fun e => by have := (ho.lt a e).1; omega)
  have e2 : Wa.heap[a]? = wr.heap[a]? := ba.block a hl
  simp only [World.cell?, e1, e2]
set_option maxRecDepth 20000 in
theorem pbI_bad (v : Value) (p : PP) (s : Bool) (w : World) (hr : PPRow w v p) (hs : p.small 9223372036854775807) (hno : pok p s = false) :
    Calls Tryd.prog 30 #[v, .bool s] w fun e w' => ∃ r, e = .returned (.tuple #[r, .int .i64 11]) ∧ w'.ownsRow w.heap.size 5 1 r ([] : List Int).length (([] : List Int).map (Value.int .u8)) ∧ Below w.heap.size w w' := by
  obtain ⟨d2, d3, d4, p2, p3, p4, rfl, -, -, -⟩ := hr.parts
  have b0 := (Below.refl w.heap.size w).alloc (Nat.le_refl _) (.cells #[.int .i64 p.a0, .int .i64 p.a1, .int .i64 p.a2, .int .i64 p.a3, .int .i64 p.a4, .int .i64 p.a5, .int .i64 p.a6, .int .i64 p.a7, .int .i64 p.a8, .bool p.m, .slice d2 p.o.length p2, .slice d3 p.t.length p3, .slice d4 p.f.length p4] 32)
  have C := pokI _ p s _ (hr.below b0) hs
  rw [hno] at C
  have H0 : Hid _ := And.intro C b0
  clear C b0 hr hs hno
  go_enter Tryd.func30, Tryd.ntmps30
  go_wp2_with (go_at_call 47; refine H0.out.1.mono ?_; rintro e w1 ⟨rfl, b1⟩; have H1 : Hid _ := And.intro (H0.out.2.trans (b1.mono H0.out.2.size)) True.intro; clear b1)
  go_ret2
  exact ⟨_, rfl, World.ownsRow_nil _ _ _ _, H1.out.1⟩
set_option maxRecDepth 20000 in
set_option maxHeartbeats 16000000 in
theorem pbI_ok (v : Value) (p : PP) (s : Bool) (w : World) (ht : Tab w) (hr : PPRow w v p) (hs : p.small 9223372036854775807) (hyes : pok p s = true) :
    Calls Tryd.prog 30 #[v, .bool s] w fun e w' => ∃ r, e = .returned (.tuple #[r, .int .i64 0]) ∧ w'.ownsRow w.heap.size 5 1 r (parB p s).length ((parB p s).map (Value.int .u8)) ∧ Below w.heap.size w w' := by
  obtain ⟨d2, d3, d4, p2, p3, p4, rfl, r2, r3, r4⟩ := hr.parts
  obtain ⟨⟨z2, z3, z4⟩, q0, q1, q2, q3, q4, q5, q6, q7, q8⟩ := pok_parts p s hyes
  have b0 := (Below.refl w.heap.size w).alloc (Nat.le_refl _) (.cells #[.int .i64 p.a0, .int .i64 p.a1, .int .i64 p.a2, .int .i64 p.a3, .int .i64 p.a4, .int .i64 p.a5, .int .i64 p.a6, .int .i64 p.a7, .int .i64 p.a8, .bool p.m, .slice d2 p.o.length p2, .slice d3 p.t.length p3, .slice d4 p.f.length p4] 32)
  have g0 := heap_alloc_new w (.cells #[.int .i64 p.a0, .int .i64 p.a1, .int .i64 p.a2, .int .i64 p.a3, .int .i64 p.a4, .int .i64 p.a5, .int .i64 p.a6, .int .i64 p.a7, .int .i64 p.a8, .bool p.m, .slice d2 p.o.length p2, .slice d3 p.t.length p3, .slice d4 p.f.length p4] 32)
  have C := pokI _ p s _ (hr.below b0) hs
  rw [hyes] at C
  have LE := parA_le p s hyes
  have TT : ∀ u : World, Below w.heap.size w u → Tab u := fun u h => ht.below h ht.lt
  have H0 : Hid _ := And.intro C (And.intro b0 (And.intro g0 (And.intro r2 (And.intro r3 (And.intro r4 (And.intro LE (And.intro (And.intro z2 (And.intro z3 z4)) TT)))))))
  have HQ : Hid _ := And.intro q0 (And.intro q1 (And.intro q2 (And.intro q3 (And.intro q4 (And.intro q5 (And.intro q6 (And.intro q7 q8)))))))
  clear C b0 g0 hr hs hyes r2 r3 r4 LE z2 z3 z4 q0 q1 q2 q3 q4 q5 q6 q7 q8 ht TT
  go_enter Tryd.func30, Tryd.ntmps30
  go_wp2_with fail
  go_at_call 47
  refine H0.out.1.mono ?_
  rintro e w1 ⟨rfl, b1⟩
  have H1 : Hid _ := And.intro (parTableC w.heap.size s w1) (And.intro (H0.out.2.1.trans (b1.mono H0.out.2.1.size)) ((b1.block w.heap.size (by simp)).trans H0.out.2.2.1))
  have hz1 : w.heap.size < w1.heap.size := by have := b1.size; simp at this; omega
  clear b1
  go_wp2_with fail
  go_at_call 51
  refine H1.out.1.mono ?_
  rintro e w2 ⟨T, rfl, PT, b2⟩
  have H2 : Hid _ := And.intro PT (And.intro (H1.out.2.1.trans (b2.mono H1.out.2.1.size)) ((b2.block w.heap.size hz1).trans H1.out.2.2))
  have hz2 : w.heap.size < w2.heap.size := Nat.lt_of_lt_of_le hz1 b2.size
  clear PT b2
  go_wp2_with fail
  go_loopg [6, 16] 13 (fun q v i wr => ∃ k : Nat, k ≤ 13 ∧ q = 13 - k ∧ i = .int .i64 (k : Int) ∧ OutK w2 wr v p s k)
  case atStart => exact ⟨0, Nat.zero_le _, rfl, rfl, ⟨World.ownsRow_nil _ _ _ _, Below.refl _ _⟩⟩
  case round =>
    obtain ⟨k, hk, rfl, rfl, hK⟩ := hrel
    have HK : Hid _ := And.intro hK (And.intro (H2.out.2.1.trans (hK.bel.mono H2.out.2.1.size)) ((hK.bel.block w.heap.size hz2).trans H2.out.2.2))
    clear hK
    rcases (show k = 13 ∨ k = 0 ∨ k = 1 ∨ k = 2 ∨ k = 3 ∨ k = 4 ∨ k = 5 ∨ k = 6 ∨ k = 7 ∨ k = 8 ∨ k = 9 ∨ k = 10 ∨ k = 11 ∨ k = 12 by omega) with rfl | rfl | rfl | rfl | rfl | rfl | rfl | rfl | rfl | rfl | rfl | rfl | rfl | rfl
    · go_wp2
      go_ret2
      refine ⟨_, rfl, ?_, HK.out.2.1⟩
      have := owns_mono HK.out.1.own (base' := w.heap.size) H2.out.2.1.size
      rw [parA_13] at this
      exact this
    · obtain ⟨cs, ⟨hz, hc⟩, hE⟩ := H2.out.1.e0
      obtain ⟨b, c, rfl, g0, u0, m0, g1, u1, m1, g2, u2, m2⟩ := hE
      have h0 := (HK.out.1.bel.cell (p := ⟨b, 0, none⟩) m0).trans g0
      have l0 := Nat.lt_of_lt_of_le m0 HK.out.1.bel.size
      have h1 := (HK.out.1.bel.cell (p := ⟨b + 1, 0, none⟩) m1).trans g1
      have l1 := Nat.lt_of_lt_of_le m1 HK.out.1.bel.size
      have h2 := (HK.out.1.bel.cell (p := ⟨c, 0, none⟩) m2).trans g2
      have l2 := Nat.lt_of_lt_of_le m2 HK.out.1.bel.size
      have ht : T < w2.heap.size := H2.out.1.lt.2
      have t0 : wr.cell? ⟨T, 0, none⟩ = some (.int .i64 0) := (HK.out.1.bel.cell (p := ⟨T, 0, none⟩) ht).trans (hc 0 (by decide))
      have t1 : wr.cell? ⟨T, 1, none⟩ = some (.func (.func 86) #[] #[.pointer (some ⟨(b + 1), 0, none⟩), .pointer (some ⟨b, 0, none⟩)]) := (HK.out.1.bel.cell (p := ⟨T, 1, none⟩) ht).trans (hc 1 (by decide))
      have t2 : wr.cell? ⟨T, 2, none⟩ = some (.func (.func 72) #[] #[.pointer (some ⟨c, 0, none⟩)]) := (HK.out.1.bel.cell (p := ⟨T, 2, none⟩) ht).trans (hc 2 (by decide))
      have t3 : wr.cell? ⟨T, 3, none⟩ = some (.func (.func 87) #[] #[.pointer (some ⟨b, 0, none⟩)]) := (HK.out.1.bel.cell (p := ⟨T, 3, none⟩) ht).trans (hc 3 (by decide))
      have t4 : wr.cell? ⟨T, 4, none⟩ = some (.func (.func 88) #[] #[.pointer (some ⟨b, 0, none⟩)]) := (HK.out.1.bel.cell (p := ⟨T, 4, none⟩) ht).trans (hc 4 (by decide))
      have cx : wr.cell? ⟨w.heap.size, 10, none⟩ = some (.slice d2 p.o.length p2) := by rw [bk_cell HK.out.2.2]; rfl
      have lx : w.heap.size < wr.heap.size := (Array.getElem?_eq_some_iff.1 HK.out.2.2).1
      have B1 : ∀ o, Below wr.heap.size wr (wr.alloc o) := fun o => (Below.refl _ _).alloc (Nat.le_refl _) o
      have CT := orgTold c s (wr.alloc (.cells #[.int .i64 0, .func (.func 86) #[] #[.pointer (some ⟨(b + 1), 0, none⟩), .pointer (some ⟨b, 0, none⟩)], .func (.func 72) #[] #[.pointer (some ⟨c, 0, none⟩)], .func (.func 87) #[] #[.pointer (some ⟨b, 0, none⟩)], .func (.func 88) #[] #[.pointer (some ⟨b, 0, none⟩)]] 78)) (((B1 _).cell (p := ⟨c, 0, none⟩) l2).trans h2)
      obtain ⟨t, et⟩ : ∃ t : Bool, t = (s) := ⟨_, rfl⟩
      rw [← et] at CT
      have ET : Hid _ := And.intro et True.intro
      clear et
      have BA : Below wr.heap.size wr ((wr.alloc (.cells #[.int .i64 0, .func (.func 86) #[] #[.pointer (some ⟨(b + 1), 0, none⟩), .pointer (some ⟨b, 0, none⟩)], .func (.func 72) #[] #[.pointer (some ⟨c, 0, none⟩)], .func (.func 87) #[] #[.pointer (some ⟨b, 0, none⟩)], .func (.func 88) #[] #[.pointer (some ⟨b, 0, none⟩)]] 78)).drew.alloc (.cells #[.int .i64 0] 3)) := (below_drewN (B1 _) 1).alloc (by show wr.heap.size ≤ (wr.alloc _).heap.size; simp) _
      have C3 := putN1 w2.heap.size u6 (parA p s 0) 0 (wr.heap.size + 1) ((wr.alloc (.cells #[.int .i64 0, .func (.func 86) #[] #[.pointer (some ⟨(b + 1), 0, none⟩), .pointer (some ⟨b, 0, none⟩)], .func (.func 72) #[] #[.pointer (some ⟨c, 0, none⟩)], .func (.func 87) #[] #[.pointer (some ⟨b, 0, none⟩)], .func (.func 88) #[] #[.pointer (some ⟨b, 0, none⟩)]] 78)).drew.alloc (.cells #[.int .i64 0] 3)) (H0.out.2.2.2.2.2.2.2.2 _ (HK.out.2.1.trans (BA.mono HK.out.2.1.size))) (owns_below HK.out.1.own BA) (Nat.le_trans HK.out.1.bel.size BA.size) (by have := H0.out.2.2.2.2.2.2.1 0 (by decide); omega) (by decide) (by decide) (cell_new (t := 3) (newAt1 _ _ _ (by show (wr.alloc _).heap.size = _; simp)))
      have gB : ((wr.alloc (.cells #[.int .i64 0, .func (.func 86) #[] #[.pointer (some ⟨(b + 1), 0, none⟩), .pointer (some ⟨b, 0, none⟩)], .func (.func 72) #[] #[.pointer (some ⟨c, 0, none⟩)], .func (.func 87) #[] #[.pointer (some ⟨b, 0, none⟩)], .func (.func 88) #[] #[.pointer (some ⟨b, 0, none⟩)]] 78)).drew.alloc (.cells #[.int .i64 0] 3)).heap[wr.heap.size]? = some (.cells #[.int .i64 0, .func (.func 86) #[] #[.pointer (some ⟨(b + 1), 0, none⟩), .pointer (some ⟨b, 0, none⟩)], .func (.func 72) #[] #[.pointer (some ⟨c, 0, none⟩)], .func (.func 87) #[] #[.pointer (some ⟨b, 0, none⟩)], .func (.func 88) #[] #[.pointer (some ⟨b, 0, none⟩)]] 78) := (Below.heap_alloc _ _ _ (by show wr.heap.size < (wr.alloc _).heap.size; simp)).trans (heap_alloc_new wr (.cells #[.int .i64 0, .func (.func 86) #[] #[.pointer (some ⟨(b + 1), 0, none⟩), .pointer (some ⟨b, 0, none⟩)], .func (.func 72) #[] #[.pointer (some ⟨c, 0, none⟩)], .func (.func 87) #[] #[.pointer (some ⟨b, 0, none⟩)], .func (.func 88) #[] #[.pointer (some ⟨b, 0, none⟩)]] 78))
      have HV : Hid _ := And.intro CT (And.intro C3 (And.intro BA (And.intro gB (And.intro h0 (And.intro l0 (And.intro m0 (And.intro cx lx)))))))
      clear CT C3 BA gB hc hz B1 cx h0 u0 l0 g0 m0 h1 u1 l1 g1 m1 h2 u2 l2 g2 m2
      cases t
      · skip
        go_wp2_with (go_at_call 72; refine HV.out.1.mono ?_; rintro e w3 ⟨rfl, hw⟩; subst w3)
        have K1 := HK.out.1.skip (k := 0) (by decide) (by show (if s = true then entB 0 p.o else []) = []; rw [if_neg (by rw [← ET.out.1]; decide)])
        go_roundg (13 - (0 + 1))
        case measure => omega
        case rel => exact ⟨1, by omega, rfl, by go_num, ⟨owns_below K1.own ((Below.refl _ _).alloc (Nat.le_refl _) _), K1.bel.alloc K1.bel.size _⟩⟩
      · skip
        go_wp2_with (go_at_call 72; refine HV.out.1.mono ?_; rintro e w3 ⟨rfl, hw⟩; subst w3)
        have tok1 : True := trivial
        have tok2 : True := trivial
        have cA0 : (wr.alloc (.cells #[.int .i64 0, .func (.func 86) #[] #[.pointer (some ⟨(b + 1), 0, none⟩), .pointer (some ⟨b, 0, none⟩)], .func (.func 72) #[] #[.pointer (some ⟨c, 0, none⟩)], .func (.func 87) #[] #[.pointer (some ⟨b, 0, none⟩)], .func (.func 88) #[] #[.pointer (some ⟨b, 0, none⟩)]] 78)).cell? ⟨wr.heap.size, 0, none⟩ = some (.int .i64 0) := by rw [bk_cell (heap_alloc_new wr (.cells #[.int .i64 0, .func (.func 86) #[] #[.pointer (some ⟨(b + 1), 0, none⟩), .pointer (some ⟨b, 0, none⟩)], .func (.func 72) #[] #[.pointer (some ⟨c, 0, none⟩)], .func (.func 87) #[] #[.pointer (some ⟨b, 0, none⟩)], .func (.func 88) #[] #[.pointer (some ⟨b, 0, none⟩)]] 78))]; rfl
        have cA3 : (wr.alloc (.cells #[.int .i64 0, .func (.func 86) #[] #[.pointer (some ⟨(b + 1), 0, none⟩), .pointer (some ⟨b, 0, none⟩)], .func (.func 72) #[] #[.pointer (some ⟨c, 0, none⟩)], .func (.func 87) #[] #[.pointer (some ⟨b, 0, none⟩)], .func (.func 88) #[] #[.pointer (some ⟨b, 0, none⟩)]] 78)).cell? ⟨wr.heap.size, 3, none⟩ = some (.func (.func 87) #[] #[.pointer (some ⟨b, 0, none⟩)]) := by rw [bk_cell (heap_alloc_new wr (.cells #[.int .i64 0, .func (.func 86) #[] #[.pointer (some ⟨(b + 1), 0, none⟩), .pointer (some ⟨b, 0, none⟩)], .func (.func 72) #[] #[.pointer (some ⟨c, 0, none⟩)], .func (.func 87) #[] #[.pointer (some ⟨b, 0, none⟩)], .func (.func 88) #[] #[.pointer (some ⟨b, 0, none⟩)]] 78))]; rfl
        go_upto_region 8 with fail
        go_region_held3 (fun w' => w'.cell? ⟨wr.heap.size, 0, none⟩ = some (.int .i64 0) ∧ w'.cell? ⟨wr.heap.size, 3, none⟩ = some (.func (.func 87) #[] #[.pointer (some ⟨b, 0, none⟩)])) (go_keep)
          (first
          | (go_at_call 50; have _t := tok1; refine HV.out.2.1.mono ?_; rintro e w3 ⟨r3, rfl, o3, G3⟩; have k3 := G3.chg.block wr.heap.size (Array.getElem?_eq_some_iff.1 HV.out.2.2.2.1).1 (fun e => by have := (HK.out.1.own.lt _ e).2; omega); have c30 : w3.cell? ⟨wr.heap.size, 0, none⟩ = some (.int .i64 0) := (by rw [bk_cell (k3.trans HV.out.2.2.2.1)]; rfl); have c33 : w3.cell? ⟨wr.heap.size, 3, none⟩ = some (.func (.func 87) #[] #[.pointer (some ⟨b, 0, none⟩)]) := (by rw [bk_cell (k3.trans HV.out.2.2.2.1)]; rfl); have H3 : Hid _ := And.intro o3 (And.intro G3 (And.intro (k3.trans HV.out.2.2.2.1) ((HK.out.1.bel.trans (HV.out.2.2.1.mono HK.out.1.bel.size)).trans (G3.below (owns_below HK.out.1.own HV.out.2.2.1) (Nat.le_trans HK.out.1.bel.size HV.out.2.2.1.size))))); clear o3 G3 k3 tok1)
          | (go_at_call 87; have _t := tok2; have kb : w3.cell? ⟨b, 0, none⟩ = wr.cell? ⟨b, 0, none⟩ := keep_cell H3.out.2.1 HV.out.2.2.1 HK.out.1.own HV.out.2.2.2.2.2.2.1 HV.out.2.2.2.2.2.1; have kg : w3.cell? ⟨w.heap.size, 10, none⟩ = wr.cell? ⟨w.heap.size, 10, none⟩ := keep_cell H3.out.2.1 HV.out.2.2.1 HK.out.1.own (by omega) lx; refine (lstVal b w.heap.size 10 d2 p.o.length p2 w3 (kb.trans HV.out.2.2.2.2.1) (kg.trans HV.out.2.2.2.2.2.2.2.1)).mono ?_; rintro e w4 ⟨rfl, hw4⟩; subst w4; clear kb kg tok2)
          | (go_at_call 29; have al4 : Below w3.heap.size w3 (w3.alloc (.cells #[.slice d2 p.o.length p2] 22)) := (Below.refl _ _).alloc (Nat.le_refl _) _; have B34 : Below w3.heap.size w3 (w3.alloc (.cells #[.slice d2 p.o.length p2] 22)) := (Below.refl w3.heap.size w3).trans (al4.mono (Below.refl w3.heap.size w3).size); refine (putC1 w2.heap.size r3 (.slice d2 p.o.length p2) (parA p s 0 ++ putv 0) (p.o) w3.heap.size (w3.alloc (.cells #[.slice d2 p.o.length p2] 22)) (H0.out.2.2.2.2.2.2.2.2 _ ((H2.out.2.1.trans (H3.out.2.2.2.mono H2.out.2.1.size)).trans (B34.mono (Nat.le_trans H2.out.2.1.size H3.out.2.2.2.size)))) (owns_below H3.out.1 B34) (((H0.out.2.2.2.1.below H2.out.2.1).below H3.out.2.2.2).below al4) (fun hx k h h2 => by have := own_of_row H0.out.2.2.2.1 hx h; have := (H3.out.1.lt k h2).1; omega) (Nat.le_trans H3.out.2.2.2.size B34.size) (by have := H0.out.2.2.2.2.2.2.1 0 (by decide); have := putv_le 0 (by decide) (by decide); rw [List.length_append]; omega) (by have := H0.out.2.2.2.2.2.2.2.1.1; omega) (laid1 _ _ _)).mono ?_; rintro e w5 ⟨r5, rfl, o5, G5⟩; have k5 := (G5.chg.block wr.heap.size (Nat.lt_of_lt_of_le (Array.getElem?_eq_some_iff.1 H3.out.2.2.1).1 B34.size) (fun e => (H3.out.2.1.loc _ e).elim (fun q => by have := (HK.out.1.own.lt _ q).2; omega) (fun q => by have := (Array.getElem?_eq_some_iff.1 HV.out.2.2.2.1).1; omega))).trans ((B34.block wr.heap.size (Array.getElem?_eq_some_iff.1 H3.out.2.2.1).1).trans H3.out.2.2.1); have c50 : w5.cell? ⟨wr.heap.size, 0, none⟩ = some (.int .i64 0) := (by rw [bk_cell k5]; rfl); have c53 : w5.cell? ⟨wr.heap.size, 3, none⟩ = some (.func (.func 87) #[] #[.pointer (some ⟨b, 0, none⟩)]) := (by rw [bk_cell k5]; rfl); clear k5; have H5 : Hid _ := And.intro o5 (And.intro G5 B34); clear o5 G5 al4 B34))
        all_goals
          have K1 : Hid (OutK w2 w5 r5 p s 1) := HK.out.1.told (k := 0) (num := 0) (ys := p.o) (by decide) HV.out.2.2.1 H3.out.2.1 H5.out.2.2 H5.out.2.1 H5.out.1 (by show (if s = true then entB 0 p.o else []) = _; rw [if_pos (by rw [← ET.out.1])])
          go_wp2_with fail
          go_roundg (13 - (0 + 1))
          case measure => omega
          case rel => exact ⟨1, by omega, rfl, by go_num, K1.out⟩
    · obtain ⟨cs, ⟨hz, hc⟩, hE⟩ := H2.out.1.e1
      obtain ⟨b, rfl, g0, u0, m0, g1, u1, m1, g2, u2, m2⟩ := hE
      have h0 := (HK.out.1.bel.cell (p := ⟨b, 0, none⟩) m0).trans g0
      have l0 := Nat.lt_of_lt_of_le m0 HK.out.1.bel.size
      have h1 := (HK.out.1.bel.cell (p := ⟨b + 1, 0, none⟩) m1).trans g1
      have l1 := Nat.lt_of_lt_of_le m1 HK.out.1.bel.size
      have h2 := (HK.out.1.bel.cell (p := ⟨b + 2, 0, none⟩) m2).trans g2
      have l2 := Nat.lt_of_lt_of_le m2 HK.out.1.bel.size
      have ht : T < w2.heap.size := H2.out.1.lt.2
      have t0 : wr.cell? ⟨T, 5, none⟩ = some (.int .i64 1) := (HK.out.1.bel.cell (p := ⟨T, 5, none⟩) ht).trans (hc 0 (by decide))
      have t1 : wr.cell? ⟨T, 6, none⟩ = some (.func (.func 73) #[] #[.pointer (some ⟨b, 0, none⟩), .pointer (some ⟨(b + 1), 0, none⟩), .pointer (some ⟨(b + 2), 0, none⟩)]) := (HK.out.1.bel.cell (p := ⟨T, 6, none⟩) ht).trans (hc 1 (by decide))
      have t2 : wr.cell? ⟨T, 7, none⟩ = some (.func (.func 74) #[] #[]) := (HK.out.1.bel.cell (p := ⟨T, 7, none⟩) ht).trans (hc 2 (by decide))
      have t3 : wr.cell? ⟨T, 8, none⟩ = some (.func (.func 75) #[] #[.pointer (some ⟨b, 0, none⟩)]) := (HK.out.1.bel.cell (p := ⟨T, 8, none⟩) ht).trans (hc 3 (by decide))
      have t4 : wr.cell? ⟨T, 9, none⟩ = some (.func (.func 76) #[] #[.pointer (some ⟨b, 0, none⟩)]) := (HK.out.1.bel.cell (p := ⟨T, 9, none⟩) ht).trans (hc 4 (by decide))
      have cx : wr.cell? ⟨w.heap.size, 0, none⟩ = some (.int .i64 p.a0) := by rw [bk_cell HK.out.2.2]; rfl
      have lx : w.heap.size < wr.heap.size := (Array.getElem?_eq_some_iff.1 HK.out.2.2).1
      have B1 : ∀ o, Below wr.heap.size wr (wr.alloc o) := fun o => (Below.refl _ _).alloc (Nat.le_refl _) o
      have CT := alwaysC (wr.alloc (.cells #[.int .i64 1, .func (.func 73) #[] #[.pointer (some ⟨b, 0, none⟩), .pointer (some ⟨(b + 1), 0, none⟩), .pointer (some ⟨(b + 2), 0, none⟩)], .func (.func 74) #[] #[], .func (.func 75) #[] #[.pointer (some ⟨b, 0, none⟩)], .func (.func 76) #[] #[.pointer (some ⟨b, 0, none⟩)]] 78))
      have BA : Below wr.heap.size wr ((wr.alloc (.cells #[.int .i64 1, .func (.func 73) #[] #[.pointer (some ⟨b, 0, none⟩), .pointer (some ⟨(b + 1), 0, none⟩), .pointer (some ⟨(b + 2), 0, none⟩)], .func (.func 74) #[] #[], .func (.func 75) #[] #[.pointer (some ⟨b, 0, none⟩)], .func (.func 76) #[] #[.pointer (some ⟨b, 0, none⟩)]] 78)).drew.alloc (.cells #[.int .i64 1] 3)) := (below_drewN (B1 _) 1).alloc (by show wr.heap.size ≤ (wr.alloc _).heap.size; simp) _
      have C3 := putN1 w2.heap.size u6 (parA p s 1) 1 (wr.heap.size + 1) ((wr.alloc (.cells #[.int .i64 1, .func (.func 73) #[] #[.pointer (some ⟨b, 0, none⟩), .pointer (some ⟨(b + 1), 0, none⟩), .pointer (some ⟨(b + 2), 0, none⟩)], .func (.func 74) #[] #[], .func (.func 75) #[] #[.pointer (some ⟨b, 0, none⟩)], .func (.func 76) #[] #[.pointer (some ⟨b, 0, none⟩)]] 78)).drew.alloc (.cells #[.int .i64 1] 3)) (H0.out.2.2.2.2.2.2.2.2 _ (HK.out.2.1.trans (BA.mono HK.out.2.1.size))) (owns_below HK.out.1.own BA) (Nat.le_trans HK.out.1.bel.size BA.size) (by have := H0.out.2.2.2.2.2.2.1 1 (by decide); omega) (by decide) (by decide) (cell_new (t := 3) (newAt1 _ _ _ (by show (wr.alloc _).heap.size = _; simp)))
      have gB : ((wr.alloc (.cells #[.int .i64 1, .func (.func 73) #[] #[.pointer (some ⟨b, 0, none⟩), .pointer (some ⟨(b + 1), 0, none⟩), .pointer (some ⟨(b + 2), 0, none⟩)], .func (.func 74) #[] #[], .func (.func 75) #[] #[.pointer (some ⟨b, 0, none⟩)], .func (.func 76) #[] #[.pointer (some ⟨b, 0, none⟩)]] 78)).drew.alloc (.cells #[.int .i64 1] 3)).heap[wr.heap.size]? = some (.cells #[.int .i64 1, .func (.func 73) #[] #[.pointer (some ⟨b, 0, none⟩), .pointer (some ⟨(b + 1), 0, none⟩), .pointer (some ⟨(b + 2), 0, none⟩)], .func (.func 74) #[] #[], .func (.func 75) #[] #[.pointer (some ⟨b, 0, none⟩)], .func (.func 76) #[] #[.pointer (some ⟨b, 0, none⟩)]] 78) := (Below.heap_alloc _ _ _ (by show wr.heap.size < (wr.alloc _).heap.size; simp)).trans (heap_alloc_new wr (.cells #[.int .i64 1, .func (.func 73) #[] #[.pointer (some ⟨b, 0, none⟩), .pointer (some ⟨(b + 1), 0, none⟩), .pointer (some ⟨(b + 2), 0, none⟩)], .func (.func 74) #[] #[], .func (.func 75) #[] #[.pointer (some ⟨b, 0, none⟩)], .func (.func 76) #[] #[.pointer (some ⟨b, 0, none⟩)]] 78))
      have HV : Hid _ := And.intro CT (And.intro C3 (And.intro BA (And.intro gB (And.intro h0 (And.intro l0 (And.intro m0 (And.intro cx lx)))))))
      clear CT C3 BA gB hc hz B1 cx h0 u0 l0 g0 m0 h1 u1 l1 g1 m1 h2 u2 l2 g2 m2
      go_wp2_with (go_at_call 74; refine HV.out.1.mono ?_; rintro e w3 ⟨rfl, hw⟩; subst w3)
      have tok1 : True := trivial
      have tok2 : True := trivial
      have cA0 : (wr.alloc (.cells #[.int .i64 1, .func (.func 73) #[] #[.pointer (some ⟨b, 0, none⟩), .pointer (some ⟨(b + 1), 0, none⟩), .pointer (some ⟨(b + 2), 0, none⟩)], .func (.func 74) #[] #[], .func (.func 75) #[] #[.pointer (some ⟨b, 0, none⟩)], .func (.func 76) #[] #[.pointer (some ⟨b, 0, none⟩)]] 78)).cell? ⟨wr.heap.size, 0, none⟩ = some (.int .i64 1) := by rw [bk_cell (heap_alloc_new wr (.cells #[.int .i64 1, .func (.func 73) #[] #[.pointer (some ⟨b, 0, none⟩), .pointer (some ⟨(b + 1), 0, none⟩), .pointer (some ⟨(b + 2), 0, none⟩)], .func (.func 74) #[] #[], .func (.func 75) #[] #[.pointer (some ⟨b, 0, none⟩)], .func (.func 76) #[] #[.pointer (some ⟨b, 0, none⟩)]] 78))]; rfl
      have cA3 : (wr.alloc (.cells #[.int .i64 1, .func (.func 73) #[] #[.pointer (some ⟨b, 0, none⟩), .pointer (some ⟨(b + 1), 0, none⟩), .pointer (some ⟨(b + 2), 0, none⟩)], .func (.func 74) #[] #[], .func (.func 75) #[] #[.pointer (some ⟨b, 0, none⟩)], .func (.func 76) #[] #[.pointer (some ⟨b, 0, none⟩)]] 78)).cell? ⟨wr.heap.size, 3, none⟩ = some (.func (.func 75) #[] #[.pointer (some ⟨b, 0, none⟩)]) := by rw [bk_cell (heap_alloc_new wr (.cells #[.int .i64 1, .func (.func 73) #[] #[.pointer (some ⟨b, 0, none⟩), .pointer (some ⟨(b + 1), 0, none⟩), .pointer (some ⟨(b + 2), 0, none⟩)], .func (.func 74) #[] #[], .func (.func 75) #[] #[.pointer (some ⟨b, 0, none⟩)], .func (.func 76) #[] #[.pointer (some ⟨b, 0, none⟩)]] 78))]; rfl
      go_upto_region 8 with fail
      go_region_held3 (fun w' => w'.cell? ⟨wr.heap.size, 0, none⟩ = some (.int .i64 1) ∧ w'.cell? ⟨wr.heap.size, 3, none⟩ = some (.func (.func 75) #[] #[.pointer (some ⟨b, 0, none⟩)])) (go_keep)
        (first
        | (go_at_call 50; have _t := tok1; refine HV.out.2.1.mono ?_; rintro e w3 ⟨r3, rfl, o3, G3⟩; have k3 := G3.chg.block wr.heap.size (Array.getElem?_eq_some_iff.1 HV.out.2.2.2.1).1 (fun e => by have := (HK.out.1.own.lt _ e).2; omega); have c30 : w3.cell? ⟨wr.heap.size, 0, none⟩ = some (.int .i64 1) := (by rw [bk_cell (k3.trans HV.out.2.2.2.1)]; rfl); have c33 : w3.cell? ⟨wr.heap.size, 3, none⟩ = some (.func (.func 75) #[] #[.pointer (some ⟨b, 0, none⟩)]) := (by rw [bk_cell (k3.trans HV.out.2.2.2.1)]; rfl); have H3 : Hid _ := And.intro o3 (And.intro G3 (And.intro (k3.trans HV.out.2.2.2.1) ((HK.out.1.bel.trans (HV.out.2.2.1.mono HK.out.1.bel.size)).trans (G3.below (owns_below HK.out.1.own HV.out.2.2.1) (Nat.le_trans HK.out.1.bel.size HV.out.2.2.1.size))))); clear o3 G3 k3 tok1)
        | (go_at_call 75; have _t := tok2; have kb : w3.cell? ⟨b, 0, none⟩ = wr.cell? ⟨b, 0, none⟩ := keep_cell H3.out.2.1 HV.out.2.2.1 HK.out.1.own HV.out.2.2.2.2.2.2.1 HV.out.2.2.2.2.2.1; have kg : w3.cell? ⟨w.heap.size, 0, none⟩ = wr.cell? ⟨w.heap.size, 0, none⟩ := keep_cell H3.out.2.1 HV.out.2.2.1 HK.out.1.own (by omega) lx; refine (numVal b w.heap.size 0 p.a0 w3 (H0.out.2.2.2.2.2.2.2.2 _ (H2.out.2.1.trans (H3.out.2.2.2.mono H2.out.2.1.size))) (by have := HQ.out.1; omega) (by have := HQ.out.1; omega) (kb.trans HV.out.2.2.2.2.1) (kg.trans HV.out.2.2.2.2.2.2.2.1)).mono ?_; rintro e w4 ⟨r4, rfl, o4, b4⟩; obtain ⟨a4, q4, er⟩ := (row_of_owns o4).form; subst er; have c40 : w4.cell? ⟨wr.heap.size, 0, none⟩ = some (.int .i64 1) := (by rw [bk_cell ((b4.block wr.heap.size (Array.getElem?_eq_some_iff.1 H3.out.2.2.1).1).trans H3.out.2.2.1)]; rfl); have c43 : w4.cell? ⟨wr.heap.size, 3, none⟩ = some (.func (.func 75) #[] #[.pointer (some ⟨b, 0, none⟩)]) := (by rw [bk_cell ((b4.block wr.heap.size (Array.getElem?_eq_some_iff.1 H3.out.2.2.1).1).trans H3.out.2.2.1)]; rfl); have H4 : Hid _ := And.intro b4 (And.intro (row_of_owns o4) (fun (hx : (putv p.a0) ≠ []) k (e : Value.ownBlock _ = some k) => (o4.lt k e).1)); clear o4 b4 kb kg tok2)
        | (go_at_call 29; have al4 : Below w4.heap.size w4 (w4.alloc (.cells #[.slice a4 (putv p.a0).length q4] 22)) := (Below.refl _ _).alloc (Nat.le_refl _) _; have B34 : Below w3.heap.size w3 (w4.alloc (.cells #[.slice a4 (putv p.a0).length q4] 22)) := H4.out.1.trans (al4.mono H4.out.1.size); refine (putC1 w2.heap.size r3 (.slice a4 (putv p.a0).length q4) (parA p s 1 ++ putv 1) (putv p.a0) w4.heap.size (w4.alloc (.cells #[.slice a4 (putv p.a0).length q4] 22)) (H0.out.2.2.2.2.2.2.2.2 _ ((H2.out.2.1.trans (H3.out.2.2.2.mono H2.out.2.1.size)).trans (B34.mono (Nat.le_trans H2.out.2.1.size H3.out.2.2.2.size)))) (owns_below H3.out.1 B34) (H4.out.2.1.below al4) (fun hx k h h2 => by have := H4.out.2.2 hx k h; have := (H3.out.1.lt k h2).2; omega) (Nat.le_trans H3.out.2.2.2.size B34.size) (by have := H0.out.2.2.2.2.2.2.1 1 (by decide); have := putv_le 1 (by decide) (by decide); rw [List.length_append]; omega) (by have := putv_le p.a0 (by have := HQ.out.1; omega) (by have := HQ.out.1; omega); omega) (laid1 _ _ _)).mono ?_; rintro e w5 ⟨r5, rfl, o5, G5⟩; have k5 := (G5.chg.block wr.heap.size (Nat.lt_of_lt_of_le (Array.getElem?_eq_some_iff.1 H3.out.2.2.1).1 B34.size) (fun e => (H3.out.2.1.loc _ e).elim (fun q => by have := (HK.out.1.own.lt _ q).2; omega) (fun q => by have := (Array.getElem?_eq_some_iff.1 HV.out.2.2.2.1).1; omega))).trans ((B34.block wr.heap.size (Array.getElem?_eq_some_iff.1 H3.out.2.2.1).1).trans H3.out.2.2.1); have c50 : w5.cell? ⟨wr.heap.size, 0, none⟩ = some (.int .i64 1) := (by rw [bk_cell k5]; rfl); have c53 : w5.cell? ⟨wr.heap.size, 3, none⟩ = some (.func (.func 75) #[] #[.pointer (some ⟨b, 0, none⟩)]) := (by rw [bk_cell k5]; rfl); clear k5; have H5 : Hid _ := And.intro o5 (And.intro G5 B34); clear o5 G5 al4 B34))
      all_goals
        have K1 : Hid (OutK w2 w5 r5 p s 2) := HK.out.1.told (k := 1) (num := 1) (ys := putv p.a0) (by decide) HV.out.2.2.1 H3.out.2.1 H5.out.2.2 H5.out.2.1 H5.out.1 (rfl)
        go_wp2_with fail
        go_roundg (13 - (1 + 1))
        case measure => omega
        case rel => exact ⟨2, by omega, rfl, by go_num, K1.out⟩
    · obtain ⟨cs, ⟨hz, hc⟩, hE⟩ := H2.out.1.e2
      obtain ⟨b, c, d, x, rfl, g0, u0, m0, g1, u1, m1, g2, u2, m2, g3, u3, m3, g4, u4, m4⟩ := hE
      have h0 := (HK.out.1.bel.cell (p := ⟨b, 0, none⟩) m0).trans g0
      have l0 := Nat.lt_of_lt_of_le m0 HK.out.1.bel.size
      have h1 := (HK.out.1.bel.cell (p := ⟨b + 1, 0, none⟩) m1).trans g1
      have l1 := Nat.lt_of_lt_of_le m1 HK.out.1.bel.size
      have h2 := (HK.out.1.bel.cell (p := ⟨c, 0, none⟩) m2).trans g2
      have l2 := Nat.lt_of_lt_of_le m2 HK.out.1.bel.size
      have h3 := (HK.out.1.bel.cell (p := ⟨d, 0, none⟩) m3).trans g3
      have l3 := Nat.lt_of_lt_of_le m3 HK.out.1.bel.size
      have h4 := (HK.out.1.bel.cell (p := ⟨x, 0, none⟩) m4).trans g4
      have l4 := Nat.lt_of_lt_of_le m4 HK.out.1.bel.size
      have ht : T < w2.heap.size := H2.out.1.lt.2
      have t0 : wr.cell? ⟨T, 10, none⟩ = some (.int .i64 2) := (HK.out.1.bel.cell (p := ⟨T, 10, none⟩) ht).trans (hc 0 (by decide))
      have t1 : wr.cell? ⟨T, 11, none⟩ = some (.func (.func 86) #[] #[.pointer (some ⟨(b + 1), 0, none⟩), .pointer (some ⟨b, 0, none⟩)]) := (HK.out.1.bel.cell (p := ⟨T, 11, none⟩) ht).trans (hc 1 (by decide))
      have t2 : wr.cell? ⟨T, 12, none⟩ = some (.func (.func 79) #[] #[.pointer (some ⟨c, 0, none⟩)]) := (HK.out.1.bel.cell (p := ⟨T, 12, none⟩) ht).trans (hc 2 (by decide))
      have t3 : wr.cell? ⟨T, 13, none⟩ = some (.func (.func 87) #[] #[.pointer (some ⟨b, 0, none⟩)]) := (HK.out.1.bel.cell (p := ⟨T, 13, none⟩) ht).trans (hc 3 (by decide))
      have t4 : wr.cell? ⟨T, 14, none⟩ = some (.func (.func 80) #[] #[.pointer (some ⟨c, 0, none⟩), .pointer (some ⟨x, 0, none⟩)]) := (HK.out.1.bel.cell (p := ⟨T, 14, none⟩) ht).trans (hc 4 (by decide))
      have cx : wr.cell? ⟨w.heap.size, 11, none⟩ = some (.slice d3 p.t.length p3) := by rw [bk_cell HK.out.2.2]; rfl
      have lx : w.heap.size < wr.heap.size := (Array.getElem?_eq_some_iff.1 HK.out.2.2).1
      have B1 : ∀ o, Below wr.heap.size wr (wr.alloc o) := fun o => (Below.refl _ _).alloc (Nat.le_refl _) o
      have CT := tokTold c w.heap.size 11 d3 p.t.length p3 (wr.alloc (.cells #[.int .i64 2, .func (.func 86) #[] #[.pointer (some ⟨(b + 1), 0, none⟩), .pointer (some ⟨b, 0, none⟩)], .func (.func 79) #[] #[.pointer (some ⟨c, 0, none⟩)], .func (.func 87) #[] #[.pointer (some ⟨b, 0, none⟩)], .func (.func 80) #[] #[.pointer (some ⟨c, 0, none⟩), .pointer (some ⟨x, 0, none⟩)]] 78)) (by have := H0.out.2.2.2.2.2.2.2.1.2.1; omega) (((B1 _).cell (p := ⟨c, 0, none⟩) l2).trans h2) (((B1 _).cell (p := ⟨w.heap.size, 11, none⟩) lx).trans cx)
      obtain ⟨t, et⟩ : ∃ t : Bool, t = (decide (0 < p.t.length)) := ⟨_, rfl⟩
      rw [← et] at CT
      have ET : Hid _ := And.intro et True.intro
      clear et
      have BA : Below wr.heap.size wr ((wr.alloc (.cells #[.int .i64 2, .func (.func 86) #[] #[.pointer (some ⟨(b + 1), 0, none⟩), .pointer (some ⟨b, 0, none⟩)], .func (.func 79) #[] #[.pointer (some ⟨c, 0, none⟩)], .func (.func 87) #[] #[.pointer (some ⟨b, 0, none⟩)], .func (.func 80) #[] #[.pointer (some ⟨c, 0, none⟩), .pointer (some ⟨x, 0, none⟩)]] 78)).drew.alloc (.cells #[.int .i64 2] 3)) := (below_drewN (B1 _) 1).alloc (by show wr.heap.size ≤ (wr.alloc _).heap.size; simp) _
      have C3 := putN1 w2.heap.size u6 (parA p s 2) 2 (wr.heap.size + 1) ((wr.alloc (.cells #[.int .i64 2, .func (.func 86) #[] #[.pointer (some ⟨(b + 1), 0, none⟩), .pointer (some ⟨b, 0, none⟩)], .func (.func 79) #[] #[.pointer (some ⟨c, 0, none⟩)], .func (.func 87) #[] #[.pointer (some ⟨b, 0, none⟩)], .func (.func 80) #[] #[.pointer (some ⟨c, 0, none⟩), .pointer (some ⟨x, 0, none⟩)]] 78)).drew.alloc (.cells #[.int .i64 2] 3)) (H0.out.2.2.2.2.2.2.2.2 _ (HK.out.2.1.trans (BA.mono HK.out.2.1.size))) (owns_below HK.out.1.own BA) (Nat.le_trans HK.out.1.bel.size BA.size) (by have := H0.out.2.2.2.2.2.2.1 2 (by decide); omega) (by decide) (by decide) (cell_new (t := 3) (newAt1 _ _ _ (by show (wr.alloc _).heap.size = _; simp)))
      have gB : ((wr.alloc (.cells #[.int .i64 2, .func (.func 86) #[] #[.pointer (some ⟨(b + 1), 0, none⟩), .pointer (some ⟨b, 0, none⟩)], .func (.func 79) #[] #[.pointer (some ⟨c, 0, none⟩)], .func (.func 87) #[] #[.pointer (some ⟨b, 0, none⟩)], .func (.func 80) #[] #[.pointer (some ⟨c, 0, none⟩), .pointer (some ⟨x, 0, none⟩)]] 78)).drew.alloc (.cells #[.int .i64 2] 3)).heap[wr.heap.size]? = some (.cells #[.int .i64 2, .func (.func 86) #[] #[.pointer (some ⟨(b + 1), 0, none⟩), .pointer (some ⟨b, 0, none⟩)], .func (.func 79) #[] #[.pointer (some ⟨c, 0, none⟩)], .func (.func 87) #[] #[.pointer (some ⟨b, 0, none⟩)], .func (.func 80) #[] #[.pointer (some ⟨c, 0, none⟩), .pointer (some ⟨x, 0, none⟩)]] 78) := (Below.heap_alloc _ _ _ (by show wr.heap.size < (wr.alloc _).heap.size; simp)).trans (heap_alloc_new wr (.cells #[.int .i64 2, .func (.func 86) #[] #[.pointer (some ⟨(b + 1), 0, none⟩), .pointer (some ⟨b, 0, none⟩)], .func (.func 79) #[] #[.pointer (some ⟨c, 0, none⟩)], .func (.func 87) #[] #[.pointer (some ⟨b, 0, none⟩)], .func (.func 80) #[] #[.pointer (some ⟨c, 0, none⟩), .pointer (some ⟨x, 0, none⟩)]] 78))
      have HV : Hid _ := And.intro CT (And.intro C3 (And.intro BA (And.intro gB (And.intro h0 (And.intro l0 (And.intro m0 (And.intro cx lx)))))))
      clear CT C3 BA gB hc hz B1 cx h0 u0 l0 g0 m0 h1 u1 l1 g1 m1 h2 u2 l2 g2 m2 h3 u3 l3 g3 m3 h4 u4 l4 g4 m4
      cases t
      · skip
        go_wp2_with (go_at_call 79; refine HV.out.1.mono ?_; rintro e w3 ⟨rfl, hw⟩; subst w3)
        have K1 := HK.out.1.skip (k := 2) (by decide) (by show (if 0 < p.t.length then entB 2 p.t else []) = []; rw [if_neg (by have := ET.out.1; simp at this; simp [this])])
        go_roundg (13 - (2 + 1))
        case measure => omega
        case rel => exact ⟨3, by omega, rfl, by go_num, ⟨owns_below K1.own ((Below.refl _ _).alloc (Nat.le_refl _) _), K1.bel.alloc K1.bel.size _⟩⟩
      · skip
        go_wp2_with (go_at_call 79; refine HV.out.1.mono ?_; rintro e w3 ⟨rfl, hw⟩; subst w3)
        have tok1 : True := trivial
        have tok2 : True := trivial
        have cA0 : (wr.alloc (.cells #[.int .i64 2, .func (.func 86) #[] #[.pointer (some ⟨(b + 1), 0, none⟩), .pointer (some ⟨b, 0, none⟩)], .func (.func 79) #[] #[.pointer (some ⟨c, 0, none⟩)], .func (.func 87) #[] #[.pointer (some ⟨b, 0, none⟩)], .func (.func 80) #[] #[.pointer (some ⟨c, 0, none⟩), .pointer (some ⟨x, 0, none⟩)]] 78)).cell? ⟨wr.heap.size, 0, none⟩ = some (.int .i64 2) := by rw [bk_cell (heap_alloc_new wr (.cells #[.int .i64 2, .func (.func 86) #[] #[.pointer (some ⟨(b + 1), 0, none⟩), .pointer (some ⟨b, 0, none⟩)], .func (.func 79) #[] #[.pointer (some ⟨c, 0, none⟩)], .func (.func 87) #[] #[.pointer (some ⟨b, 0, none⟩)], .func (.func 80) #[] #[.pointer (some ⟨c, 0, none⟩), .pointer (some ⟨x, 0, none⟩)]] 78))]; rfl
        have cA3 : (wr.alloc (.cells #[.int .i64 2, .func (.func 86) #[] #[.pointer (some ⟨(b + 1), 0, none⟩), .pointer (some ⟨b, 0, none⟩)], .func (.func 79) #[] #[.pointer (some ⟨c, 0, none⟩)], .func (.func 87) #[] #[.pointer (some ⟨b, 0, none⟩)], .func (.func 80) #[] #[.pointer (some ⟨c, 0, none⟩), .pointer (some ⟨x, 0, none⟩)]] 78)).cell? ⟨wr.heap.size, 3, none⟩ = some (.func (.func 87) #[] #[.pointer (some ⟨b, 0, none⟩)]) := by rw [bk_cell (heap_alloc_new wr (.cells #[.int .i64 2, .func (.func 86) #[] #[.pointer (some ⟨(b + 1), 0, none⟩), .pointer (some ⟨b, 0, none⟩)], .func (.func 79) #[] #[.pointer (some ⟨c, 0, none⟩)], .func (.func 87) #[] #[.pointer (some ⟨b, 0, none⟩)], .func (.func 80) #[] #[.pointer (some ⟨c, 0, none⟩), .pointer (some ⟨x, 0, none⟩)]] 78))]; rfl
        go_upto_region 8 with fail
        go_region_held3 (fun w' => w'.cell? ⟨wr.heap.size, 0, none⟩ = some (.int .i64 2) ∧ w'.cell? ⟨wr.heap.size, 3, none⟩ = some (.func (.func 87) #[] #[.pointer (some ⟨b, 0, none⟩)])) (go_keep)
          (first
          | (go_at_call 50; have _t := tok1; refine HV.out.2.1.mono ?_; rintro e w3 ⟨r3, rfl, o3, G3⟩; have k3 := G3.chg.block wr.heap.size (Array.getElem?_eq_some_iff.1 HV.out.2.2.2.1).1 (fun e => by have := (HK.out.1.own.lt _ e).2; omega); have c30 : w3.cell? ⟨wr.heap.size, 0, none⟩ = some (.int .i64 2) := (by rw [bk_cell (k3.trans HV.out.2.2.2.1)]; rfl); have c33 : w3.cell? ⟨wr.heap.size, 3, none⟩ = some (.func (.func 87) #[] #[.pointer (some ⟨b, 0, none⟩)]) := (by rw [bk_cell (k3.trans HV.out.2.2.2.1)]; rfl); have H3 : Hid _ := And.intro o3 (And.intro G3 (And.intro (k3.trans HV.out.2.2.2.1) ((HK.out.1.bel.trans (HV.out.2.2.1.mono HK.out.1.bel.size)).trans (G3.below (owns_below HK.out.1.own HV.out.2.2.1) (Nat.le_trans HK.out.1.bel.size HV.out.2.2.1.size))))); clear o3 G3 k3 tok1)
          | (go_at_call 87; have _t := tok2; have kb : w3.cell? ⟨b, 0, none⟩ = wr.cell? ⟨b, 0, none⟩ := keep_cell H3.out.2.1 HV.out.2.2.1 HK.out.1.own HV.out.2.2.2.2.2.2.1 HV.out.2.2.2.2.2.1; have kg : w3.cell? ⟨w.heap.size, 11, none⟩ = wr.cell? ⟨w.heap.size, 11, none⟩ := keep_cell H3.out.2.1 HV.out.2.2.1 HK.out.1.own (by omega) lx; refine (lstVal b w.heap.size 11 d3 p.t.length p3 w3 (kb.trans HV.out.2.2.2.2.1) (kg.trans HV.out.2.2.2.2.2.2.2.1)).mono ?_; rintro e w4 ⟨rfl, hw4⟩; subst w4; clear kb kg tok2)
          | (go_at_call 29; have al4 : Below w3.heap.size w3 (w3.alloc (.cells #[.slice d3 p.t.length p3] 22)) := (Below.refl _ _).alloc (Nat.le_refl _) _; have B34 : Below w3.heap.size w3 (w3.alloc (.cells #[.slice d3 p.t.length p3] 22)) := (Below.refl w3.heap.size w3).trans (al4.mono (Below.refl w3.heap.size w3).size); refine (putC1 w2.heap.size r3 (.slice d3 p.t.length p3) (parA p s 2 ++ putv 2) (p.t) w3.heap.size (w3.alloc (.cells #[.slice d3 p.t.length p3] 22)) (H0.out.2.2.2.2.2.2.2.2 _ ((H2.out.2.1.trans (H3.out.2.2.2.mono H2.out.2.1.size)).trans (B34.mono (Nat.le_trans H2.out.2.1.size H3.out.2.2.2.size)))) (owns_below H3.out.1 B34) (((H0.out.2.2.2.2.1.below H2.out.2.1).below H3.out.2.2.2).below al4) (fun hx k h h2 => by have := own_of_row H0.out.2.2.2.2.1 hx h; have := (H3.out.1.lt k h2).1; omega) (Nat.le_trans H3.out.2.2.2.size B34.size) (by have := H0.out.2.2.2.2.2.2.1 2 (by decide); have := putv_le 2 (by decide) (by decide); rw [List.length_append]; omega) (by have := H0.out.2.2.2.2.2.2.2.1.2.1; omega) (laid1 _ _ _)).mono ?_; rintro e w5 ⟨r5, rfl, o5, G5⟩; have k5 := (G5.chg.block wr.heap.size (Nat.lt_of_lt_of_le (Array.getElem?_eq_some_iff.1 H3.out.2.2.1).1 B34.size) (fun e => (H3.out.2.1.loc _ e).elim (fun q => by have := (HK.out.1.own.lt _ q).2; omega) (fun q => by have := (Array.getElem?_eq_some_iff.1 HV.out.2.2.2.1).1; omega))).trans ((B34.block wr.heap.size (Array.getElem?_eq_some_iff.1 H3.out.2.2.1).1).trans H3.out.2.2.1); have c50 : w5.cell? ⟨wr.heap.size, 0, none⟩ = some (.int .i64 2) := (by rw [bk_cell k5]; rfl); have c53 : w5.cell? ⟨wr.heap.size, 3, none⟩ = some (.func (.func 87) #[] #[.pointer (some ⟨b, 0, none⟩)]) := (by rw [bk_cell k5]; rfl); clear k5; have H5 : Hid _ := And.intro o5 (And.intro G5 B34); clear o5 G5 al4 B34))
        all_goals
          have K1 : Hid (OutK w2 w5 r5 p s 3) := HK.out.1.told (k := 2) (num := 2) (ys := p.t) (by decide) HV.out.2.2.1 H3.out.2.1 H5.out.2.2 H5.out.2.1 H5.out.1 (by show (if 0 < p.t.length then entB 2 p.t else []) = _; rw [if_pos (by have := ET.out.1; simpa using this.symm)])
          go_wp2_with fail
          go_roundg (13 - (2 + 1))
          case measure => omega
          case rel => exact ⟨3, by omega, rfl, by go_num, K1.out⟩
    · obtain ⟨cs, ⟨hz, hc⟩, hE⟩ := H2.out.1.e3
      obtain ⟨b, rfl, g0, u0, m0, g1, u1, m1, g2, u2, m2⟩ := hE
      have h0 := (HK.out.1.bel.cell (p := ⟨b, 0, none⟩) m0).trans g0
      have l0 := Nat.lt_of_lt_of_le m0 HK.out.1.bel.size
      have h1 := (HK.out.1.bel.cell (p := ⟨b + 1, 0, none⟩) m1).trans g1
      have l1 := Nat.lt_of_lt_of_le m1 HK.out.1.bel.size
      have h2 := (HK.out.1.bel.cell (p := ⟨b + 2, 0, none⟩) m2).trans g2
      have l2 := Nat.lt_of_lt_of_le m2 HK.out.1.bel.size
      have ht : T < w2.heap.size := H2.out.1.lt.2
      have t0 : wr.cell? ⟨T, 15, none⟩ = some (.int .i64 3) := (HK.out.1.bel.cell (p := ⟨T, 15, none⟩) ht).trans (hc 0 (by decide))
      have t1 : wr.cell? ⟨T, 16, none⟩ = some (.func (.func 73) #[] #[.pointer (some ⟨b, 0, none⟩), .pointer (some ⟨(b + 1), 0, none⟩), .pointer (some ⟨(b + 2), 0, none⟩)]) := (HK.out.1.bel.cell (p := ⟨T, 16, none⟩) ht).trans (hc 1 (by decide))
      have t2 : wr.cell? ⟨T, 17, none⟩ = some (.func (.func 74) #[] #[]) := (HK.out.1.bel.cell (p := ⟨T, 17, none⟩) ht).trans (hc 2 (by decide))
      have t3 : wr.cell? ⟨T, 18, none⟩ = some (.func (.func 75) #[] #[.pointer (some ⟨b, 0, none⟩)]) := (HK.out.1.bel.cell (p := ⟨T, 18, none⟩) ht).trans (hc 3 (by decide))
      have t4 : wr.cell? ⟨T, 19, none⟩ = some (.func (.func 76) #[] #[.pointer (some ⟨b, 0, none⟩)]) := (HK.out.1.bel.cell (p := ⟨T, 19, none⟩) ht).trans (hc 4 (by decide))
      have cx : wr.cell? ⟨w.heap.size, 1, none⟩ = some (.int .i64 p.a1) := by rw [bk_cell HK.out.2.2]; rfl
      have lx : w.heap.size < wr.heap.size := (Array.getElem?_eq_some_iff.1 HK.out.2.2).1
      have B1 : ∀ o, Below wr.heap.size wr (wr.alloc o) := fun o => (Below.refl _ _).alloc (Nat.le_refl _) o
      have CT := alwaysC (wr.alloc (.cells #[.int .i64 3, .func (.func 73) #[] #[.pointer (some ⟨b, 0, none⟩), .pointer (some ⟨(b + 1), 0, none⟩), .pointer (some ⟨(b + 2), 0, none⟩)], .func (.func 74) #[] #[], .func (.func 75) #[] #[.pointer (some ⟨b, 0, none⟩)], .func (.func 76) #[] #[.pointer (some ⟨b, 0, none⟩)]] 78))
      have BA : Below wr.heap.size wr ((wr.alloc (.cells #[.int .i64 3, .func (.func 73) #[] #[.pointer (some ⟨b, 0, none⟩), .pointer (some ⟨(b + 1), 0, none⟩), .pointer (some ⟨(b + 2), 0, none⟩)], .func (.func 74) #[] #[], .func (.func 75) #[] #[.pointer (some ⟨b, 0, none⟩)], .func (.func 76) #[] #[.pointer (some ⟨b, 0, none⟩)]] 78)).drew.alloc (.cells #[.int .i64 3] 3)) := (below_drewN (B1 _) 1).alloc (by show wr.heap.size ≤ (wr.alloc _).heap.size; simp) _
      have C3 := putN1 w2.heap.size u6 (parA p s 3) 3 (wr.heap.size + 1) ((wr.alloc (.cells #[.int .i64 3, .func (.func 73) #[] #[.pointer (some ⟨b, 0, none⟩), .pointer (some ⟨(b + 1), 0, none⟩), .pointer (some ⟨(b + 2), 0, none⟩)], .func (.func 74) #[] #[], .func (.func 75) #[] #[.pointer (some ⟨b, 0, none⟩)], .func (.func 76) #[] #[.pointer (some ⟨b, 0, none⟩)]] 78)).drew.alloc (.cells #[.int .i64 3] 3)) (H0.out.2.2.2.2.2.2.2.2 _ (HK.out.2.1.trans (BA.mono HK.out.2.1.size))) (owns_below HK.out.1.own BA) (Nat.le_trans HK.out.1.bel.size BA.size) (by have := H0.out.2.2.2.2.2.2.1 3 (by decide); omega) (by decide) (by decide) (cell_new (t := 3) (newAt1 _ _ _ (by show (wr.alloc _).heap.size = _; simp)))
      have gB : ((wr.alloc (.cells #[.int .i64 3, .func (.func 73) #[] #[.pointer (some ⟨b, 0, none⟩), .pointer (some ⟨(b + 1), 0, none⟩), .pointer (some ⟨(b + 2), 0, none⟩)], .func (.func 74) #[] #[], .func (.func 75) #[] #[.pointer (some ⟨b, 0, none⟩)], .func (.func 76) #[] #[.pointer (some ⟨b, 0, none⟩)]] 78)).drew.alloc (.cells #[.int .i64 3] 3)).heap[wr.heap.size]? = some (.cells #[.int .i64 3, .func (.func 73) #[] #[.pointer (some ⟨b, 0, none⟩), .pointer (some ⟨(b + 1), 0, none⟩), .pointer (some ⟨(b + 2), 0, none⟩)], .func (.func 74) #[] #[], .func (.func 75) #[] #[.pointer (some ⟨b, 0, none⟩)], .func (.func 76) #[] #[.pointer (some ⟨b, 0, none⟩)]] 78) := (Below.heap_alloc _ _ _ (by show wr.heap.size < (wr.alloc _).heap.size; simp)).trans (heap_alloc_new wr (.cells #[.int .i64 3, .func (.func 73) #[] #[.pointer (some ⟨b, 0, none⟩), .pointer (some ⟨(b + 1), 0, none⟩), .pointer (some ⟨(b + 2), 0, none⟩)], .func (.func 74) #[] #[], .func (.func 75) #[] #[.pointer (some ⟨b, 0, none⟩)], .func (.func 76) #[] #[.pointer (some ⟨b, 0, none⟩)]] 78))
      have HV : Hid _ := And.intro CT (And.intro C3 (And.intro BA (And.intro gB (And.intro h0 (And.intro l0 (And.intro m0 (And.intro cx lx)))))))
      clear CT C3 BA gB hc hz B1 cx h0 u0 l0 g0 m0 h1 u1 l1 g1 m1 h2 u2 l2 g2 m2
      go_wp2_with (go_at_call 74; refine HV.out.1.mono ?_; rintro e w3 ⟨rfl, hw⟩; subst w3)
      have tok1 : True := trivial
      have tok2 : True := trivial
      have cA0 : (wr.alloc (.cells #[.int .i64 3, .func (.func 73) #[] #[.pointer (some ⟨b, 0, none⟩), .pointer (some ⟨(b + 1), 0, none⟩), .pointer (some ⟨(b + 2), 0, none⟩)], .func (.func 74) #[] #[], .func (.func 75) #[] #[.pointer (some ⟨b, 0, none⟩)], .func (.func 76) #[] #[.pointer (some ⟨b, 0, none⟩)]] 78)).cell? ⟨wr.heap.size, 0, none⟩ = some (.int .i64 3) := by rw [bk_cell (heap_alloc_new wr (.cells #[.int .i64 3, .func (.func 73) #[] #[.pointer (some ⟨b, 0, none⟩), .pointer (some ⟨(b + 1), 0, none⟩), .pointer (some ⟨(b + 2), 0, none⟩)], .func (.func 74) #[] #[], .func (.func 75) #[] #[.pointer (some ⟨b, 0, none⟩)], .func (.func 76) #[] #[.pointer (some ⟨b, 0, none⟩)]] 78))]; rfl
      have cA3 : (wr.alloc (.cells #[.int .i64 3, .func (.func 73) #[] #[.pointer (some ⟨b, 0, none⟩), .pointer (some ⟨(b + 1), 0, none⟩), .pointer (some ⟨(b + 2), 0, none⟩)], .func (.func 74) #[] #[], .func (.func 75) #[] #[.pointer (some ⟨b, 0, none⟩)], .func (.func 76) #[] #[.pointer (some ⟨b, 0, none⟩)]] 78)).cell? ⟨wr.heap.size, 3, none⟩ = some (.func (.func 75) #[] #[.pointer (some ⟨b, 0, none⟩)]) := by rw [bk_cell (heap_alloc_new wr (.cells #[.int .i64 3, .func (.func 73) #[] #[.pointer (some ⟨b, 0, none⟩), .pointer (some ⟨(b + 1), 0, none⟩), .pointer (some ⟨(b + 2), 0, none⟩)], .func (.func 74) #[] #[], .func (.func 75) #[] #[.pointer (some ⟨b, 0, none⟩)], .func (.func 76) #[] #[.pointer (some ⟨b, 0, none⟩)]] 78))]; rfl
      go_upto_region 8 with fail
      go_region_held3 (fun w' => w'.cell? ⟨wr.heap.size, 0, none⟩ = some (.int .i64 3) ∧ w'.cell? ⟨wr.heap.size, 3, none⟩ = some (.func (.func 75) #[] #[.pointer (some ⟨b, 0, none⟩)])) (go_keep)
        (first
        | (go_at_call 50; have _t := tok1; refine HV.out.2.1.mono ?_; rintro e w3 ⟨r3, rfl, o3, G3⟩; have k3 := G3.chg.block wr.heap.size (Array.getElem?_eq_some_iff.1 HV.out.2.2.2.1).1 (fun e => by have := (HK.out.1.own.lt _ e).2; omega); have c30 : w3.cell? ⟨wr.heap.size, 0, none⟩ = some (.int .i64 3) := (by rw [bk_cell (k3.trans HV.out.2.2.2.1)]; rfl); have c33 : w3.cell? ⟨wr.heap.size, 3, none⟩ = some (.func (.func 75) #[] #[.pointer (some ⟨b, 0, none⟩)]) := (by rw [bk_cell (k3.trans HV.out.2.2.2.1)]; rfl); have H3 : Hid _ := And.intro o3 (And.intro G3 (And.intro (k3.trans HV.out.2.2.2.1) ((HK.out.1.bel.trans (HV.out.2.2.1.mono HK.out.1.bel.size)).trans (G3.below (owns_below HK.out.1.own HV.out.2.2.1) (Nat.le_trans HK.out.1.bel.size HV.out.2.2.1.size))))); clear o3 G3 k3 tok1)
        | (go_at_call 75; have _t := tok2; have kb : w3.cell? ⟨b, 0, none⟩ = wr.cell? ⟨b, 0, none⟩ := keep_cell H3.out.2.1 HV.out.2.2.1 HK.out.1.own HV.out.2.2.2.2.2.2.1 HV.out.2.2.2.2.2.1; have kg : w3.cell? ⟨w.heap.size, 1, none⟩ = wr.cell? ⟨w.heap.size, 1, none⟩ := keep_cell H3.out.2.1 HV.out.2.2.1 HK.out.1.own (by omega) lx; refine (numVal b w.heap.size 1 p.a1 w3 (H0.out.2.2.2.2.2.2.2.2 _ (H2.out.2.1.trans (H3.out.2.2.2.mono H2.out.2.1.size))) (by have := HQ.out.2.1; omega) (by have := HQ.out.2.1; omega) (kb.trans HV.out.2.2.2.2.1) (kg.trans HV.out.2.2.2.2.2.2.2.1)).mono ?_; rintro e w4 ⟨r4, rfl, o4, b4⟩; obtain ⟨a4, q4, er⟩ := (row_of_owns o4).form; subst er; have c40 : w4.cell? ⟨wr.heap.size, 0, none⟩ = some (.int .i64 3) := (by rw [bk_cell ((b4.block wr.heap.size (Array.getElem?_eq_some_iff.1 H3.out.2.2.1).1).trans H3.out.2.2.1)]; rfl); have c43 : w4.cell? ⟨wr.heap.size, 3, none⟩ = some (.func (.func 75) #[] #[.pointer (some ⟨b, 0, none⟩)]) := (by rw [bk_cell ((b4.block wr.heap.size (Array.getElem?_eq_some_iff.1 H3.out.2.2.1).1).trans H3.out.2.2.1)]; rfl); have H4 : Hid _ := And.intro b4 (And.intro (row_of_owns o4) (fun (hx : (putv p.a1) ≠ []) k (e : Value.ownBlock _ = some k) => (o4.lt k e).1)); clear o4 b4 kb kg tok2)
        | (go_at_call 29; have al4 : Below w4.heap.size w4 (w4.alloc (.cells #[.slice a4 (putv p.a1).length q4] 22)) := (Below.refl _ _).alloc (Nat.le_refl _) _; have B34 : Below w3.heap.size w3 (w4.alloc (.cells #[.slice a4 (putv p.a1).length q4] 22)) := H4.out.1.trans (al4.mono H4.out.1.size); refine (putC1 w2.heap.size r3 (.slice a4 (putv p.a1).length q4) (parA p s 3 ++ putv 3) (putv p.a1) w4.heap.size (w4.alloc (.cells #[.slice a4 (putv p.a1).length q4] 22)) (H0.out.2.2.2.2.2.2.2.2 _ ((H2.out.2.1.trans (H3.out.2.2.2.mono H2.out.2.1.size)).trans (B34.mono (Nat.le_trans H2.out.2.1.size H3.out.2.2.2.size)))) (owns_below H3.out.1 B34) (H4.out.2.1.below al4) (fun hx k h h2 => by have := H4.out.2.2 hx k h; have := (H3.out.1.lt k h2).2; omega) (Nat.le_trans H3.out.2.2.2.size B34.size) (by have := H0.out.2.2.2.2.2.2.1 3 (by decide); have := putv_le 3 (by decide) (by decide); rw [List.length_append]; omega) (by have := putv_le p.a1 (by have := HQ.out.2.1; omega) (by have := HQ.out.2.1; omega); omega) (laid1 _ _ _)).mono ?_; rintro e w5 ⟨r5, rfl, o5, G5⟩; have k5 := (G5.chg.block wr.heap.size (Nat.lt_of_lt_of_le (Array.getElem?_eq_some_iff.1 H3.out.2.2.1).1 B34.size) (fun e => (H3.out.2.1.loc _ e).elim (fun q => by have := (HK.out.1.own.lt _ q).2; omega) (fun q => by have := (Array.getElem?_eq_some_iff.1 HV.out.2.2.2.1).1; omega))).trans ((B34.block wr.heap.size (Array.getElem?_eq_some_iff.1 H3.out.2.2.1).1).trans H3.out.2.2.1); have c50 : w5.cell? ⟨wr.heap.size, 0, none⟩ = some (.int .i64 3) := (by rw [bk_cell k5]; rfl); have c53 : w5.cell? ⟨wr.heap.size, 3, none⟩ = some (.func (.func 75) #[] #[.pointer (some ⟨b, 0, none⟩)]) := (by rw [bk_cell k5]; rfl); clear k5; have H5 : Hid _ := And.intro o5 (And.intro G5 B34); clear o5 G5 al4 B34))
      all_goals
        have K1 : Hid (OutK w2 w5 r5 p s 4) := HK.out.1.told (k := 3) (num := 3) (ys := putv p.a1) (by decide) HV.out.2.2.1 H3.out.2.1 H5.out.2.2 H5.out.2.1 H5.out.1 (rfl)
        go_wp2_with fail
        go_roundg (13 - (3 + 1))
        case measure => omega
        case rel => exact ⟨4, by omega, rfl, by go_num, K1.out⟩
    · obtain ⟨cs, ⟨hz, hc⟩, hE⟩ := H2.out.1.e4
      obtain ⟨b, rfl, g0, u0, m0, g1, u1, m1, g2, u2, m2⟩ := hE
      have h0 := (HK.out.1.bel.cell (p := ⟨b, 0, none⟩) m0).trans g0
      have l0 := Nat.lt_of_lt_of_le m0 HK.out.1.bel.size
      have h1 := (HK.out.1.bel.cell (p := ⟨b + 1, 0, none⟩) m1).trans g1
      have l1 := Nat.lt_of_lt_of_le m1 HK.out.1.bel.size
      have h2 := (HK.out.1.bel.cell (p := ⟨b + 2, 0, none⟩) m2).trans g2
      have l2 := Nat.lt_of_lt_of_le m2 HK.out.1.bel.size
      have ht : T < w2.heap.size := H2.out.1.lt.2
      have t0 : wr.cell? ⟨T, 20, none⟩ = some (.int .i64 4) := (HK.out.1.bel.cell (p := ⟨T, 20, none⟩) ht).trans (hc 0 (by decide))
      have t1 : wr.cell? ⟨T, 21, none⟩ = some (.func (.func 73) #[] #[.pointer (some ⟨b, 0, none⟩), .pointer (some ⟨(b + 1), 0, none⟩), .pointer (some ⟨(b + 2), 0, none⟩)]) := (HK.out.1.bel.cell (p := ⟨T, 21, none⟩) ht).trans (hc 1 (by decide))
      have t2 : wr.cell? ⟨T, 22, none⟩ = some (.func (.func 74) #[] #[]) := (HK.out.1.bel.cell (p := ⟨T, 22, none⟩) ht).trans (hc 2 (by decide))
      have t3 : wr.cell? ⟨T, 23, none⟩ = some (.func (.func 75) #[] #[.pointer (some ⟨b, 0, none⟩)]) := (HK.out.1.bel.cell (p := ⟨T, 23, none⟩) ht).trans (hc 3 (by decide))
      have t4 : wr.cell? ⟨T, 24, none⟩ = some (.func (.func 76) #[] #[.pointer (some ⟨b, 0, none⟩)]) := (HK.out.1.bel.cell (p := ⟨T, 24, none⟩) ht).trans (hc 4 (by decide))
      have cx : wr.cell? ⟨w.heap.size, 2, none⟩ = some (.int .i64 p.a2) := by rw [bk_cell HK.out.2.2]; rfl
      have lx : w.heap.size < wr.heap.size := (Array.getElem?_eq_some_iff.1 HK.out.2.2).1
      have B1 : ∀ o, Below wr.heap.size wr (wr.alloc o) := fun o => (Below.refl _ _).alloc (Nat.le_refl _) o
      have CT := alwaysC (wr.alloc (.cells #[.int .i64 4, .func (.func 73) #[] #[.pointer (some ⟨b, 0, none⟩), .pointer (some ⟨(b + 1), 0, none⟩), .pointer (some ⟨(b + 2), 0, none⟩)], .func (.func 74) #[] #[], .func (.func 75) #[] #[.pointer (some ⟨b, 0, none⟩)], .func (.func 76) #[] #[.pointer (some ⟨b, 0, none⟩)]] 78))
      have BA : Below wr.heap.size wr ((wr.alloc (.cells #[.int .i64 4, .func (.func 73) #[] #[.pointer (some ⟨b, 0, none⟩), .pointer (some ⟨(b + 1), 0, none⟩), .pointer (some ⟨(b + 2), 0, none⟩)], .func (.func 74) #[] #[], .func (.func 75) #[] #[.pointer (some ⟨b, 0, none⟩)], .func (.func 76) #[] #[.pointer (some ⟨b, 0, none⟩)]] 78)).drew.alloc (.cells #[.int .i64 4] 3)) := (below_drewN (B1 _) 1).alloc (by show wr.heap.size ≤ (wr.alloc _).heap.size; simp) _
      have C3 := putN1 w2.heap.size u6 (parA p s 4) 4 (wr.heap.size + 1) ((wr.alloc (.cells #[.int .i64 4, .func (.func 73) #[] #[.pointer (some ⟨b, 0, none⟩), .pointer (some ⟨(b + 1), 0, none⟩), .pointer (some ⟨(b + 2), 0, none⟩)], .func (.func 74) #[] #[], .func (.func 75) #[] #[.pointer (some ⟨b, 0, none⟩)], .func (.func 76) #[] #[.pointer (some ⟨b, 0, none⟩)]] 78)).drew.alloc (.cells #[.int .i64 4] 3)) (H0.out.2.2.2.2.2.2.2.2 _ (HK.out.2.1.trans (BA.mono HK.out.2.1.size))) (owns_below HK.out.1.own BA) (Nat.le_trans HK.out.1.bel.size BA.size) (by have := H0.out.2.2.2.2.2.2.1 4 (by decide); omega) (by decide) (by decide) (cell_new (t := 3) (newAt1 _ _ _ (by show (wr.alloc _).heap.size = _; simp)))
      have gB : ((wr.alloc (.cells #[.int .i64 4, .func (.func 73) #[] #[.pointer (some ⟨b, 0, none⟩), .pointer (some ⟨(b + 1), 0, none⟩), .pointer (some ⟨(b + 2), 0, none⟩)], .func (.func 74) #[] #[], .func (.func 75) #[] #[.pointer (some ⟨b, 0, none⟩)], .func (.func 76) #[] #[.pointer (some ⟨b, 0, none⟩)]] 78)).drew.alloc (.cells #[.int .i64 4] 3)).heap[wr.heap.size]? = some (.cells #[.int .i64 4, .func (.func 73) #[] #[.pointer (some ⟨b, 0, none⟩), .pointer (some ⟨(b + 1), 0, none⟩), .pointer (some ⟨(b + 2), 0, none⟩)], .func (.func 74) #[] #[], .func (.func 75) #[] #[.pointer (some ⟨b, 0, none⟩)], .func (.func 76) #[] #[.pointer (some ⟨b, 0, none⟩)]] 78) := (Below.heap_alloc _ _ _ (by show wr.heap.size < (wr.alloc _).heap.size; simp)).trans (heap_alloc_new wr (.cells #[.int .i64 4, .func (.func 73) #[] #[.pointer (some ⟨b, 0, none⟩), .pointer (some ⟨(b + 1), 0, none⟩), .pointer (some ⟨(b + 2), 0, none⟩)], .func (.func 74) #[] #[], .func (.func 75) #[] #[.pointer (some ⟨b, 0, none⟩)], .func (.func 76) #[] #[.pointer (some ⟨b, 0, none⟩)]] 78))
      have HV : Hid _ := And.intro CT (And.intro C3 (And.intro BA (And.intro gB (And.intro h0 (And.intro l0 (And.intro m0 (And.intro cx lx)))))))
      clear CT C3 BA gB hc hz B1 cx h0 u0 l0 g0 m0 h1 u1 l1 g1 m1 h2 u2 l2 g2 m2
      go_wp2_with (go_at_call 74; refine HV.out.1.mono ?_; rintro e w3 ⟨rfl, hw⟩; subst w3)
      have tok1 : True := trivial
      have tok2 : True := trivial
      have cA0 : (wr.alloc (.cells #[.int .i64 4, .func (.func 73) #[] #[.pointer (some ⟨b, 0, none⟩), .pointer (some ⟨(b + 1), 0, none⟩), .pointer (some ⟨(b + 2), 0, none⟩)], .func (.func 74) #[] #[], .func (.func 75) #[] #[.pointer (some ⟨b, 0, none⟩)], .func (.func 76) #[] #[.pointer (some ⟨b, 0, none⟩)]] 78)).cell? ⟨wr.heap.size, 0, none⟩ = some (.int .i64 4) := by rw [bk_cell (heap_alloc_new wr (.cells #[.int .i64 4, .func (.func 73) #[] #[.pointer (some ⟨b, 0, none⟩), .pointer (some ⟨(b + 1), 0, none⟩), .pointer (some ⟨(b + 2), 0, none⟩)], .func (.func 74) #[] #[], .func (.func 75) #[] #[.pointer (some ⟨b, 0, none⟩)], .func (.func 76) #[] #[.pointer (some ⟨b, 0, none⟩)]] 78))]; rfl
      have cA3 : (wr.alloc (.cells #[.int .i64 4, .func (.func 73) #[] #[.pointer (some ⟨b, 0, none⟩), .pointer (some ⟨(b + 1), 0, none⟩), .pointer (some ⟨(b + 2), 0, none⟩)], .func (.func 74) #[] #[], .func (.func 75) #[] #[.pointer (some ⟨b, 0, none⟩)], .func (.func 76) #[] #[.pointer (some ⟨b, 0, none⟩)]] 78)).cell? ⟨wr.heap.size, 3, none⟩ = some (.func (.func 75) #[] #[.pointer (some ⟨b, 0, none⟩)]) := by rw [bk_cell (heap_alloc_new wr (.cells #[.int .i64 4, .func (.func 73) #[] #[.pointer (some ⟨b, 0, none⟩), .pointer (some ⟨(b + 1), 0, none⟩), .pointer (some ⟨(b + 2), 0, none⟩)], .func (.func 74) #[] #[], .func (.func 75) #[] #[.pointer (some ⟨b, 0, none⟩)], .func (.func 76) #[] #[.pointer (some ⟨b, 0, none⟩)]] 78))]; rfl
      go_upto_region 8 with fail
      go_region_held3 (fun w' => w'.cell? ⟨wr.heap.size, 0, none⟩ = some (.int .i64 4) ∧ w'.cell? ⟨wr.heap.size, 3, none⟩ = some (.func (.func 75) #[] #[.pointer (some ⟨b, 0, none⟩)])) (go_keep)
        (first
        | (go_at_call 50; have _t := tok1; refine HV.out.2.1.mono ?_; rintro e w3 ⟨r3, rfl, o3, G3⟩; have k3 := G3.chg.block wr.heap.size (Array.getElem?_eq_some_iff.1 HV.out.2.2.2.1).1 (fun e => by have := (HK.out.1.own.lt _ e).2; omega); have c30 : w3.cell? ⟨wr.heap.size, 0, none⟩ = some (.int .i64 4) := (by rw [bk_cell (k3.trans HV.out.2.2.2.1)]; rfl); have c33 : w3.cell? ⟨wr.heap.size, 3, none⟩ = some (.func (.func 75) #[] #[.pointer (some ⟨b, 0, none⟩)]) := (by rw [bk_cell (k3.trans HV.out.2.2.2.1)]; rfl); have H3 : Hid _ := And.intro o3 (And.intro G3 (And.intro (k3.trans HV.out.2.2.2.1) ((HK.out.1.bel.trans (HV.out.2.2.1.mono HK.out.1.bel.size)).trans (G3.below (owns_below HK.out.1.own HV.out.2.2.1) (Nat.le_trans HK.out.1.bel.size HV.out.2.2.1.size))))); clear o3 G3 k3 tok1)
        | (go_at_call 75; have _t := tok2; have kb : w3.cell? ⟨b, 0, none⟩ = wr.cell? ⟨b, 0, none⟩ := keep_cell H3.out.2.1 HV.out.2.2.1 HK.out.1.own HV.out.2.2.2.2.2.2.1 HV.out.2.2.2.2.2.1; have kg : w3.cell? ⟨w.heap.size, 2, none⟩ = wr.cell? ⟨w.heap.size, 2, none⟩ := keep_cell H3.out.2.1 HV.out.2.2.1 HK.out.1.own (by omega) lx; refine (numVal b w.heap.size 2 p.a2 w3 (H0.out.2.2.2.2.2.2.2.2 _ (H2.out.2.1.trans (H3.out.2.2.2.mono H2.out.2.1.size))) (by have := HQ.out.2.2.1; omega) (by have := HQ.out.2.2.1; omega) (kb.trans HV.out.2.2.2.2.1) (kg.trans HV.out.2.2.2.2.2.2.2.1)).mono ?_; rintro e w4 ⟨r4, rfl, o4, b4⟩; obtain ⟨a4, q4, er⟩ := (row_of_owns o4).form; subst er; have c40 : w4.cell? ⟨wr.heap.size, 0, none⟩ = some (.int .i64 4) := (by rw [bk_cell ((b4.block wr.heap.size (Array.getElem?_eq_some_iff.1 H3.out.2.2.1).1).trans H3.out.2.2.1)]; rfl); have c43 : w4.cell? ⟨wr.heap.size, 3, none⟩ = some (.func (.func 75) #[] #[.pointer (some ⟨b, 0, none⟩)]) := (by rw [bk_cell ((b4.block wr.heap.size (Array.getElem?_eq_some_iff.1 H3.out.2.2.1).1).trans H3.out.2.2.1)]; rfl); have H4 : Hid _ := And.intro b4 (And.intro (row_of_owns o4) (fun (hx : (putv p.a2) ≠ []) k (e : Value.ownBlock _ = some k) => (o4.lt k e).1)); clear o4 b4 kb kg tok2)
        | (go_at_call 29; have al4 : Below w4.heap.size w4 (w4.alloc (.cells #[.slice a4 (putv p.a2).length q4] 22)) := (Below.refl _ _).alloc (Nat.le_refl _) _; have B34 : Below w3.heap.size w3 (w4.alloc (.cells #[.slice a4 (putv p.a2).length q4] 22)) := H4.out.1.trans (al4.mono H4.out.1.size); refine (putC1 w2.heap.size r3 (.slice a4 (putv p.a2).length q4) (parA p s 4 ++ putv 4) (putv p.a2) w4.heap.size (w4.alloc (.cells #[.slice a4 (putv p.a2).length q4] 22)) (H0.out.2.2.2.2.2.2.2.2 _ ((H2.out.2.1.trans (H3.out.2.2.2.mono H2.out.2.1.size)).trans (B34.mono (Nat.le_trans H2.out.2.1.size H3.out.2.2.2.size)))) (owns_below H3.out.1 B34) (H4.out.2.1.below al4) (fun hx k h h2 => by have := H4.out.2.2 hx k h; have := (H3.out.1.lt k h2).2; omega) (Nat.le_trans H3.out.2.2.2.size B34.size) (by have := H0.out.2.2.2.2.2.2.1 4 (by decide); have := putv_le 4 (by decide) (by decide); rw [List.length_append]; omega) (by have := putv_le p.a2 (by have := HQ.out.2.2.1; omega) (by have := HQ.out.2.2.1; omega); omega) (laid1 _ _ _)).mono ?_; rintro e w5 ⟨r5, rfl, o5, G5⟩; have k5 := (G5.chg.block wr.heap.size (Nat.lt_of_lt_of_le (Array.getElem?_eq_some_iff.1 H3.out.2.2.1).1 B34.size) (fun e => (H3.out.2.1.loc _ e).elim (fun q => by have := (HK.out.1.own.lt _ q).2; omega) (fun q => by have := (Array.getElem?_eq_some_iff.1 HV.out.2.2.2.1).1; omega))).trans ((B34.block wr.heap.size (Array.getElem?_eq_some_iff.1 H3.out.2.2.1).1).trans H3.out.2.2.1); have c50 : w5.cell? ⟨wr.heap.size, 0, none⟩ = some (.int .i64 4) := (by rw [bk_cell k5]; rfl); have c53 : w5.cell? ⟨wr.heap.size, 3, none⟩ = some (.func (.func 75) #[] #[.pointer (some ⟨b, 0, none⟩)]) := (by rw [bk_cell k5]; rfl); clear k5; have H5 : Hid _ := And.intro o5 (And.intro G5 B34); clear o5 G5 al4 B34))
      all_goals
        have K1 : Hid (OutK w2 w5 r5 p s 5) := HK.out.1.told (k := 4) (num := 4) (ys := putv p.a2) (by decide) HV.out.2.2.1 H3.out.2.1 H5.out.2.2 H5.out.2.1 H5.out.1 (rfl)
        go_wp2_with fail
        go_roundg (13 - (4 + 1))
        case measure => omega
        case rel => exact ⟨5, by omega, rfl, by go_num, K1.out⟩
    · obtain ⟨cs, ⟨hz, hc⟩, hE⟩ := H2.out.1.e5
      obtain ⟨b, rfl, g0, u0, m0, g1, u1, m1, g2, u2, m2⟩ := hE
      have h0 := (HK.out.1.bel.cell (p := ⟨b, 0, none⟩) m0).trans g0
      have l0 := Nat.lt_of_lt_of_le m0 HK.out.1.bel.size
      have h1 := (HK.out.1.bel.cell (p := ⟨b + 1, 0, none⟩) m1).trans g1
      have l1 := Nat.lt_of_lt_of_le m1 HK.out.1.bel.size
      have h2 := (HK.out.1.bel.cell (p := ⟨b + 2, 0, none⟩) m2).trans g2
      have l2 := Nat.lt_of_lt_of_le m2 HK.out.1.bel.size
      have ht : T < w2.heap.size := H2.out.1.lt.2
      have t0 : wr.cell? ⟨T, 25, none⟩ = some (.int .i64 5) := (HK.out.1.bel.cell (p := ⟨T, 25, none⟩) ht).trans (hc 0 (by decide))
      have t1 : wr.cell? ⟨T, 26, none⟩ = some (.func (.func 73) #[] #[.pointer (some ⟨b, 0, none⟩), .pointer (some ⟨(b + 1), 0, none⟩), .pointer (some ⟨(b + 2), 0, none⟩)]) := (HK.out.1.bel.cell (p := ⟨T, 26, none⟩) ht).trans (hc 1 (by decide))
      have t2 : wr.cell? ⟨T, 27, none⟩ = some (.func (.func 74) #[] #[]) := (HK.out.1.bel.cell (p := ⟨T, 27, none⟩) ht).trans (hc 2 (by decide))
      have t3 : wr.cell? ⟨T, 28, none⟩ = some (.func (.func 75) #[] #[.pointer (some ⟨b, 0, none⟩)]) := (HK.out.1.bel.cell (p := ⟨T, 28, none⟩) ht).trans (hc 3 (by decide))
      have t4 : wr.cell? ⟨T, 29, none⟩ = some (.func (.func 76) #[] #[.pointer (some ⟨b, 0, none⟩)]) := (HK.out.1.bel.cell (p := ⟨T, 29, none⟩) ht).trans (hc 4 (by decide))
      have cx : wr.cell? ⟨w.heap.size, 3, none⟩ = some (.int .i64 p.a3) := by rw [bk_cell HK.out.2.2]; rfl
      have lx : w.heap.size < wr.heap.size := (Array.getElem?_eq_some_iff.1 HK.out.2.2).1
      have B1 : ∀ o, Below wr.heap.size wr (wr.alloc o) := fun o => (Below.refl _ _).alloc (Nat.le_refl _) o
      have CT := alwaysC (wr.alloc (.cells #[.int .i64 5, .func (.func 73) #[] #[.pointer (some ⟨b, 0, none⟩), .pointer (some ⟨(b + 1), 0, none⟩), .pointer (some ⟨(b + 2), 0, none⟩)], .func (.func 74) #[] #[], .func (.func 75) #[] #[.pointer (some ⟨b, 0, none⟩)], .func (.func 76) #[] #[.pointer (some ⟨b, 0, none⟩)]] 78))
      have BA : Below wr.heap.size wr ((wr.alloc (.cells #[.int .i64 5, .func (.func 73) #[] #[.pointer (some ⟨b, 0, none⟩), .pointer (some ⟨(b + 1), 0, none⟩), .pointer (some ⟨(b + 2), 0, none⟩)], .func (.func 74) #[] #[], .func (.func 75) #[] #[.pointer (some ⟨b, 0, none⟩)], .func (.func 76) #[] #[.pointer (some ⟨b, 0, none⟩)]] 78)).drew.alloc (.cells #[.int .i64 5] 3)) := (below_drewN (B1 _) 1).alloc (by show wr.heap.size ≤ (wr.alloc _).heap.size; simp) _
      have C3 := putN1 w2.heap.size u6 (parA p s 5) 5 (wr.heap.size + 1) ((wr.alloc (.cells #[.int .i64 5, .func (.func 73) #[] #[.pointer (some ⟨b, 0, none⟩), .pointer (some ⟨(b + 1), 0, none⟩), .pointer (some ⟨(b + 2), 0, none⟩)], .func (.func 74) #[] #[], .func (.func 75) #[] #[.pointer (some ⟨b, 0, none⟩)], .func (.func 76) #[] #[.pointer (some ⟨b, 0, none⟩)]] 78)).drew.alloc (.cells #[.int .i64 5] 3)) (H0.out.2.2.2.2.2.2.2.2 _ (HK.out.2.1.trans (BA.mono HK.out.2.1.size))) (owns_below HK.out.1.own BA) (Nat.le_trans HK.out.1.bel.size BA.size) (by have := H0.out.2.2.2.2.2.2.1 5 (by decide); omega) (by decide) (by decide) (cell_new (t := 3) (newAt1 _ _ _ (by show (wr.alloc _).heap.size = _; simp)))
      have gB : ((wr.alloc (.cells #[.int .i64 5, .func (.func 73) #[] #[.pointer (some ⟨b, 0, none⟩), .pointer (some ⟨(b + 1), 0, none⟩), .pointer (some ⟨(b + 2), 0, none⟩)], .func (.func 74) #[] #[], .func (.func 75) #[] #[.pointer (some ⟨b, 0, none⟩)], .func (.func 76) #[] #[.pointer (some ⟨b, 0, none⟩)]] 78)).drew.alloc (.cells #[.int .i64 5] 3)).heap[wr.heap.size]? = some (.cells #[.int .i64 5, .func (.func 73) #[] #[.pointer (some ⟨b, 0, none⟩), .pointer (some ⟨(b + 1), 0, none⟩), .pointer (some ⟨(b + 2), 0, none⟩)], .func (.func 74) #[] #[], .func (.func 75) #[] #[.pointer (some ⟨b, 0, none⟩)], .func (.func 76) #[] #[.pointer (some ⟨b, 0, none⟩)]] 78) := (Below.heap_alloc _ _ _ (by show wr.heap.size < (wr.alloc _).heap.size; simp)).trans (heap_alloc_new wr (.cells #[.int .i64 5, .func (.func 73) #[] #[.pointer (some ⟨b, 0, none⟩), .pointer (some ⟨(b + 1), 0, none⟩), .pointer (some ⟨(b + 2), 0, none⟩)], .func (.func 74) #[] #[], .func (.func 75) #[] #[.pointer (some ⟨b, 0, none⟩)], .func (.func 76) #[] #[.pointer (some ⟨b, 0, none⟩)]] 78))
      have HV : Hid _ := And.intro CT (And.intro C3 (And.intro BA (And.intro gB (And.intro h0 (And.intro l0 (And.intro m0 (And.intro cx lx)))))))
      clear CT C3 BA gB hc hz B1 cx h0 u0 l0 g0 m0 h1 u1 l1 g1 m1 h2 u2 l2 g2 m2
      go_wp2_with (go_at_call 74; refine HV.out.1.mono ?_; rintro e w3 ⟨rfl, hw⟩; subst w3)
      have tok1 : True := trivial
      have tok2 : True := trivial
      have cA0 : (wr.alloc (.cells #[.int .i64 5, .func (.func 73) #[] #[.pointer (some ⟨b, 0, none⟩), .pointer (some ⟨(b + 1), 0, none⟩), .pointer (some ⟨(b + 2), 0, none⟩)], .func (.func 74) #[] #[], .func (.func 75) #[] #[.pointer (some ⟨b, 0, none⟩)], .func (.func 76) #[] #[.pointer (some ⟨b, 0, none⟩)]] 78)).cell? ⟨wr.heap.size, 0, none⟩ = some (.int .i64 5) := by rw [bk_cell (heap_alloc_new wr (.cells #[.int .i64 5, .func (.func 73) #[] #[.pointer (some ⟨b, 0, none⟩), .pointer (some ⟨(b + 1), 0, none⟩), .pointer (some ⟨(b + 2), 0, none⟩)], .func (.func 74) #[] #[], .func (.func 75) #[] #[.pointer (some ⟨b, 0, none⟩)], .func (.func 76) #[] #[.pointer (some ⟨b, 0, none⟩)]] 78))]; rfl
      have cA3 : (wr.alloc (.cells #[.int .i64 5, .func (.func 73) #[] #[.pointer (some ⟨b, 0, none⟩), .pointer (some ⟨(b + 1), 0, none⟩), .pointer (some ⟨(b + 2), 0, none⟩)], .func (.func 74) #[] #[], .func (.func 75) #[] #[.pointer (some ⟨b, 0, none⟩)], .func (.func 76) #[] #[.pointer (some ⟨b, 0, none⟩)]] 78)).cell? ⟨wr.heap.size, 3, none⟩ = some (.func (.func 75) #[] #[.pointer (some ⟨b, 0, none⟩)]) := by rw [bk_cell (heap_alloc_new wr (.cells #[.int .i64 5, .func (.func 73) #[] #[.pointer (some ⟨b, 0, none⟩), .pointer (some ⟨(b + 1), 0, none⟩), .pointer (some ⟨(b + 2), 0, none⟩)], .func (.func 74) #[] #[], .func (.func 75) #[] #[.pointer (some ⟨b, 0, none⟩)], .func (.func 76) #[] #[.pointer (some ⟨b, 0, none⟩)]] 78))]; rfl
      go_upto_region 8 with fail
      go_region_held3 (fun w' => w'.cell? ⟨wr.heap.size, 0, none⟩ = some (.int .i64 5) ∧ w'.cell? ⟨wr.heap.size, 3, none⟩ = some (.func (.func 75) #[] #[.pointer (some ⟨b, 0, none⟩)])) (go_keep)
        (first
        | (go_at_call 50; have _t := tok1; refine HV.out.2.1.mono ?_; rintro e w3 ⟨r3, rfl, o3, G3⟩; have k3 := G3.chg.block wr.heap.size (Array.getElem?_eq_some_iff.1 HV.out.2.2.2.1).1 (fun e => by have := (HK.out.1.own.lt _ e).2; omega); have c30 : w3.cell? ⟨wr.heap.size, 0, none⟩ = some (.int .i64 5) := (by rw [bk_cell (k3.trans HV.out.2.2.2.1)]; rfl); have c33 : w3.cell? ⟨wr.heap.size, 3, none⟩ = some (.func (.func 75) #[] #[.pointer (some ⟨b, 0, none⟩)]) := (by rw [bk_cell (k3.trans HV.out.2.2.2.1)]; rfl); have H3 : Hid _ := And.intro o3 (And.intro G3 (And.intro (k3.trans HV.out.2.2.2.1) ((HK.out.1.bel.trans (HV.out.2.2.1.mono HK.out.1.bel.size)).trans (G3.below (owns_below HK.out.1.own HV.out.2.2.1) (Nat.le_trans HK.out.1.bel.size HV.out.2.2.1.size))))); clear o3 G3 k3 tok1)
        | (go_at_call 75; have _t := tok2; have kb : w3.cell? ⟨b, 0, none⟩ = wr.cell? ⟨b, 0, none⟩ := keep_cell H3.out.2.1 HV.out.2.2.1 HK.out.1.own HV.out.2.2.2.2.2.2.1 HV.out.2.2.2.2.2.1; have kg : w3.cell? ⟨w.heap.size, 3, none⟩ = wr.cell? ⟨w.heap.size, 3, none⟩ := keep_cell H3.out.2.1 HV.out.2.2.1 HK.out.1.own (by omega) lx; refine (numVal b w.heap.size 3 p.a3 w3 (H0.out.2.2.2.2.2.2.2.2 _ (H2.out.2.1.trans (H3.out.2.2.2.mono H2.out.2.1.size))) (by have := HQ.out.2.2.2.1; omega) (by have := HQ.out.2.2.2.1; omega) (kb.trans HV.out.2.2.2.2.1) (kg.trans HV.out.2.2.2.2.2.2.2.1)).mono ?_; rintro e w4 ⟨r4, rfl, o4, b4⟩; obtain ⟨a4, q4, er⟩ := (row_of_owns o4).form; subst er; have c40 : w4.cell? ⟨wr.heap.size, 0, none⟩ = some (.int .i64 5) := (by rw [bk_cell ((b4.block wr.heap.size (Array.getElem?_eq_some_iff.1 H3.out.2.2.1).1).trans H3.out.2.2.1)]; rfl); have c43 : w4.cell? ⟨wr.heap.size, 3, none⟩ = some (.func (.func 75) #[] #[.pointer (some ⟨b, 0, none⟩)]) := (by rw [bk_cell ((b4.block wr.heap.size (Array.getElem?_eq_some_iff.1 H3.out.2.2.1).1).trans H3.out.2.2.1)]; rfl); have H4 : Hid _ := And.intro b4 (And.intro (row_of_owns o4) (fun (hx : (putv p.a3) ≠ []) k (e : Value.ownBlock _ = some k) => (o4.lt k e).1)); clear o4 b4 kb kg tok2)
        | (go_at_call 29; have al4 : Below w4.heap.size w4 (w4.alloc (.cells #[.slice a4 (putv p.a3).length q4] 22)) := (Below.refl _ _).alloc (Nat.le_refl _) _; have B34 : Below w3.heap.size w3 (w4.alloc (.cells #[.slice a4 (putv p.a3).length q4] 22)) := H4.out.1.trans (al4.mono H4.out.1.size); refine (putC1 w2.heap.size r3 (.slice a4 (putv p.a3).length q4) (parA p s 5 ++ putv 5) (putv p.a3) w4.heap.size (w4.alloc (.cells #[.slice a4 (putv p.a3).length q4] 22)) (H0.out.2.2.2.2.2.2.2.2 _ ((H2.out.2.1.trans (H3.out.2.2.2.mono H2.out.2.1.size)).trans (B34.mono (Nat.le_trans H2.out.2.1.size H3.out.2.2.2.size)))) (owns_below H3.out.1 B34) (H4.out.2.1.below al4) (fun hx k h h2 => by have := H4.out.2.2 hx k h; have := (H3.out.1.lt k h2).2; omega) (Nat.le_trans H3.out.2.2.2.size B34.size) (by have := H0.out.2.2.2.2.2.2.1 5 (by decide); have := putv_le 5 (by decide) (by decide); rw [List.length_append]; omega) (by have := putv_le p.a3 (by have := HQ.out.2.2.2.1; omega) (by have := HQ.out.2.2.2.1; omega); omega) (laid1 _ _ _)).mono ?_; rintro e w5 ⟨r5, rfl, o5, G5⟩; have k5 := (G5.chg.block wr.heap.size (Nat.lt_of_lt_of_le (Array.getElem?_eq_some_iff.1 H3.out.2.2.1).1 B34.size) (fun e => (H3.out.2.1.loc _ e).elim (fun q => by have := (HK.out.1.own.lt _ q).2; omega) (fun q => by have := (Array.getElem?_eq_some_iff.1 HV.out.2.2.2.1).1; omega))).trans ((B34.block wr.heap.size (Array.getElem?_eq_some_iff.1 H3.out.2.2.1).1).trans H3.out.2.2.1); have c50 : w5.cell? ⟨wr.heap.size, 0, none⟩ = some (.int .i64 5) := (by rw [bk_cell k5]; rfl); have c53 : w5.cell? ⟨wr.heap.size, 3, none⟩ = some (.func (.func 75) #[] #[.pointer (some ⟨b, 0, none⟩)]) := (by rw [bk_cell k5]; rfl); clear k5; have H5 : Hid _ := And.intro o5 (And.intro G5 B34); clear o5 G5 al4 B34))
      all_goals
        have K1 : Hid (OutK w2 w5 r5 p s 6) := HK.out.1.told (k := 5) (num := 5) (ys := putv p.a3) (by decide) HV.out.2.2.1 H3.out.2.1 H5.out.2.2 H5.out.2.1 H5.out.1 (rfl)
        go_wp2_with fail
        go_roundg (13 - (5 + 1))
        case measure => omega
        case rel => exact ⟨6, by omega, rfl, by go_num, K1.out⟩
    · obtain ⟨cs, ⟨hz, hc⟩, hE⟩ := H2.out.1.e6
      obtain ⟨b, rfl, g0, u0, m0, g1, u1, m1, g2, u2, m2⟩ := hE
      have h0 := (HK.out.1.bel.cell (p := ⟨b, 0, none⟩) m0).trans g0
      have l0 := Nat.lt_of_lt_of_le m0 HK.out.1.bel.size
      have h1 := (HK.out.1.bel.cell (p := ⟨b + 1, 0, none⟩) m1).trans g1
      have l1 := Nat.lt_of_lt_of_le m1 HK.out.1.bel.size
      have h2 := (HK.out.1.bel.cell (p := ⟨b + 2, 0, none⟩) m2).trans g2
      have l2 := Nat.lt_of_lt_of_le m2 HK.out.1.bel.size
      have ht : T < w2.heap.size := H2.out.1.lt.2
      have t0 : wr.cell? ⟨T, 30, none⟩ = some (.int .i64 8) := (HK.out.1.bel.cell (p := ⟨T, 30, none⟩) ht).trans (hc 0 (by decide))
      have t1 : wr.cell? ⟨T, 31, none⟩ = some (.func (.func 73) #[] #[.pointer (some ⟨b, 0, none⟩), .pointer (some ⟨(b + 1), 0, none⟩), .pointer (some ⟨(b + 2), 0, none⟩)]) := (HK.out.1.bel.cell (p := ⟨T, 31, none⟩) ht).trans (hc 1 (by decide))
      have t2 : wr.cell? ⟨T, 32, none⟩ = some (.func (.func 74) #[] #[]) := (HK.out.1.bel.cell (p := ⟨T, 32, none⟩) ht).trans (hc 2 (by decide))
      have t3 : wr.cell? ⟨T, 33, none⟩ = some (.func (.func 75) #[] #[.pointer (some ⟨b, 0, none⟩)]) := (HK.out.1.bel.cell (p := ⟨T, 33, none⟩) ht).trans (hc 3 (by decide))
      have t4 : wr.cell? ⟨T, 34, none⟩ = some (.func (.func 76) #[] #[.pointer (some ⟨b, 0, none⟩)]) := (HK.out.1.bel.cell (p := ⟨T, 34, none⟩) ht).trans (hc 4 (by decide))
      have cx : wr.cell? ⟨w.heap.size, 4, none⟩ = some (.int .i64 p.a4) := by rw [bk_cell HK.out.2.2]; rfl
      have lx : w.heap.size < wr.heap.size := (Array.getElem?_eq_some_iff.1 HK.out.2.2).1
      have B1 : ∀ o, Below wr.heap.size wr (wr.alloc o) := fun o => (Below.refl _ _).alloc (Nat.le_refl _) o
      have CT := alwaysC (wr.alloc (.cells #[.int .i64 8, .func (.func 73) #[] #[.pointer (some ⟨b, 0, none⟩), .pointer (some ⟨(b + 1), 0, none⟩), .pointer (some ⟨(b + 2), 0, none⟩)], .func (.func 74) #[] #[], .func (.func 75) #[] #[.pointer (some ⟨b, 0, none⟩)], .func (.func 76) #[] #[.pointer (some ⟨b, 0, none⟩)]] 78))
      have BA : Below wr.heap.size wr ((wr.alloc (.cells #[.int .i64 8, .func (.func 73) #[] #[.pointer (some ⟨b, 0, none⟩), .pointer (some ⟨(b + 1), 0, none⟩), .pointer (some ⟨(b + 2), 0, none⟩)], .func (.func 74) #[] #[], .func (.func 75) #[] #[.pointer (some ⟨b, 0, none⟩)], .func (.func 76) #[] #[.pointer (some ⟨b, 0, none⟩)]] 78)).drew.alloc (.cells #[.int .i64 8] 3)) := (below_drewN (B1 _) 1).alloc (by show wr.heap.size ≤ (wr.alloc _).heap.size; simp) _
      have C3 := putN1 w2.heap.size u6 (parA p s 6) 8 (wr.heap.size + 1) ((wr.alloc (.cells #[.int .i64 8, .func (.func 73) #[] #[.pointer (some ⟨b, 0, none⟩), .pointer (some ⟨(b + 1), 0, none⟩), .pointer (some ⟨(b + 2), 0, none⟩)], .func (.func 74) #[] #[], .func (.func 75) #[] #[.pointer (some ⟨b, 0, none⟩)], .func (.func 76) #[] #[.pointer (some ⟨b, 0, none⟩)]] 78)).drew.alloc (.cells #[.int .i64 8] 3)) (H0.out.2.2.2.2.2.2.2.2 _ (HK.out.2.1.trans (BA.mono HK.out.2.1.size))) (owns_below HK.out.1.own BA) (Nat.le_trans HK.out.1.bel.size BA.size) (by have := H0.out.2.2.2.2.2.2.1 6 (by decide); omega) (by decide) (by decide) (cell_new (t := 3) (newAt1 _ _ _ (by show (wr.alloc _).heap.size = _; simp)))
      have gB : ((wr.alloc (.cells #[.int .i64 8, .func (.func 73) #[] #[.pointer (some ⟨b, 0, none⟩), .pointer (some ⟨(b + 1), 0, none⟩), .pointer (some ⟨(b + 2), 0, none⟩)], .func (.func 74) #[] #[], .func (.func 75) #[] #[.pointer (some ⟨b, 0, none⟩)], .func (.func 76) #[] #[.pointer (some ⟨b, 0, none⟩)]] 78)).drew.alloc (.cells #[.int .i64 8] 3)).heap[wr.heap.size]? = some (.cells #[.int .i64 8, .func (.func 73) #[] #[.pointer (some ⟨b, 0, none⟩), .pointer (some ⟨(b + 1), 0, none⟩), .pointer (some ⟨(b + 2), 0, none⟩)], .func (.func 74) #[] #[], .func (.func 75) #[] #[.pointer (some ⟨b, 0, none⟩)], .func (.func 76) #[] #[.pointer (some ⟨b, 0, none⟩)]] 78) := (Below.heap_alloc _ _ _ (by show wr.heap.size < (wr.alloc _).heap.size; simp)).trans (heap_alloc_new wr (.cells #[.int .i64 8, .func (.func 73) #[] #[.pointer (some ⟨b, 0, none⟩), .pointer (some ⟨(b + 1), 0, none⟩), .pointer (some ⟨(b + 2), 0, none⟩)], .func (.func 74) #[] #[], .func (.func 75) #[] #[.pointer (some ⟨b, 0, none⟩)], .func (.func 76) #[] #[.pointer (some ⟨b, 0, none⟩)]] 78))
      have HV : Hid _ := And.intro CT (And.intro C3 (And.intro BA (And.intro gB (And.intro h0 (And.intro l0 (And.intro m0 (And.intro cx lx)))))))
      clear CT C3 BA gB hc hz B1 cx h0 u0 l0 g0 m0 h1 u1 l1 g1 m1 h2 u2 l2 g2 m2
      go_wp2_with (go_at_call 74; refine HV.out.1.mono ?_; rintro e w3 ⟨rfl, hw⟩; subst w3)
      have tok1 : True := trivial
      have tok2 : True := trivial
      have cA0 : (wr.alloc (.cells #[.int .i64 8, .func (.func 73) #[] #[.pointer (some ⟨b, 0, none⟩), .pointer (some ⟨(b + 1), 0, none⟩), .pointer (some ⟨(b + 2), 0, none⟩)], .func (.func 74) #[] #[], .func (.func 75) #[] #[.pointer (some ⟨b, 0, none⟩)], .func (.func 76) #[] #[.pointer (some ⟨b, 0, none⟩)]] 78)).cell? ⟨wr.heap.size, 0, none⟩ = some (.int .i64 8) := by rw [bk_cell (heap_alloc_new wr (.cells #[.int .i64 8, .func (.func 73) #[] #[.pointer (some ⟨b, 0, none⟩), .pointer (some ⟨(b + 1), 0, none⟩), .pointer (some ⟨(b + 2), 0, none⟩)], .func (.func 74) #[] #[], .func (.func 75) #[] #[.pointer (some ⟨b, 0, none⟩)], .func (.func 76) #[] #[.pointer (some ⟨b, 0, none⟩)]] 78))]; rfl
      have cA3 : (wr.alloc (.cells #[.int .i64 8, .func (.func 73) #[] #[.pointer (some ⟨b, 0, none⟩), .pointer (some ⟨(b + 1), 0, none⟩), .pointer (some ⟨(b + 2), 0, none⟩)], .func (.func 74) #[] #[], .func (.func 75) #[] #[.pointer (some ⟨b, 0, none⟩)], .func (.func 76) #[] #[.pointer (some ⟨b, 0, none⟩)]] 78)).cell? ⟨wr.heap.size, 3, none⟩ = some (.func (.func 75) #[] #[.pointer (some ⟨b, 0, none⟩)]) := by rw [bk_cell (heap_alloc_new wr (.cells #[.int .i64 8, .func (.func 73) #[] #[.pointer (some ⟨b, 0, none⟩), .pointer (some ⟨(b + 1), 0, none⟩), .pointer (some ⟨(b + 2), 0, none⟩)], .func (.func 74) #[] #[], .func (.func 75) #[] #[.pointer (some ⟨b, 0, none⟩)], .func (.func 76) #[] #[.pointer (some ⟨b, 0, none⟩)]] 78))]; rfl
      go_upto_region 8 with fail
      go_region_held3 (fun w' => w'.cell? ⟨wr.heap.size, 0, none⟩ = some (.int .i64 8) ∧ w'.cell? ⟨wr.heap.size, 3, none⟩ = some (.func (.func 75) #[] #[.pointer (some ⟨b, 0, none⟩)])) (go_keep)
        (first
        | (go_at_call 50; have _t := tok1; refine HV.out.2.1.mono ?_; rintro e w3 ⟨r3, rfl, o3, G3⟩; have k3 := G3.chg.block wr.heap.size (Array.getElem?_eq_some_iff.1 HV.out.2.2.2.1).1 (fun e => by have := (HK.out.1.own.lt _ e).2; omega); have c30 : w3.cell? ⟨wr.heap.size, 0, none⟩ = some (.int .i64 8) := (by rw [bk_cell (k3.trans HV.out.2.2.2.1)]; rfl); have c33 : w3.cell? ⟨wr.heap.size, 3, none⟩ = some (.func (.func 75) #[] #[.pointer (some ⟨b, 0, none⟩)]) := (by rw [bk_cell (k3.trans HV.out.2.2.2.1)]; rfl); have H3 : Hid _ := And.intro o3 (And.intro G3 (And.intro (k3.trans HV.out.2.2.2.1) ((HK.out.1.bel.trans (HV.out.2.2.1.mono HK.out.1.bel.size)).trans (G3.below (owns_below HK.out.1.own HV.out.2.2.1) (Nat.le_trans HK.out.1.bel.size HV.out.2.2.1.size))))); clear o3 G3 k3 tok1)
        | (go_at_call 75; have _t := tok2; have kb : w3.cell? ⟨b, 0, none⟩ = wr.cell? ⟨b, 0, none⟩ := keep_cell H3.out.2.1 HV.out.2.2.1 HK.out.1.own HV.out.2.2.2.2.2.2.1 HV.out.2.2.2.2.2.1; have kg : w3.cell? ⟨w.heap.size, 4, none⟩ = wr.cell? ⟨w.heap.size, 4, none⟩ := keep_cell H3.out.2.1 HV.out.2.2.1 HK.out.1.own (by omega) lx; refine (numVal b w.heap.size 4 p.a4 w3 (H0.out.2.2.2.2.2.2.2.2 _ (H2.out.2.1.trans (H3.out.2.2.2.mono H2.out.2.1.size))) (by have := HQ.out.2.2.2.2.1; omega) (by have := HQ.out.2.2.2.2.1; omega) (kb.trans HV.out.2.2.2.2.1) (kg.trans HV.out.2.2.2.2.2.2.2.1)).mono ?_; rintro e w4 ⟨r4, rfl, o4, b4⟩; obtain ⟨a4, q4, er⟩ := (row_of_owns o4).form; subst er; have c40 : w4.cell? ⟨wr.heap.size, 0, none⟩ = some (.int .i64 8) := (by rw [bk_cell ((b4.block wr.heap.size (Array.getElem?_eq_some_iff.1 H3.out.2.2.1).1).trans H3.out.2.2.1)]; rfl); have c43 : w4.cell? ⟨wr.heap.size, 3, none⟩ = some (.func (.func 75) #[] #[.pointer (some ⟨b, 0, none⟩)]) := (by rw [bk_cell ((b4.block wr.heap.size (Array.getElem?_eq_some_iff.1 H3.out.2.2.1).1).trans H3.out.2.2.1)]; rfl); have H4 : Hid _ := And.intro b4 (And.intro (row_of_owns o4) (fun (hx : (putv p.a4) ≠ []) k (e : Value.ownBlock _ = some k) => (o4.lt k e).1)); clear o4 b4 kb kg tok2)
        | (go_at_call 29; have al4 : Below w4.heap.size w4 (w4.alloc (.cells #[.slice a4 (putv p.a4).length q4] 22)) := (Below.refl _ _).alloc (Nat.le_refl _) _; have B34 : Below w3.heap.size w3 (w4.alloc (.cells #[.slice a4 (putv p.a4).length q4] 22)) := H4.out.1.trans (al4.mono H4.out.1.size); refine (putC1 w2.heap.size r3 (.slice a4 (putv p.a4).length q4) (parA p s 6 ++ putv 8) (putv p.a4) w4.heap.size (w4.alloc (.cells #[.slice a4 (putv p.a4).length q4] 22)) (H0.out.2.2.2.2.2.2.2.2 _ ((H2.out.2.1.trans (H3.out.2.2.2.mono H2.out.2.1.size)).trans (B34.mono (Nat.le_trans H2.out.2.1.size H3.out.2.2.2.size)))) (owns_below H3.out.1 B34) (H4.out.2.1.below al4) (fun hx k h h2 => by have := H4.out.2.2 hx k h; have := (H3.out.1.lt k h2).2; omega) (Nat.le_trans H3.out.2.2.2.size B34.size) (by have := H0.out.2.2.2.2.2.2.1 6 (by decide); have := putv_le 8 (by decide) (by decide); rw [List.length_append]; omega) (by have := putv_le p.a4 (by have := HQ.out.2.2.2.2.1; omega) (by have := HQ.out.2.2.2.2.1; omega); omega) (laid1 _ _ _)).mono ?_; rintro e w5 ⟨r5, rfl, o5, G5⟩; have k5 := (G5.chg.block wr.heap.size (Nat.lt_of_lt_of_le (Array.getElem?_eq_some_iff.1 H3.out.2.2.1).1 B34.size) (fun e => (H3.out.2.1.loc _ e).elim (fun q => by have := (HK.out.1.own.lt _ q).2; omega) (fun q => by have := (Array.getElem?_eq_some_iff.1 HV.out.2.2.2.1).1; omega))).trans ((B34.block wr.heap.size (Array.getElem?_eq_some_iff.1 H3.out.2.2.1).1).trans H3.out.2.2.1); have c50 : w5.cell? ⟨wr.heap.size, 0, none⟩ = some (.int .i64 8) := (by rw [bk_cell k5]; rfl); have c53 : w5.cell? ⟨wr.heap.size, 3, none⟩ = some (.func (.func 75) #[] #[.pointer (some ⟨b, 0, none⟩)]) := (by rw [bk_cell k5]; rfl); clear k5; have H5 : Hid _ := And.intro o5 (And.intro G5 B34); clear o5 G5 al4 B34))
      all_goals
        have K1 : Hid (OutK w2 w5 r5 p s 7) := HK.out.1.told (k := 6) (num := 8) (ys := putv p.a4) (by decide) HV.out.2.2.1 H3.out.2.1 H5.out.2.2 H5.out.2.1 H5.out.1 (rfl)
        go_wp2_with fail
        go_roundg (13 - (6 + 1))
        case measure => omega
        case rel => exact ⟨7, by omega, rfl, by go_num, K1.out⟩
    · obtain ⟨cs, ⟨hz, hc⟩, hE⟩ := H2.out.1.e7
      obtain ⟨b, rfl, g0, u0, m0, g1, u1, m1, g2, u2, m2⟩ := hE
      have h0 := (HK.out.1.bel.cell (p := ⟨b, 0, none⟩) m0).trans g0
      have l0 := Nat.lt_of_lt_of_le m0 HK.out.1.bel.size
      have h1 := (HK.out.1.bel.cell (p := ⟨b + 1, 0, none⟩) m1).trans g1
      have l1 := Nat.lt_of_lt_of_le m1 HK.out.1.bel.size
      have h2 := (HK.out.1.bel.cell (p := ⟨b + 2, 0, none⟩) m2).trans g2
      have l2 := Nat.lt_of_lt_of_le m2 HK.out.1.bel.size
      have ht : T < w2.heap.size := H2.out.1.lt.2
      have t0 : wr.cell? ⟨T, 35, none⟩ = some (.int .i64 9) := (HK.out.1.bel.cell (p := ⟨T, 35, none⟩) ht).trans (hc 0 (by decide))
      have t1 : wr.cell? ⟨T, 36, none⟩ = some (.func (.func 73) #[] #[.pointer (some ⟨b, 0, none⟩), .pointer (some ⟨(b + 1), 0, none⟩), .pointer (some ⟨(b + 2), 0, none⟩)]) := (HK.out.1.bel.cell (p := ⟨T, 36, none⟩) ht).trans (hc 1 (by decide))
      have t2 : wr.cell? ⟨T, 37, none⟩ = some (.func (.func 74) #[] #[]) := (HK.out.1.bel.cell (p := ⟨T, 37, none⟩) ht).trans (hc 2 (by decide))
      have t3 : wr.cell? ⟨T, 38, none⟩ = some (.func (.func 75) #[] #[.pointer (some ⟨b, 0, none⟩)]) := (HK.out.1.bel.cell (p := ⟨T, 38, none⟩) ht).trans (hc 3 (by decide))
      have t4 : wr.cell? ⟨T, 39, none⟩ = some (.func (.func 76) #[] #[.pointer (some ⟨b, 0, none⟩)]) := (HK.out.1.bel.cell (p := ⟨T, 39, none⟩) ht).trans (hc 4 (by decide))
      have cx : wr.cell? ⟨w.heap.size, 5, none⟩ = some (.int .i64 p.a5) := by rw [bk_cell HK.out.2.2]; rfl
      have lx : w.heap.size < wr.heap.size := (Array.getElem?_eq_some_iff.1 HK.out.2.2).1
      have B1 : ∀ o, Below wr.heap.size wr (wr.alloc o) := fun o => (Below.refl _ _).alloc (Nat.le_refl _) o
      have CT := alwaysC (wr.alloc (.cells #[.int .i64 9, .func (.func 73) #[] #[.pointer (some ⟨b, 0, none⟩), .pointer (some ⟨(b + 1), 0, none⟩), .pointer (some ⟨(b + 2), 0, none⟩)], .func (.func 74) #[] #[], .func (.func 75) #[] #[.pointer (some ⟨b, 0, none⟩)], .func (.func 76) #[] #[.pointer (some ⟨b, 0, none⟩)]] 78))
      have BA : Below wr.heap.size wr ((wr.alloc (.cells #[.int .i64 9, .func (.func 73) #[] #[.pointer (some ⟨b, 0, none⟩), .pointer (some ⟨(b + 1), 0, none⟩), .pointer (some ⟨(b + 2), 0, none⟩)], .func (.func 74) #[] #[], .func (.func 75) #[] #[.pointer (some ⟨b, 0, none⟩)], .func (.func 76) #[] #[.pointer (some ⟨b, 0, none⟩)]] 78)).drew.alloc (.cells #[.int .i64 9] 3)) := (below_drewN (B1 _) 1).alloc (by show wr.heap.size ≤ (wr.alloc _).heap.size; simp) _
      have C3 := putN1 w2.heap.size u6 (parA p s 7) 9 (wr.heap.size + 1) ((wr.alloc (.cells #[.int .i64 9, .func (.func 73) #[] #[.pointer (some ⟨b, 0, none⟩), .pointer (some ⟨(b + 1), 0, none⟩), .pointer (some ⟨(b + 2), 0, none⟩)], .func (.func 74) #[] #[], .func (.func 75) #[] #[.pointer (some ⟨b, 0, none⟩)], .func (.func 76) #[] #[.pointer (some ⟨b, 0, none⟩)]] 78)).drew.alloc (.cells #[.int .i64 9] 3)) (H0.out.2.2.2.2.2.2.2.2 _ (HK.out.2.1.trans (BA.mono HK.out.2.1.size))) (owns_below HK.out.1.own BA) (Nat.le_trans HK.out.1.bel.size BA.size) (by have := H0.out.2.2.2.2.2.2.1 7 (by decide); omega) (by decide) (by decide) (cell_new (t := 3) (newAt1 _ _ _ (by show (wr.alloc _).heap.size = _; simp)))
      have gB : ((wr.alloc (.cells #[.int .i64 9, .func (.func 73) #[] #[.pointer (some ⟨b, 0, none⟩), .pointer (some ⟨(b + 1), 0, none⟩), .pointer (some ⟨(b + 2), 0, none⟩)], .func (.func 74) #[] #[], .func (.func 75) #[] #[.pointer (some ⟨b, 0, none⟩)], .func (.func 76) #[] #[.pointer (some ⟨b, 0, none⟩)]] 78)).drew.alloc (.cells #[.int .i64 9] 3)).heap[wr.heap.size]? = some (.cells #[.int .i64 9, .func (.func 73) #[] #[.pointer (some ⟨b, 0, none⟩), .pointer (some ⟨(b + 1), 0, none⟩), .pointer (some ⟨(b + 2), 0, none⟩)], .func (.func 74) #[] #[], .func (.func 75) #[] #[.pointer (some ⟨b, 0, none⟩)], .func (.func 76) #[] #[.pointer (some ⟨b, 0, none⟩)]] 78) := (Below.heap_alloc _ _ _ (by show wr.heap.size < (wr.alloc _).heap.size; simp)).trans (heap_alloc_new wr (.cells #[.int .i64 9, .func (.func 73) #[] #[.pointer (some ⟨b, 0, none⟩), .pointer (some ⟨(b + 1), 0, none⟩), .pointer (some ⟨(b + 2), 0, none⟩)], .func (.func 74) #[] #[], .func (.func 75) #[] #[.pointer (some ⟨b, 0, none⟩)], .func (.func 76) #[] #[.pointer (some ⟨b, 0, none⟩)]] 78))
      have HV : Hid _ := And.intro CT (And.intro C3 (And.intro BA (And.intro gB (And.intro h0 (And.intro l0 (And.intro m0 (And.intro cx lx)))))))
      clear CT C3 BA gB hc hz B1 cx h0 u0 l0 g0 m0 h1 u1 l1 g1 m1 h2 u2 l2 g2 m2
      go_wp2_with (go_at_call 74; refine HV.out.1.mono ?_; rintro e w3 ⟨rfl, hw⟩; subst w3)
      have tok1 : True := trivial
      have tok2 : True := trivial
      have cA0 : (wr.alloc (.cells #[.int .i64 9, .func (.func 73) #[] #[.pointer (some ⟨b, 0, none⟩), .pointer (some ⟨(b + 1), 0, none⟩), .pointer (some ⟨(b + 2), 0, none⟩)], .func (.func 74) #[] #[], .func (.func 75) #[] #[.pointer (some ⟨b, 0, none⟩)], .func (.func 76) #[] #[.pointer (some ⟨b, 0, none⟩)]] 78)).cell? ⟨wr.heap.size, 0, none⟩ = some (.int .i64 9) := by rw [bk_cell (heap_alloc_new wr (.cells #[.int .i64 9, .func (.func 73) #[] #[.pointer (some ⟨b, 0, none⟩), .pointer (some ⟨(b + 1), 0, none⟩), .pointer (some ⟨(b + 2), 0, none⟩)], .func (.func 74) #[] #[], .func (.func 75) #[] #[.pointer (some ⟨b, 0, none⟩)], .func (.func 76) #[] #[.pointer (some ⟨b, 0, none⟩)]] 78))]; rfl
      have cA3 : (wr.alloc (.cells #[.int .i64 9, .func (.func 73) #[] #[.pointer (some ⟨b, 0, none⟩), .pointer (some ⟨(b + 1), 0, none⟩), .pointer (some ⟨(b + 2), 0, none⟩)], .func (.func 74) #[] #[], .func (.func 75) #[] #[.pointer (some ⟨b, 0, none⟩)], .func (.func 76) #[] #[.pointer (some ⟨b, 0, none⟩)]] 78)).cell? ⟨wr.heap.size, 3, none⟩ = some (.func (.func 75) #[] #[.pointer (some ⟨b, 0, none⟩)]) := by rw [bk_cell (heap_alloc_new wr (.cells #[.int .i64 9, .func (.func 73) #[] #[.pointer (some ⟨b, 0, none⟩), .pointer (some ⟨(b + 1), 0, none⟩), .pointer (some ⟨(b + 2), 0, none⟩)], .func (.func 74) #[] #[], .func (.func 75) #[] #[.pointer (some ⟨b, 0, none⟩)], .func (.func 76) #[] #[.pointer (some ⟨b, 0, none⟩)]] 78))]; rfl
      go_upto_region 8 with fail
      go_region_held3 (fun w' => w'.cell? ⟨wr.heap.size, 0, none⟩ = some (.int .i64 9) ∧ w'.cell? ⟨wr.heap.size, 3, none⟩ = some (.func (.func 75) #[] #[.pointer (some ⟨b, 0, none⟩)])) (go_keep)
        (first
        | (go_at_call 50; have _t := tok1; refine HV.out.2.1.mono ?_; rintro e w3 ⟨r3, rfl, o3, G3⟩; have k3 := G3.chg.block wr.heap.size (Array.getElem?_eq_some_iff.1 HV.out.2.2.2.1).1 (fun e => by have := (HK.out.1.own.lt _ e).2; omega); have c30 : w3.cell? ⟨wr.heap.size, 0, none⟩ = some (.int .i64 9) := (by rw [bk_cell (k3.trans HV.out.2.2.2.1)]; rfl); have c33 : w3.cell? ⟨wr.heap.size, 3, none⟩ = some (.func (.func 75) #[] #[.pointer (some ⟨b, 0, none⟩)]) := (by rw [bk_cell (k3.trans HV.out.2.2.2.1)]; rfl); have H3 : Hid _ := And.intro o3 (And.intro G3 (And.intro (k3.trans HV.out.2.2.2.1) ((HK.out.1.bel.trans (HV.out.2.2.1.mono HK.out.1.bel.size)).trans (G3.below (owns_below HK.out.1.own HV.out.2.2.1) (Nat.le_trans HK.out.1.bel.size HV.out.2.2.1.size))))); clear o3 G3 k3 tok1)
        | (go_at_call 75; have _t := tok2; have kb : w3.cell? ⟨b, 0, none⟩ = wr.cell? ⟨b, 0, none⟩ := keep_cell H3.out.2.1 HV.out.2.2.1 HK.out.1.own HV.out.2.2.2.2.2.2.1 HV.out.2.2.2.2.2.1; have kg : w3.cell? ⟨w.heap.size, 5, none⟩ = wr.cell? ⟨w.heap.size, 5, none⟩ := keep_cell H3.out.2.1 HV.out.2.2.1 HK.out.1.own (by omega) lx; refine (numVal b w.heap.size 5 p.a5 w3 (H0.out.2.2.2.2.2.2.2.2 _ (H2.out.2.1.trans (H3.out.2.2.2.mono H2.out.2.1.size))) (by have := HQ.out.2.2.2.2.2.1; omega) (by have := HQ.out.2.2.2.2.2.1; omega) (kb.trans HV.out.2.2.2.2.1) (kg.trans HV.out.2.2.2.2.2.2.2.1)).mono ?_; rintro e w4 ⟨r4, rfl, o4, b4⟩; obtain ⟨a4, q4, er⟩ := (row_of_owns o4).form; subst er; have c40 : w4.cell? ⟨wr.heap.size, 0, none⟩ = some (.int .i64 9) := (by rw [bk_cell ((b4.block wr.heap.size (Array.getElem?_eq_some_iff.1 H3.out.2.2.1).1).trans H3.out.2.2.1)]; rfl); have c43 : w4.cell? ⟨wr.heap.size, 3, none⟩ = some (.func (.func 75) #[] #[.pointer (some ⟨b, 0, none⟩)]) := (by rw [bk_cell ((b4.block wr.heap.size (Array.getElem?_eq_some_iff.1 H3.out.2.2.1).1).trans H3.out.2.2.1)]; rfl); have H4 : Hid _ := And.intro b4 (And.intro (row_of_owns o4) (fun (hx : (putv p.a5) ≠ []) k (e : Value.ownBlock _ = some k) => (o4.lt k e).1)); clear o4 b4 kb kg tok2)
        | (go_at_call 29; have al4 : Below w4.heap.size w4 (w4.alloc (.cells #[.slice a4 (putv p.a5).length q4] 22)) := (Below.refl _ _).alloc (Nat.le_refl _) _; have B34 : Below w3.heap.size w3 (w4.alloc (.cells #[.slice a4 (putv p.a5).length q4] 22)) := H4.out.1.trans (al4.mono H4.out.1.size); refine (putC1 w2.heap.size r3 (.slice a4 (putv p.a5).length q4) (parA p s 7 ++ putv 9) (putv p.a5) w4.heap.size (w4.alloc (.cells #[.slice a4 (putv p.a5).length q4] 22)) (H0.out.2.2.2.2.2.2.2.2 _ ((H2.out.2.1.trans (H3.out.2.2.2.mono H2.out.2.1.size)).trans (B34.mono (Nat.le_trans H2.out.2.1.size H3.out.2.2.2.size)))) (owns_below H3.out.1 B34) (H4.out.2.1.below al4) (fun hx k h h2 => by have := H4.out.2.2 hx k h; have := (H3.out.1.lt k h2).2; omega) (Nat.le_trans H3.out.2.2.2.size B34.size) (by have := H0.out.2.2.2.2.2.2.1 7 (by decide); have := putv_le 9 (by decide) (by decide); rw [List.length_append]; omega) (by have := putv_le p.a5 (by have := HQ.out.2.2.2.2.2.1; omega) (by have := HQ.out.2.2.2.2.2.1; omega); omega) (laid1 _ _ _)).mono ?_; rintro e w5 ⟨r5, rfl, o5, G5⟩; have k5 := (G5.chg.block wr.heap.size (Nat.lt_of_lt_of_le (Array.getElem?_eq_some_iff.1 H3.out.2.2.1).1 B34.size) (fun e => (H3.out.2.1.loc _ e).elim (fun q => by have := (HK.out.1.own.lt _ q).2; omega) (fun q => by have := (Array.getElem?_eq_some_iff.1 HV.out.2.2.2.1).1; omega))).trans ((B34.block wr.heap.size (Array.getElem?_eq_some_iff.1 H3.out.2.2.1).1).trans H3.out.2.2.1); have c50 : w5.cell? ⟨wr.heap.size, 0, none⟩ = some (.int .i64 9) := (by rw [bk_cell k5]; rfl); have c53 : w5.cell? ⟨wr.heap.size, 3, none⟩ = some (.func (.func 75) #[] #[.pointer (some ⟨b, 0, none⟩)]) := (by rw [bk_cell k5]; rfl); clear k5; have H5 : Hid _ := And.intro o5 (And.intro G5 B34); clear o5 G5 al4 B34))
      all_goals
        have K1 : Hid (OutK w2 w5 r5 p s 8) := HK.out.1.told (k := 7) (num := 9) (ys := putv p.a5) (by decide) HV.out.2.2.1 H3.out.2.1 H5.out.2.2 H5.out.2.1 H5.out.1 (rfl)
        go_wp2_with fail
        go_roundg (13 - (7 + 1))
        case measure => omega
        case rel => exact ⟨8, by omega, rfl, by go_num, K1.out⟩
    · obtain ⟨cs, ⟨hz, hc⟩, hE⟩ := H2.out.1.e8
      obtain ⟨b, rfl, g0, u0, m0, g1, u1, m1, g2, u2, m2⟩ := hE
      have h0 := (HK.out.1.bel.cell (p := ⟨b, 0, none⟩) m0).trans g0
      have l0 := Nat.lt_of_lt_of_le m0 HK.out.1.bel.size
      have h1 := (HK.out.1.bel.cell (p := ⟨b + 1, 0, none⟩) m1).trans g1
      have l1 := Nat.lt_of_lt_of_le m1 HK.out.1.bel.size
      have h2 := (HK.out.1.bel.cell (p := ⟨b + 2, 0, none⟩) m2).trans g2
      have l2 := Nat.lt_of_lt_of_le m2 HK.out.1.bel.size
      have ht : T < w2.heap.size := H2.out.1.lt.2
      have t0 : wr.cell? ⟨T, 40, none⟩ = some (.int .i64 11) := (HK.out.1.bel.cell (p := ⟨T, 40, none⟩) ht).trans (hc 0 (by decide))
      have t1 : wr.cell? ⟨T, 41, none⟩ = some (.func (.func 73) #[] #[.pointer (some ⟨b, 0, none⟩), .pointer (some ⟨(b + 1), 0, none⟩), .pointer (some ⟨(b + 2), 0, none⟩)]) := (HK.out.1.bel.cell (p := ⟨T, 41, none⟩) ht).trans (hc 1 (by decide))
      have t2 : wr.cell? ⟨T, 42, none⟩ = some (.func (.func 74) #[] #[]) := (HK.out.1.bel.cell (p := ⟨T, 42, none⟩) ht).trans (hc 2 (by decide))
      have t3 : wr.cell? ⟨T, 43, none⟩ = some (.func (.func 75) #[] #[.pointer (some ⟨b, 0, none⟩)]) := (HK.out.1.bel.cell (p := ⟨T, 43, none⟩) ht).trans (hc 3 (by decide))
      have t4 : wr.cell? ⟨T, 44, none⟩ = some (.func (.func 76) #[] #[.pointer (some ⟨b, 0, none⟩)]) := (HK.out.1.bel.cell (p := ⟨T, 44, none⟩) ht).trans (hc 4 (by decide))
      have cx : wr.cell? ⟨w.heap.size, 6, none⟩ = some (.int .i64 p.a6) := by rw [bk_cell HK.out.2.2]; rfl
      have lx : w.heap.size < wr.heap.size := (Array.getElem?_eq_some_iff.1 HK.out.2.2).1
      have B1 : ∀ o, Below wr.heap.size wr (wr.alloc o) := fun o => (Below.refl _ _).alloc (Nat.le_refl _) o
      have CT := alwaysC (wr.alloc (.cells #[.int .i64 11, .func (.func 73) #[] #[.pointer (some ⟨b, 0, none⟩), .pointer (some ⟨(b + 1), 0, none⟩), .pointer (some ⟨(b + 2), 0, none⟩)], .func (.func 74) #[] #[], .func (.func 75) #[] #[.pointer (some ⟨b, 0, none⟩)], .func (.func 76) #[] #[.pointer (some ⟨b, 0, none⟩)]] 78))
      have BA : Below wr.heap.size wr ((wr.alloc (.cells #[.int .i64 11, .func (.func 73) #[] #[.pointer (some ⟨b, 0, none⟩), .pointer (some ⟨(b + 1), 0, none⟩), .pointer (some ⟨(b + 2), 0, none⟩)], .func (.func 74) #[] #[], .func (.func 75) #[] #[.pointer (some ⟨b, 0, none⟩)], .func (.func 76) #[] #[.pointer (some ⟨b, 0, none⟩)]] 78)).drew.alloc (.cells #[.int .i64 11] 3)) := (below_drewN (B1 _) 1).alloc (by show wr.heap.size ≤ (wr.alloc _).heap.size; simp) _
      have C3 := putN1 w2.heap.size u6 (parA p s 8) 11 (wr.heap.size + 1) ((wr.alloc (.cells #[.int .i64 11, .func (.func 73) #[] #[.pointer (some ⟨b, 0, none⟩), .pointer (some ⟨(b + 1), 0, none⟩), .pointer (some ⟨(b + 2), 0, none⟩)], .func (.func 74) #[] #[], .func (.func 75) #[] #[.pointer (some ⟨b, 0, none⟩)], .func (.func 76) #[] #[.pointer (some ⟨b, 0, none⟩)]] 78)).drew.alloc (.cells #[.int .i64 11] 3)) (H0.out.2.2.2.2.2.2.2.2 _ (HK.out.2.1.trans (BA.mono HK.out.2.1.size))) (owns_below HK.out.1.own BA) (Nat.le_trans HK.out.1.bel.size BA.size) (by have := H0.out.2.2.2.2.2.2.1 8 (by decide); omega) (by decide) (by decide) (cell_new (t := 3) (newAt1 _ _ _ (by show (wr.alloc _).heap.size = _; simp)))
      have gB : ((wr.alloc (.cells #[.int .i64 11, .func (.func 73) #[] #[.pointer (some ⟨b, 0, none⟩), .pointer (some ⟨(b + 1), 0, none⟩), .pointer (some ⟨(b + 2), 0, none⟩)], .func (.func 74) #[] #[], .func (.func 75) #[] #[.pointer (some ⟨b, 0, none⟩)], .func (.func 76) #[] #[.pointer (some ⟨b, 0, none⟩)]] 78)).drew.alloc (.cells #[.int .i64 11] 3)).heap[wr.heap.size]? = some (.cells #[.int .i64 11, .func (.func 73) #[] #[.pointer (some ⟨b, 0, none⟩), .pointer (some ⟨(b + 1), 0, none⟩), .pointer (some ⟨(b + 2), 0, none⟩)], .func (.func 74) #[] #[], .func (.func 75) #[] #[.pointer (some ⟨b, 0, none⟩)], .func (.func 76) #[] #[.pointer (some ⟨b, 0, none⟩)]] 78) := (Below.heap_alloc _ _ _ (by show wr.heap.size < (wr.alloc _).heap.size; simp)).trans (heap_alloc_new wr (.cells #[.int .i64 11, .func (.func 73) #[] #[.pointer (some ⟨b, 0, none⟩), .pointer (some ⟨(b + 1), 0, none⟩), .pointer (some ⟨(b + 2), 0, none⟩)], .func (.func 74) #[] #[], .func (.func 75) #[] #[.pointer (some ⟨b, 0, none⟩)], .func (.func 76) #[] #[.pointer (some ⟨b, 0, none⟩)]] 78))
      have HV : Hid _ := And.intro CT (And.intro C3 (And.intro BA (And.intro gB (And.intro h0 (And.intro l0 (And.intro m0 (And.intro cx lx)))))))
      clear CT C3 BA gB hc hz B1 cx h0 u0 l0 g0 m0 h1 u1 l1 g1 m1 h2 u2 l2 g2 m2
      go_wp2_with (go_at_call 74; refine HV.out.1.mono ?_; rintro e w3 ⟨rfl, hw⟩; subst w3)
      have tok1 : True := trivial
      have tok2 : True := trivial
      have cA0 : (wr.alloc (.cells #[.int .i64 11, .func (.func 73) #[] #[.pointer (some ⟨b, 0, none⟩), .pointer (some ⟨(b + 1), 0, none⟩), .pointer (some ⟨(b + 2), 0, none⟩)], .func (.func 74) #[] #[], .func (.func 75) #[] #[.pointer (some ⟨b, 0, none⟩)], .func (.func 76) #[] #[.pointer (some ⟨b, 0, none⟩)]] 78)).cell? ⟨wr.heap.size, 0, none⟩ = some (.int .i64 11) := by rw [bk_cell (heap_alloc_new wr (.cells #[.int .i64 11, .func (.func 73) #[] #[.pointer (some ⟨b, 0, none⟩), .pointer (some ⟨(b + 1), 0, none⟩), .pointer (some ⟨(b + 2), 0, none⟩)], .func (.func 74) #[] #[], .func (.func 75) #[] #[.pointer (some ⟨b, 0, none⟩)], .func (.func 76) #[] #[.pointer (some ⟨b, 0, none⟩)]] 78))]; rfl
      have cA3 : (wr.alloc (.cells #[.int .i64 11, .func (.func 73) #[] #[.pointer (some ⟨b, 0, none⟩), .pointer (some ⟨(b + 1), 0, none⟩), .pointer (some ⟨(b + 2), 0, none⟩)], .func (.func 74) #[] #[], .func (.func 75) #[] #[.pointer (some ⟨b, 0, none⟩)], .func (.func 76) #[] #[.pointer (some ⟨b, 0, none⟩)]] 78)).cell? ⟨wr.heap.size, 3, none⟩ = some (.func (.func 75) #[] #[.pointer (some ⟨b, 0, none⟩)]) := by rw [bk_cell (heap_alloc_new wr (.cells #[.int .i64 11, .func (.func 73) #[] #[.pointer (some ⟨b, 0, none⟩), .pointer (some ⟨(b + 1), 0, none⟩), .pointer (some ⟨(b + 2), 0, none⟩)], .func (.func 74) #[] #[], .func (.func 75) #[] #[.pointer (some ⟨b, 0, none⟩)], .func (.func 76) #[] #[.pointer (some ⟨b, 0, none⟩)]] 78))]; rfl
      go_upto_region 8 with fail
      go_region_held3 (fun w' => w'.cell? ⟨wr.heap.size, 0, none⟩ = some (.int .i64 11) ∧ w'.cell? ⟨wr.heap.size, 3, none⟩ = some (.func (.func 75) #[] #[.pointer (some ⟨b, 0, none⟩)])) (go_keep)
        (first
        | (go_at_call 50; have _t := tok1; refine HV.out.2.1.mono ?_; rintro e w3 ⟨r3, rfl, o3, G3⟩; have k3 := G3.chg.block wr.heap.size (Array.getElem?_eq_some_iff.1 HV.out.2.2.2.1).1 (fun e => by have := (HK.out.1.own.lt _ e).2; omega); have c30 : w3.cell? ⟨wr.heap.size, 0, none⟩ = some (.int .i64 11) := (by rw [bk_cell (k3.trans HV.out.2.2.2.1)]; rfl); have c33 : w3.cell? ⟨wr.heap.size, 3, none⟩ = some (.func (.func 75) #[] #[.pointer (some ⟨b, 0, none⟩)]) := (by rw [bk_cell (k3.trans HV.out.2.2.2.1)]; rfl); have H3 : Hid _ := And.intro o3 (And.intro G3 (And.intro (k3.trans HV.out.2.2.2.1) ((HK.out.1.bel.trans (HV.out.2.2.1.mono HK.out.1.bel.size)).trans (G3.below (owns_below HK.out.1.own HV.out.2.2.1) (Nat.le_trans HK.out.1.bel.size HV.out.2.2.1.size))))); clear o3 G3 k3 tok1)
        | (go_at_call 75; have _t := tok2; have kb : w3.cell? ⟨b, 0, none⟩ = wr.cell? ⟨b, 0, none⟩ := keep_cell H3.out.2.1 HV.out.2.2.1 HK.out.1.own HV.out.2.2.2.2.2.2.1 HV.out.2.2.2.2.2.1; have kg : w3.cell? ⟨w.heap.size, 6, none⟩ = wr.cell? ⟨w.heap.size, 6, none⟩ := keep_cell H3.out.2.1 HV.out.2.2.1 HK.out.1.own (by omega) lx; refine (numVal b w.heap.size 6 p.a6 w3 (H0.out.2.2.2.2.2.2.2.2 _ (H2.out.2.1.trans (H3.out.2.2.2.mono H2.out.2.1.size))) (by have := HQ.out.2.2.2.2.2.2.1; omega) (by have := HQ.out.2.2.2.2.2.2.1; omega) (kb.trans HV.out.2.2.2.2.1) (kg.trans HV.out.2.2.2.2.2.2.2.1)).mono ?_; rintro e w4 ⟨r4, rfl, o4, b4⟩; obtain ⟨a4, q4, er⟩ := (row_of_owns o4).form; subst er; have c40 : w4.cell? ⟨wr.heap.size, 0, none⟩ = some (.int .i64 11) := (by rw [bk_cell ((b4.block wr.heap.size (Array.getElem?_eq_some_iff.1 H3.out.2.2.1).1).trans H3.out.2.2.1)]; rfl); have c43 : w4.cell? ⟨wr.heap.size, 3, none⟩ = some (.func (.func 75) #[] #[.pointer (some ⟨b, 0, none⟩)]) := (by rw [bk_cell ((b4.block wr.heap.size (Array.getElem?_eq_some_iff.1 H3.out.2.2.1).1).trans H3.out.2.2.1)]; rfl); have H4 : Hid _ := And.intro b4 (And.intro (row_of_owns o4) (fun (hx : (putv p.a6) ≠ []) k (e : Value.ownBlock _ = some k) => (o4.lt k e).1)); clear o4 b4 kb kg tok2)
        | (go_at_call 29; have al4 : Below w4.heap.size w4 (w4.alloc (.cells #[.slice a4 (putv p.a6).length q4] 22)) := (Below.refl _ _).alloc (Nat.le_refl _) _; have B34 : Below w3.heap.size w3 (w4.alloc (.cells #[.slice a4 (putv p.a6).length q4] 22)) := H4.out.1.trans (al4.mono H4.out.1.size); refine (putC1 w2.heap.size r3 (.slice a4 (putv p.a6).length q4) (parA p s 8 ++ putv 11) (putv p.a6) w4.heap.size (w4.alloc (.cells #[.slice a4 (putv p.a6).length q4] 22)) (H0.out.2.2.2.2.2.2.2.2 _ ((H2.out.2.1.trans (H3.out.2.2.2.mono H2.out.2.1.size)).trans (B34.mono (Nat.le_trans H2.out.2.1.size H3.out.2.2.2.size)))) (owns_below H3.out.1 B34) (H4.out.2.1.below al4) (fun hx k h h2 => by have := H4.out.2.2 hx k h; have := (H3.out.1.lt k h2).2; omega) (Nat.le_trans H3.out.2.2.2.size B34.size) (by have := H0.out.2.2.2.2.2.2.1 8 (by decide); have := putv_le 11 (by decide) (by decide); rw [List.length_append]; omega) (by have := putv_le p.a6 (by have := HQ.out.2.2.2.2.2.2.1; omega) (by have := HQ.out.2.2.2.2.2.2.1; omega); omega) (laid1 _ _ _)).mono ?_; rintro e w5 ⟨r5, rfl, o5, G5⟩; have k5 := (G5.chg.block wr.heap.size (Nat.lt_of_lt_of_le (Array.getElem?_eq_some_iff.1 H3.out.2.2.1).1 B34.size) (fun e => (H3.out.2.1.loc _ e).elim (fun q => by have := (HK.out.1.own.lt _ q).2; omega) (fun q => by have := (Array.getElem?_eq_some_iff.1 HV.out.2.2.2.1).1; omega))).trans ((B34.block wr.heap.size (Array.getElem?_eq_some_iff.1 H3.out.2.2.1).1).trans H3.out.2.2.1); have c50 : w5.cell? ⟨wr.heap.size, 0, none⟩ = some (.int .i64 11) := (by rw [bk_cell k5]; rfl); have c53 : w5.cell? ⟨wr.heap.size, 3, none⟩ = some (.func (.func 75) #[] #[.pointer (some ⟨b, 0, none⟩)]) := (by rw [bk_cell k5]; rfl); clear k5; have H5 : Hid _ := And.intro o5 (And.intro G5 B34); clear o5 G5 al4 B34))
      all_goals
        have K1 : Hid (OutK w2 w5 r5 p s 9) := HK.out.1.told (k := 8) (num := 11) (ys := putv p.a6) (by decide) HV.out.2.2.1 H3.out.2.1 H5.out.2.2 H5.out.2.1 H5.out.1 (rfl)
        go_wp2_with fail
        go_roundg (13 - (8 + 1))
        case measure => omega
        case rel => exact ⟨9, by omega, rfl, by go_num, K1.out⟩
    · obtain ⟨cs, ⟨hz, hc⟩, hE⟩ := H2.out.1.e9
      obtain ⟨b, rfl, g0, u0, m0⟩ := hE
      have h0 := (HK.out.1.bel.cell (p := ⟨b, 0, none⟩) m0).trans g0
      have l0 := Nat.lt_of_lt_of_le m0 HK.out.1.bel.size
      have ht : T < w2.heap.size := H2.out.1.lt.2
      have t0 : wr.cell? ⟨T, 45, none⟩ = some (.int .i64 12) := (HK.out.1.bel.cell (p := ⟨T, 45, none⟩) ht).trans (hc 0 (by decide))
      have t1 : wr.cell? ⟨T, 46, none⟩ = some (.func (.func 74) #[] #[]) := (HK.out.1.bel.cell (p := ⟨T, 46, none⟩) ht).trans (hc 1 (by decide))
      have t2 : wr.cell? ⟨T, 47, none⟩ = some (.func (.func 81) #[] #[.pointer (some ⟨b, 0, none⟩)]) := (HK.out.1.bel.cell (p := ⟨T, 47, none⟩) ht).trans (hc 2 (by decide))
      have t3 : wr.cell? ⟨T, 48, none⟩ = some (.func (.func 82) #[] #[]) := (HK.out.1.bel.cell (p := ⟨T, 48, none⟩) ht).trans (hc 3 (by decide))
      have t4 : wr.cell? ⟨T, 49, none⟩ = some (.func (.func 83) #[] #[.pointer (some ⟨b, 0, none⟩)]) := (HK.out.1.bel.cell (p := ⟨T, 49, none⟩) ht).trans (hc 4 (by decide))
      have cx : wr.cell? ⟨w.heap.size, 9, none⟩ = some (.bool p.m) := by rw [bk_cell HK.out.2.2]; rfl
      have lx : w.heap.size < wr.heap.size := (Array.getElem?_eq_some_iff.1 HK.out.2.2).1
      have B1 : ∀ o, Below wr.heap.size wr (wr.alloc o) := fun o => (Below.refl _ _).alloc (Nat.le_refl _) o
      have CT := flgTold b w.heap.size 9 p.m (wr.alloc (.cells #[.int .i64 12, .func (.func 74) #[] #[], .func (.func 81) #[] #[.pointer (some ⟨b, 0, none⟩)], .func (.func 82) #[] #[], .func (.func 83) #[] #[.pointer (some ⟨b, 0, none⟩)]] 78)) (((B1 _).cell (p := ⟨b, 0, none⟩) l0).trans h0) (((B1 _).cell (p := ⟨w.heap.size, 9, none⟩) lx).trans cx)
      obtain ⟨t, et⟩ : ∃ t : Bool, t = (p.m) := ⟨_, rfl⟩
      rw [← et] at CT
      have ET : Hid _ := And.intro et True.intro
      clear et
      have BA : Below wr.heap.size wr ((wr.alloc (.cells #[.int .i64 12, .func (.func 74) #[] #[], .func (.func 81) #[] #[.pointer (some ⟨b, 0, none⟩)], .func (.func 82) #[] #[], .func (.func 83) #[] #[.pointer (some ⟨b, 0, none⟩)]] 78)).drew.alloc (.cells #[.int .i64 12] 3)) := (below_drewN (B1 _) 1).alloc (by show wr.heap.size ≤ (wr.alloc _).heap.size; simp) _
      have C3 := putN1 w2.heap.size u6 (parA p s 9) 12 (wr.heap.size + 1) ((wr.alloc (.cells #[.int .i64 12, .func (.func 74) #[] #[], .func (.func 81) #[] #[.pointer (some ⟨b, 0, none⟩)], .func (.func 82) #[] #[], .func (.func 83) #[] #[.pointer (some ⟨b, 0, none⟩)]] 78)).drew.alloc (.cells #[.int .i64 12] 3)) (H0.out.2.2.2.2.2.2.2.2 _ (HK.out.2.1.trans (BA.mono HK.out.2.1.size))) (owns_below HK.out.1.own BA) (Nat.le_trans HK.out.1.bel.size BA.size) (by have := H0.out.2.2.2.2.2.2.1 9 (by decide); omega) (by decide) (by decide) (cell_new (t := 3) (newAt1 _ _ _ (by show (wr.alloc _).heap.size = _; simp)))
      have gB : ((wr.alloc (.cells #[.int .i64 12, .func (.func 74) #[] #[], .func (.func 81) #[] #[.pointer (some ⟨b, 0, none⟩)], .func (.func 82) #[] #[], .func (.func 83) #[] #[.pointer (some ⟨b, 0, none⟩)]] 78)).drew.alloc (.cells #[.int .i64 12] 3)).heap[wr.heap.size]? = some (.cells #[.int .i64 12, .func (.func 74) #[] #[], .func (.func 81) #[] #[.pointer (some ⟨b, 0, none⟩)], .func (.func 82) #[] #[], .func (.func 83) #[] #[.pointer (some ⟨b, 0, none⟩)]] 78) := (Below.heap_alloc _ _ _ (by show wr.heap.size < (wr.alloc _).heap.size; simp)).trans (heap_alloc_new wr (.cells #[.int .i64 12, .func (.func 74) #[] #[], .func (.func 81) #[] #[.pointer (some ⟨b, 0, none⟩)], .func (.func 82) #[] #[], .func (.func 83) #[] #[.pointer (some ⟨b, 0, none⟩)]] 78))
      have HV : Hid _ := And.intro CT (And.intro C3 (And.intro BA (And.intro gB (And.intro h0 (And.intro l0 (And.intro m0 (And.intro cx lx)))))))
      clear CT C3 BA gB hc hz B1 cx h0 u0 l0 g0 m0
      cases t
      · skip
        go_wp2_with (go_at_call 81; refine HV.out.1.mono ?_; rintro e w3 ⟨rfl, hw⟩; subst w3)
        have K1 := HK.out.1.skip (k := 9) (by decide) (by show (if p.m = true then entB 12 [] else []) = []; rw [if_neg (by rw [← ET.out.1]; decide)])
        go_roundg (13 - (9 + 1))
        case measure => omega
        case rel => exact ⟨10, by omega, rfl, by go_num, ⟨owns_below K1.own ((Below.refl _ _).alloc (Nat.le_refl _) _), K1.bel.alloc K1.bel.size _⟩⟩
      · skip
        go_wp2_with (go_at_call 81; refine HV.out.1.mono ?_; rintro e w3 ⟨rfl, hw⟩; subst w3)
        have tok1 : True := trivial
        have tok2 : True := trivial
        have cA0 : (wr.alloc (.cells #[.int .i64 12, .func (.func 74) #[] #[], .func (.func 81) #[] #[.pointer (some ⟨b, 0, none⟩)], .func (.func 82) #[] #[], .func (.func 83) #[] #[.pointer (some ⟨b, 0, none⟩)]] 78)).cell? ⟨wr.heap.size, 0, none⟩ = some (.int .i64 12) := by rw [bk_cell (heap_alloc_new wr (.cells #[.int .i64 12, .func (.func 74) #[] #[], .func (.func 81) #[] #[.pointer (some ⟨b, 0, none⟩)], .func (.func 82) #[] #[], .func (.func 83) #[] #[.pointer (some ⟨b, 0, none⟩)]] 78))]; rfl
        have cA3 : (wr.alloc (.cells #[.int .i64 12, .func (.func 74) #[] #[], .func (.func 81) #[] #[.pointer (some ⟨b, 0, none⟩)], .func (.func 82) #[] #[], .func (.func 83) #[] #[.pointer (some ⟨b, 0, none⟩)]] 78)).cell? ⟨wr.heap.size, 3, none⟩ = some (.func (.func 82) #[] #[]) := by rw [bk_cell (heap_alloc_new wr (.cells #[.int .i64 12, .func (.func 74) #[] #[], .func (.func 81) #[] #[.pointer (some ⟨b, 0, none⟩)], .func (.func 82) #[] #[], .func (.func 83) #[] #[.pointer (some ⟨b, 0, none⟩)]] 78))]; rfl
        go_upto_region 8 with fail
        go_region_held3 (fun w' => w'.cell? ⟨wr.heap.size, 0, none⟩ = some (.int .i64 12) ∧ w'.cell? ⟨wr.heap.size, 3, none⟩ = some (.func (.func 82) #[] #[])) (go_keep)
          (first
          | (go_at_call 50; have _t := tok1; refine HV.out.2.1.mono ?_; rintro e w3 ⟨r3, rfl, o3, G3⟩; have k3 := G3.chg.block wr.heap.size (Array.getElem?_eq_some_iff.1 HV.out.2.2.2.1).1 (fun e => by have := (HK.out.1.own.lt _ e).2; omega); have c30 : w3.cell? ⟨wr.heap.size, 0, none⟩ = some (.int .i64 12) := (by rw [bk_cell (k3.trans HV.out.2.2.2.1)]; rfl); have c33 : w3.cell? ⟨wr.heap.size, 3, none⟩ = some (.func (.func 82) #[] #[]) := (by rw [bk_cell (k3.trans HV.out.2.2.2.1)]; rfl); have H3 : Hid _ := And.intro o3 (And.intro G3 (And.intro (k3.trans HV.out.2.2.2.1) ((HK.out.1.bel.trans (HV.out.2.2.1.mono HK.out.1.bel.size)).trans (G3.below (owns_below HK.out.1.own HV.out.2.2.1) (Nat.le_trans HK.out.1.bel.size HV.out.2.2.1.size))))); clear o3 G3 k3 tok1)
          | (go_at_call 82; have _t := tok2; refine (flgVal w3).mono ?_; rintro e w4 ⟨rfl, hw4⟩; subst w4; clear tok2)
          | (go_at_call 29; have al4 : Below w3.heap.size w3 (w3.alloc (.cells #[.slice none 0 0] 22)) := (Below.refl _ _).alloc (Nat.le_refl _) _; have B34 : Below w3.heap.size w3 (w3.alloc (.cells #[.slice none 0 0] 22)) := (Below.refl w3.heap.size w3).trans (al4.mono (Below.refl w3.heap.size w3).size); refine (putC1 w2.heap.size r3 (.slice none 0 0) (parA p s 9 ++ putv 12) ([]) w3.heap.size (w3.alloc (.cells #[.slice none 0 0] 22)) (H0.out.2.2.2.2.2.2.2.2 _ ((H2.out.2.1.trans (H3.out.2.2.2.mono H2.out.2.1.size)).trans (B34.mono (Nat.le_trans H2.out.2.1.size H3.out.2.2.2.size)))) (owns_below H3.out.1 B34) ((show Row w3 .u8 (.slice none 0 0) [] from Or.inl ⟨rfl, _, _, rfl⟩).below al4) (fun hx => absurd rfl hx) (Nat.le_trans H3.out.2.2.2.size B34.size) (by have := H0.out.2.2.2.2.2.2.1 9 (by decide); have := putv_le 12 (by decide) (by decide); rw [List.length_append]; omega) (by simp) (laid1 _ _ _)).mono ?_; rintro e w5 ⟨r5, rfl, o5, G5⟩; have k5 := (G5.chg.block wr.heap.size (Nat.lt_of_lt_of_le (Array.getElem?_eq_some_iff.1 H3.out.2.2.1).1 B34.size) (fun e => (H3.out.2.1.loc _ e).elim (fun q => by have := (HK.out.1.own.lt _ q).2; omega) (fun q => by have := (Array.getElem?_eq_some_iff.1 HV.out.2.2.2.1).1; omega))).trans ((B34.block wr.heap.size (Array.getElem?_eq_some_iff.1 H3.out.2.2.1).1).trans H3.out.2.2.1); have c50 : w5.cell? ⟨wr.heap.size, 0, none⟩ = some (.int .i64 12) := (by rw [bk_cell k5]; rfl); have c53 : w5.cell? ⟨wr.heap.size, 3, none⟩ = some (.func (.func 82) #[] #[]) := (by rw [bk_cell k5]; rfl); clear k5; have H5 : Hid _ := And.intro o5 (And.intro G5 B34); clear o5 G5 al4 B34))
        all_goals
          have K1 : Hid (OutK w2 w5 r5 p s 10) := HK.out.1.told (k := 9) (num := 12) (ys := []) (by decide) HV.out.2.2.1 H3.out.2.1 H5.out.2.2 H5.out.2.1 H5.out.1 (by show (if p.m = true then entB 12 [] else []) = _; rw [if_pos (by rw [← ET.out.1])])
          go_wp2_with fail
          go_roundg (13 - (9 + 1))
          case measure => omega
          case rel => exact ⟨10, by omega, rfl, by go_num, K1.out⟩
    · obtain ⟨cs, ⟨hz, hc⟩, hE⟩ := H2.out.1.e10
      obtain ⟨b, rfl, g0, u0, m0, g1, u1, m1, g2, u2, m2⟩ := hE
      have h0 := (HK.out.1.bel.cell (p := ⟨b, 0, none⟩) m0).trans g0
      have l0 := Nat.lt_of_lt_of_le m0 HK.out.1.bel.size
      have h1 := (HK.out.1.bel.cell (p := ⟨b + 1, 0, none⟩) m1).trans g1
      have l1 := Nat.lt_of_lt_of_le m1 HK.out.1.bel.size
      have h2 := (HK.out.1.bel.cell (p := ⟨b + 2, 0, none⟩) m2).trans g2
      have l2 := Nat.lt_of_lt_of_le m2 HK.out.1.bel.size
      have ht : T < w2.heap.size := H2.out.1.lt.2
      have t0 : wr.cell? ⟨T, 50, none⟩ = some (.int .i64 14) := (HK.out.1.bel.cell (p := ⟨T, 50, none⟩) ht).trans (hc 0 (by decide))
      have t1 : wr.cell? ⟨T, 51, none⟩ = some (.func (.func 73) #[] #[.pointer (some ⟨b, 0, none⟩), .pointer (some ⟨(b + 1), 0, none⟩), .pointer (some ⟨(b + 2), 0, none⟩)]) := (HK.out.1.bel.cell (p := ⟨T, 51, none⟩) ht).trans (hc 1 (by decide))
      have t2 : wr.cell? ⟨T, 52, none⟩ = some (.func (.func 74) #[] #[]) := (HK.out.1.bel.cell (p := ⟨T, 52, none⟩) ht).trans (hc 2 (by decide))
      have t3 : wr.cell? ⟨T, 53, none⟩ = some (.func (.func 75) #[] #[.pointer (some ⟨b, 0, none⟩)]) := (HK.out.1.bel.cell (p := ⟨T, 53, none⟩) ht).trans (hc 3 (by decide))
      have t4 : wr.cell? ⟨T, 54, none⟩ = some (.func (.func 76) #[] #[.pointer (some ⟨b, 0, none⟩)]) := (HK.out.1.bel.cell (p := ⟨T, 54, none⟩) ht).trans (hc 4 (by decide))
      have cx : wr.cell? ⟨w.heap.size, 7, none⟩ = some (.int .i64 p.a7) := by rw [bk_cell HK.out.2.2]; rfl
      have lx : w.heap.size < wr.heap.size := (Array.getElem?_eq_some_iff.1 HK.out.2.2).1
      have B1 : ∀ o, Below wr.heap.size wr (wr.alloc o) := fun o => (Below.refl _ _).alloc (Nat.le_refl _) o
      have CT := alwaysC (wr.alloc (.cells #[.int .i64 14, .func (.func 73) #[] #[.pointer (some ⟨b, 0, none⟩), .pointer (some ⟨(b + 1), 0, none⟩), .pointer (some ⟨(b + 2), 0, none⟩)], .func (.func 74) #[] #[], .func (.func 75) #[] #[.pointer (some ⟨b, 0, none⟩)], .func (.func 76) #[] #[.pointer (some ⟨b, 0, none⟩)]] 78))
      have BA : Below wr.heap.size wr ((wr.alloc (.cells #[.int .i64 14, .func (.func 73) #[] #[.pointer (some ⟨b, 0, none⟩), .pointer (some ⟨(b + 1), 0, none⟩), .pointer (some ⟨(b + 2), 0, none⟩)], .func (.func 74) #[] #[], .func (.func 75) #[] #[.pointer (some ⟨b, 0, none⟩)], .func (.func 76) #[] #[.pointer (some ⟨b, 0, none⟩)]] 78)).drew.alloc (.cells #[.int .i64 14] 3)) := (below_drewN (B1 _) 1).alloc (by show wr.heap.size ≤ (wr.alloc _).heap.size; simp) _
      have C3 := putN1 w2.heap.size u6 (parA p s 10) 14 (wr.heap.size + 1) ((wr.alloc (.cells #[.int .i64 14, .func (.func 73) #[] #[.pointer (some ⟨b, 0, none⟩), .pointer (some ⟨(b + 1), 0, none⟩), .pointer (some ⟨(b + 2), 0, none⟩)], .func (.func 74) #[] #[], .func (.func 75) #[] #[.pointer (some ⟨b, 0, none⟩)], .func (.func 76) #[] #[.pointer (some ⟨b, 0, none⟩)]] 78)).drew.alloc (.cells #[.int .i64 14] 3)) (H0.out.2.2.2.2.2.2.2.2 _ (HK.out.2.1.trans (BA.mono HK.out.2.1.size))) (owns_below HK.out.1.own BA) (Nat.le_trans HK.out.1.bel.size BA.size) (by have := H0.out.2.2.2.2.2.2.1 10 (by decide); omega) (by decide) (by decide) (cell_new (t := 3) (newAt1 _ _ _ (by show (wr.alloc _).heap.size = _; simp)))
      have gB : ((wr.alloc (.cells #[.int .i64 14, .func (.func 73) #[] #[.pointer (some ⟨b, 0, none⟩), .pointer (some ⟨(b + 1), 0, none⟩), .pointer (some ⟨(b + 2), 0, none⟩)], .func (.func 74) #[] #[], .func (.func 75) #[] #[.pointer (some ⟨b, 0, none⟩)], .func (.func 76) #[] #[.pointer (some ⟨b, 0, none⟩)]] 78)).drew.alloc (.cells #[.int .i64 14] 3)).heap[wr.heap.size]? = some (.cells #[.int .i64 14, .func (.func 73) #[] #[.pointer (some ⟨b, 0, none⟩), .pointer (some ⟨(b + 1), 0, none⟩), .pointer (some ⟨(b + 2), 0, none⟩)], .func (.func 74) #[] #[], .func (.func 75) #[] #[.pointer (some ⟨b, 0, none⟩)], .func (.func 76) #[] #[.pointer (some ⟨b, 0, none⟩)]] 78) := (Below.heap_alloc _ _ _ (by show wr.heap.size < (wr.alloc _).heap.size; simp)).trans (heap_alloc_new wr (.cells #[.int .i64 14, .func (.func 73) #[] #[.pointer (some ⟨b, 0, none⟩), .pointer (some ⟨(b + 1), 0, none⟩), .pointer (some ⟨(b + 2), 0, none⟩)], .func (.func 74) #[] #[], .func (.func 75) #[] #[.pointer (some ⟨b, 0, none⟩)], .func (.func 76) #[] #[.pointer (some ⟨b, 0, none⟩)]] 78))
      have HV : Hid _ := And.intro CT (And.intro C3 (And.intro BA (And.intro gB (And.intro h0 (And.intro l0 (And.intro m0 (And.intro cx lx)))))))
      clear CT C3 BA gB hc hz B1 cx h0 u0 l0 g0 m0 h1 u1 l1 g1 m1 h2 u2 l2 g2 m2
      go_wp2_with (go_at_call 74; refine HV.out.1.mono ?_; rintro e w3 ⟨rfl, hw⟩; subst w3)
      have tok1 : True := trivial
      have tok2 : True := trivial
      have cA0 : (wr.alloc (.cells #[.int .i64 14, .func (.func 73) #[] #[.pointer (some ⟨b, 0, none⟩), .pointer (some ⟨(b + 1), 0, none⟩), .pointer (some ⟨(b + 2), 0, none⟩)], .func (.func 74) #[] #[], .func (.func 75) #[] #[.pointer (some ⟨b, 0, none⟩)], .func (.func 76) #[] #[.pointer (some ⟨b, 0, none⟩)]] 78)).cell? ⟨wr.heap.size, 0, none⟩ = some (.int .i64 14) := by rw [bk_cell (heap_alloc_new wr (.cells #[.int .i64 14, .func (.func 73) #[] #[.pointer (some ⟨b, 0, none⟩), .pointer (some ⟨(b + 1), 0, none⟩), .pointer (some ⟨(b + 2), 0, none⟩)], .func (.func 74) #[] #[], .func (.func 75) #[] #[.pointer (some ⟨b, 0, none⟩)], .func (.func 76) #[] #[.pointer (some ⟨b, 0, none⟩)]] 78))]; rfl
      have cA3 : (wr.alloc (.cells #[.int .i64 14, .func (.func 73) #[] #[.pointer (some ⟨b, 0, none⟩), .pointer (some ⟨(b + 1), 0, none⟩), .pointer (some ⟨(b + 2), 0, none⟩)], .func (.func 74) #[] #[], .func (.func 75) #[] #[.pointer (some ⟨b, 0, none⟩)], .func (.func 76) #[] #[.pointer (some ⟨b, 0, none⟩)]] 78)).cell? ⟨wr.heap.size, 3, none⟩ = some (.func (.func 75) #[] #[.pointer (some ⟨b, 0, none⟩)]) := by rw [bk_cell (heap_alloc_new wr (.cells #[.int .i64 14, .func (.func 73) #[] #[.pointer (some ⟨b, 0, none⟩), .pointer (some ⟨(b + 1), 0, none⟩), .pointer (some ⟨(b + 2), 0, none⟩)], .func (.func 74) #[] #[], .func (.func 75) #[] #[.pointer (some ⟨b, 0, none⟩)], .func (.func 76) #[] #[.pointer (some ⟨b, 0, none⟩)]] 78))]; rfl
      go_upto_region 8 with fail
      go_region_held3 (fun w' => w'.cell? ⟨wr.heap.size, 0, none⟩ = some (.int .i64 14) ∧ w'.cell? ⟨wr.heap.size, 3, none⟩ = some (.func (.func 75) #[] #[.pointer (some ⟨b, 0, none⟩)])) (go_keep)
        (first
        | (go_at_call 50; have _t := tok1; refine HV.out.2.1.mono ?_; rintro e w3 ⟨r3, rfl, o3, G3⟩; have k3 := G3.chg.block wr.heap.size (Array.getElem?_eq_some_iff.1 HV.out.2.2.2.1).1 (fun e => by have := (HK.out.1.own.lt _ e).2; omega); have c30 : w3.cell? ⟨wr.heap.size, 0, none⟩ = some (.int .i64 14) := (by rw [bk_cell (k3.trans HV.out.2.2.2.1)]; rfl); have c33 : w3.cell? ⟨wr.heap.size, 3, none⟩ = some (.func (.func 75) #[] #[.pointer (some ⟨b, 0, none⟩)]) := (by rw [bk_cell (k3.trans HV.out.2.2.2.1)]; rfl); have H3 : Hid _ := And.intro o3 (And.intro G3 (And.intro (k3.trans HV.out.2.2.2.1) ((HK.out.1.bel.trans (HV.out.2.2.1.mono HK.out.1.bel.size)).trans (G3.below (owns_below HK.out.1.own HV.out.2.2.1) (Nat.le_trans HK.out.1.bel.size HV.out.2.2.1.size))))); clear o3 G3 k3 tok1)
        | (go_at_call 75; have _t := tok2; have kb : w3.cell? ⟨b, 0, none⟩ = wr.cell? ⟨b, 0, none⟩ := keep_cell H3.out.2.1 HV.out.2.2.1 HK.out.1.own HV.out.2.2.2.2.2.2.1 HV.out.2.2.2.2.2.1; have kg : w3.cell? ⟨w.heap.size, 7, none⟩ = wr.cell? ⟨w.heap.size, 7, none⟩ := keep_cell H3.out.2.1 HV.out.2.2.1 HK.out.1.own (by omega) lx; refine (numVal b w.heap.size 7 p.a7 w3 (H0.out.2.2.2.2.2.2.2.2 _ (H2.out.2.1.trans (H3.out.2.2.2.mono H2.out.2.1.size))) (by have := HQ.out.2.2.2.2.2.2.2.1; omega) (by have := HQ.out.2.2.2.2.2.2.2.1; omega) (kb.trans HV.out.2.2.2.2.1) (kg.trans HV.out.2.2.2.2.2.2.2.1)).mono ?_; rintro e w4 ⟨r4, rfl, o4, b4⟩; obtain ⟨a4, q4, er⟩ := (row_of_owns o4).form; subst er; have c40 : w4.cell? ⟨wr.heap.size, 0, none⟩ = some (.int .i64 14) := (by rw [bk_cell ((b4.block wr.heap.size (Array.getElem?_eq_some_iff.1 H3.out.2.2.1).1).trans H3.out.2.2.1)]; rfl); have c43 : w4.cell? ⟨wr.heap.size, 3, none⟩ = some (.func (.func 75) #[] #[.pointer (some ⟨b, 0, none⟩)]) := (by rw [bk_cell ((b4.block wr.heap.size (Array.getElem?_eq_some_iff.1 H3.out.2.2.1).1).trans H3.out.2.2.1)]; rfl); have H4 : Hid _ := And.intro b4 (And.intro (row_of_owns o4) (fun (hx : (putv p.a7) ≠ []) k (e : Value.ownBlock _ = some k) => (o4.lt k e).1)); clear o4 b4 kb kg tok2)
        | (go_at_call 29; have al4 : Below w4.heap.size w4 (w4.alloc (.cells #[.slice a4 (putv p.a7).length q4] 22)) := (Below.refl _ _).alloc (Nat.le_refl _) _; have B34 : Below w3.heap.size w3 (w4.alloc (.cells #[.slice a4 (putv p.a7).length q4] 22)) := H4.out.1.trans (al4.mono H4.out.1.size); refine (putC1 w2.heap.size r3 (.slice a4 (putv p.a7).length q4) (parA p s 10 ++ putv 14) (putv p.a7) w4.heap.size (w4.alloc (.cells #[.slice a4 (putv p.a7).length q4] 22)) (H0.out.2.2.2.2.2.2.2.2 _ ((H2.out.2.1.trans (H3.out.2.2.2.mono H2.out.2.1.size)).trans (B34.mono (Nat.le_trans H2.out.2.1.size H3.out.2.2.2.size)))) (owns_below H3.out.1 B34) (H4.out.2.1.below al4) (fun hx k h h2 => by have := H4.out.2.2 hx k h; have := (H3.out.1.lt k h2).2; omega) (Nat.le_trans H3.out.2.2.2.size B34.size) (by have := H0.out.2.2.2.2.2.2.1 10 (by decide); have := putv_le 14 (by decide) (by decide); rw [List.length_append]; omega) (by have := putv_le p.a7 (by have := HQ.out.2.2.2.2.2.2.2.1; omega) (by have := HQ.out.2.2.2.2.2.2.2.1; omega); omega) (laid1 _ _ _)).mono ?_; rintro e w5 ⟨r5, rfl, o5, G5⟩; have k5 := (G5.chg.block wr.heap.size (Nat.lt_of_lt_of_le (Array.getElem?_eq_some_iff.1 H3.out.2.2.1).1 B34.size) (fun e => (H3.out.2.1.loc _ e).elim (fun q => by have := (HK.out.1.own.lt _ q).2; omega) (fun q => by have := (Array.getElem?_eq_some_iff.1 HV.out.2.2.2.1).1; omega))).trans ((B34.block wr.heap.size (Array.getElem?_eq_some_iff.1 H3.out.2.2.1).1).trans H3.out.2.2.1); have c50 : w5.cell? ⟨wr.heap.size, 0, none⟩ = some (.int .i64 14) := (by rw [bk_cell k5]; rfl); have c53 : w5.cell? ⟨wr.heap.size, 3, none⟩ = some (.func (.func 75) #[] #[.pointer (some ⟨b, 0, none⟩)]) := (by rw [bk_cell k5]; rfl); clear k5; have H5 : Hid _ := And.intro o5 (And.intro G5 B34); clear o5 G5 al4 B34))
      all_goals
        have K1 : Hid (OutK w2 w5 r5 p s 11) := HK.out.1.told (k := 10) (num := 14) (ys := putv p.a7) (by decide) HV.out.2.2.1 H3.out.2.1 H5.out.2.2 H5.out.2.1 H5.out.1 (rfl)
        go_wp2_with fail
        go_roundg (13 - (10 + 1))
        case measure => omega
        case rel => exact ⟨11, by omega, rfl, by go_num, K1.out⟩
    · obtain ⟨cs, ⟨hz, hc⟩, hE⟩ := H2.out.1.e11
      obtain ⟨b, rfl, g0, u0, m0, g1, u1, m1⟩ := hE
      have h0 := (HK.out.1.bel.cell (p := ⟨b, 0, none⟩) m0).trans g0
      have l0 := Nat.lt_of_lt_of_le m0 HK.out.1.bel.size
      have h1 := (HK.out.1.bel.cell (p := ⟨b + 1, 0, none⟩) m1).trans g1
      have l1 := Nat.lt_of_lt_of_le m1 HK.out.1.bel.size
      have ht : T < w2.heap.size := H2.out.1.lt.2
      have t0 : wr.cell? ⟨T, 55, none⟩ = some (.int .i64 15) := (HK.out.1.bel.cell (p := ⟨T, 55, none⟩) ht).trans (hc 0 (by decide))
      have t1 : wr.cell? ⟨T, 56, none⟩ = some (.func (.func 86) #[] #[.pointer (some ⟨(b + 1), 0, none⟩), .pointer (some ⟨b, 0, none⟩)]) := (HK.out.1.bel.cell (p := ⟨T, 56, none⟩) ht).trans (hc 1 (by decide))
      have t2 : wr.cell? ⟨T, 57, none⟩ = some (.func (.func 74) #[] #[]) := (HK.out.1.bel.cell (p := ⟨T, 57, none⟩) ht).trans (hc 2 (by decide))
      have t3 : wr.cell? ⟨T, 58, none⟩ = some (.func (.func 87) #[] #[.pointer (some ⟨b, 0, none⟩)]) := (HK.out.1.bel.cell (p := ⟨T, 58, none⟩) ht).trans (hc 3 (by decide))
      have t4 : wr.cell? ⟨T, 59, none⟩ = some (.func (.func 88) #[] #[.pointer (some ⟨b, 0, none⟩)]) := (HK.out.1.bel.cell (p := ⟨T, 59, none⟩) ht).trans (hc 4 (by decide))
      have cx : wr.cell? ⟨w.heap.size, 12, none⟩ = some (.slice d4 p.f.length p4) := by rw [bk_cell HK.out.2.2]; rfl
      have lx : w.heap.size < wr.heap.size := (Array.getElem?_eq_some_iff.1 HK.out.2.2).1
      have B1 : ∀ o, Below wr.heap.size wr (wr.alloc o) := fun o => (Below.refl _ _).alloc (Nat.le_refl _) o
      have CT := alwaysC (wr.alloc (.cells #[.int .i64 15, .func (.func 86) #[] #[.pointer (some ⟨(b + 1), 0, none⟩), .pointer (some ⟨b, 0, none⟩)], .func (.func 74) #[] #[], .func (.func 87) #[] #[.pointer (some ⟨b, 0, none⟩)], .func (.func 88) #[] #[.pointer (some ⟨b, 0, none⟩)]] 78))
      have BA : Below wr.heap.size wr ((wr.alloc (.cells #[.int .i64 15, .func (.func 86) #[] #[.pointer (some ⟨(b + 1), 0, none⟩), .pointer (some ⟨b, 0, none⟩)], .func (.func 74) #[] #[], .func (.func 87) #[] #[.pointer (some ⟨b, 0, none⟩)], .func (.func 88) #[] #[.pointer (some ⟨b, 0, none⟩)]] 78)).drew.alloc (.cells #[.int .i64 15] 3)) := (below_drewN (B1 _) 1).alloc (by show wr.heap.size ≤ (wr.alloc _).heap.size; simp) _
      have C3 := putN1 w2.heap.size u6 (parA p s 11) 15 (wr.heap.size + 1) ((wr.alloc (.cells #[.int .i64 15, .func (.func 86) #[] #[.pointer (some ⟨(b + 1), 0, none⟩), .pointer (some ⟨b, 0, none⟩)], .func (.func 74) #[] #[], .func (.func 87) #[] #[.pointer (some ⟨b, 0, none⟩)], .func (.func 88) #[] #[.pointer (some ⟨b, 0, none⟩)]] 78)).drew.alloc (.cells #[.int .i64 15] 3)) (H0.out.2.2.2.2.2.2.2.2 _ (HK.out.2.1.trans (BA.mono HK.out.2.1.size))) (owns_below HK.out.1.own BA) (Nat.le_trans HK.out.1.bel.size BA.size) (by have := H0.out.2.2.2.2.2.2.1 11 (by decide); omega) (by decide) (by decide) (cell_new (t := 3) (newAt1 _ _ _ (by show (wr.alloc _).heap.size = _; simp)))
      have gB : ((wr.alloc (.cells #[.int .i64 15, .func (.func 86) #[] #[.pointer (some ⟨(b + 1), 0, none⟩), .pointer (some ⟨b, 0, none⟩)], .func (.func 74) #[] #[], .func (.func 87) #[] #[.pointer (some ⟨b, 0, none⟩)], .func (.func 88) #[] #[.pointer (some ⟨b, 0, none⟩)]] 78)).drew.alloc (.cells #[.int .i64 15] 3)).heap[wr.heap.size]? = some (.cells #[.int .i64 15, .func (.func 86) #[] #[.pointer (some ⟨(b + 1), 0, none⟩), .pointer (some ⟨b, 0, none⟩)], .func (.func 74) #[] #[], .func (.func 87) #[] #[.pointer (some ⟨b, 0, none⟩)], .func (.func 88) #[] #[.pointer (some ⟨b, 0, none⟩)]] 78) := (Below.heap_alloc _ _ _ (by show wr.heap.size < (wr.alloc _).heap.size; simp)).trans (heap_alloc_new wr (.cells #[.int .i64 15, .func (.func 86) #[] #[.pointer (some ⟨(b + 1), 0, none⟩), .pointer (some ⟨b, 0, none⟩)], .func (.func 74) #[] #[], .func (.func 87) #[] #[.pointer (some ⟨b, 0, none⟩)], .func (.func 88) #[] #[.pointer (some ⟨b, 0, none⟩)]] 78))
      have HV : Hid _ := And.intro CT (And.intro C3 (And.intro BA (And.intro gB (And.intro h0 (And.intro l0 (And.intro m0 (And.intro cx lx)))))))
      clear CT C3 BA gB hc hz B1 cx h0 u0 l0 g0 m0 h1 u1 l1 g1 m1
      go_wp2_with (go_at_call 74; refine HV.out.1.mono ?_; rintro e w3 ⟨rfl, hw⟩; subst w3)
      have tok1 : True := trivial
      have tok2 : True := trivial
      have cA0 : (wr.alloc (.cells #[.int .i64 15, .func (.func 86) #[] #[.pointer (some ⟨(b + 1), 0, none⟩), .pointer (some ⟨b, 0, none⟩)], .func (.func 74) #[] #[], .func (.func 87) #[] #[.pointer (some ⟨b, 0, none⟩)], .func (.func 88) #[] #[.pointer (some ⟨b, 0, none⟩)]] 78)).cell? ⟨wr.heap.size, 0, none⟩ = some (.int .i64 15) := by rw [bk_cell (heap_alloc_new wr (.cells #[.int .i64 15, .func (.func 86) #[] #[.pointer (some ⟨(b + 1), 0, none⟩), .pointer (some ⟨b, 0, none⟩)], .func (.func 74) #[] #[], .func (.func 87) #[] #[.pointer (some ⟨b, 0, none⟩)], .func (.func 88) #[] #[.pointer (some ⟨b, 0, none⟩)]] 78))]; rfl
      have cA3 : (wr.alloc (.cells #[.int .i64 15, .func (.func 86) #[] #[.pointer (some ⟨(b + 1), 0, none⟩), .pointer (some ⟨b, 0, none⟩)], .func (.func 74) #[] #[], .func (.func 87) #[] #[.pointer (some ⟨b, 0, none⟩)], .func (.func 88) #[] #[.pointer (some ⟨b, 0, none⟩)]] 78)).cell? ⟨wr.heap.size, 3, none⟩ = some (.func (.func 87) #[] #[.pointer (some ⟨b, 0, none⟩)]) := by rw [bk_cell (heap_alloc_new wr (.cells #[.int .i64 15, .func (.func 86) #[] #[.pointer (some ⟨(b + 1), 0, none⟩), .pointer (some ⟨b, 0, none⟩)], .func (.func 74) #[] #[], .func (.func 87) #[] #[.pointer (some ⟨b, 0, none⟩)], .func (.func 88) #[] #[.pointer (some ⟨b, 0, none⟩)]] 78))]; rfl
      go_upto_region 8 with fail
      go_region_held3 (fun w' => w'.cell? ⟨wr.heap.size, 0, none⟩ = some (.int .i64 15) ∧ w'.cell? ⟨wr.heap.size, 3, none⟩ = some (.func (.func 87) #[] #[.pointer (some ⟨b, 0, none⟩)])) (go_keep)
        (first
        | (go_at_call 50; have _t := tok1; refine HV.out.2.1.mono ?_; rintro e w3 ⟨r3, rfl, o3, G3⟩; have k3 := G3.chg.block wr.heap.size (Array.getElem?_eq_some_iff.1 HV.out.2.2.2.1).1 (fun e => by have := (HK.out.1.own.lt _ e).2; omega); have c30 : w3.cell? ⟨wr.heap.size, 0, none⟩ = some (.int .i64 15) := (by rw [bk_cell (k3.trans HV.out.2.2.2.1)]; rfl); have c33 : w3.cell? ⟨wr.heap.size, 3, none⟩ = some (.func (.func 87) #[] #[.pointer (some ⟨b, 0, none⟩)]) := (by rw [bk_cell (k3.trans HV.out.2.2.2.1)]; rfl); have H3 : Hid _ := And.intro o3 (And.intro G3 (And.intro (k3.trans HV.out.2.2.2.1) ((HK.out.1.bel.trans (HV.out.2.2.1.mono HK.out.1.bel.size)).trans (G3.below (owns_below HK.out.1.own HV.out.2.2.1) (Nat.le_trans HK.out.1.bel.size HV.out.2.2.1.size))))); clear o3 G3 k3 tok1)
        | (go_at_call 87; have _t := tok2; have kb : w3.cell? ⟨b, 0, none⟩ = wr.cell? ⟨b, 0, none⟩ := keep_cell H3.out.2.1 HV.out.2.2.1 HK.out.1.own HV.out.2.2.2.2.2.2.1 HV.out.2.2.2.2.2.1; have kg : w3.cell? ⟨w.heap.size, 12, none⟩ = wr.cell? ⟨w.heap.size, 12, none⟩ := keep_cell H3.out.2.1 HV.out.2.2.1 HK.out.1.own (by omega) lx; refine (lstVal b w.heap.size 12 d4 p.f.length p4 w3 (kb.trans HV.out.2.2.2.2.1) (kg.trans HV.out.2.2.2.2.2.2.2.1)).mono ?_; rintro e w4 ⟨rfl, hw4⟩; subst w4; clear kb kg tok2)
        | (go_at_call 29; have al4 : Below w3.heap.size w3 (w3.alloc (.cells #[.slice d4 p.f.length p4] 22)) := (Below.refl _ _).alloc (Nat.le_refl _) _; have B34 : Below w3.heap.size w3 (w3.alloc (.cells #[.slice d4 p.f.length p4] 22)) := (Below.refl w3.heap.size w3).trans (al4.mono (Below.refl w3.heap.size w3).size); refine (putC1 w2.heap.size r3 (.slice d4 p.f.length p4) (parA p s 11 ++ putv 15) (p.f) w3.heap.size (w3.alloc (.cells #[.slice d4 p.f.length p4] 22)) (H0.out.2.2.2.2.2.2.2.2 _ ((H2.out.2.1.trans (H3.out.2.2.2.mono H2.out.2.1.size)).trans (B34.mono (Nat.le_trans H2.out.2.1.size H3.out.2.2.2.size)))) (owns_below H3.out.1 B34) (((H0.out.2.2.2.2.2.1.below H2.out.2.1).below H3.out.2.2.2).below al4) (fun hx k h h2 => by have := own_of_row H0.out.2.2.2.2.2.1 hx h; have := (H3.out.1.lt k h2).1; omega) (Nat.le_trans H3.out.2.2.2.size B34.size) (by have := H0.out.2.2.2.2.2.2.1 11 (by decide); have := putv_le 15 (by decide) (by decide); rw [List.length_append]; omega) (by have := H0.out.2.2.2.2.2.2.2.1.2.2; omega) (laid1 _ _ _)).mono ?_; rintro e w5 ⟨r5, rfl, o5, G5⟩; have k5 := (G5.chg.block wr.heap.size (Nat.lt_of_lt_of_le (Array.getElem?_eq_some_iff.1 H3.out.2.2.1).1 B34.size) (fun e => (H3.out.2.1.loc _ e).elim (fun q => by have := (HK.out.1.own.lt _ q).2; omega) (fun q => by have := (Array.getElem?_eq_some_iff.1 HV.out.2.2.2.1).1; omega))).trans ((B34.block wr.heap.size (Array.getElem?_eq_some_iff.1 H3.out.2.2.1).1).trans H3.out.2.2.1); have c50 : w5.cell? ⟨wr.heap.size, 0, none⟩ = some (.int .i64 15) := (by rw [bk_cell k5]; rfl); have c53 : w5.cell? ⟨wr.heap.size, 3, none⟩ = some (.func (.func 87) #[] #[.pointer (some ⟨b, 0, none⟩)]) := (by rw [bk_cell k5]; rfl); clear k5; have H5 : Hid _ := And.intro o5 (And.intro G5 B34); clear o5 G5 al4 B34))
      all_goals
        have K1 : Hid (OutK w2 w5 r5 p s 12) := HK.out.1.told (k := 11) (num := 15) (ys := p.f) (by decide) HV.out.2.2.1 H3.out.2.1 H5.out.2.2 H5.out.2.1 H5.out.1 (rfl)
        go_wp2_with fail
        go_roundg (13 - (11 + 1))
        case measure => omega
        case rel => exact ⟨12, by omega, rfl, by go_num, K1.out⟩
    · obtain ⟨cs, ⟨hz, hc⟩, hE⟩ := H2.out.1.e12
      obtain ⟨b, rfl, g0, u0, m0, g1, u1, m1, g2, u2, m2⟩ := hE
      have h0 := (HK.out.1.bel.cell (p := ⟨b, 0, none⟩) m0).trans g0
      have l0 := Nat.lt_of_lt_of_le m0 HK.out.1.bel.size
      have h1 := (HK.out.1.bel.cell (p := ⟨b + 1, 0, none⟩) m1).trans g1
      have l1 := Nat.lt_of_lt_of_le m1 HK.out.1.bel.size
      have h2 := (HK.out.1.bel.cell (p := ⟨b + 2, 0, none⟩) m2).trans g2
      have l2 := Nat.lt_of_lt_of_le m2 HK.out.1.bel.size
      have ht : T < w2.heap.size := H2.out.1.lt.2
      have t0 : wr.cell? ⟨T, 60, none⟩ = some (.int .i64 32) := (HK.out.1.bel.cell (p := ⟨T, 60, none⟩) ht).trans (hc 0 (by decide))
      have t1 : wr.cell? ⟨T, 61, none⟩ = some (.func (.func 73) #[] #[.pointer (some ⟨b, 0, none⟩), .pointer (some ⟨(b + 1), 0, none⟩), .pointer (some ⟨(b + 2), 0, none⟩)]) := (HK.out.1.bel.cell (p := ⟨T, 61, none⟩) ht).trans (hc 1 (by decide))
      have t2 : wr.cell? ⟨T, 62, none⟩ = some (.func (.func 74) #[] #[]) := (HK.out.1.bel.cell (p := ⟨T, 62, none⟩) ht).trans (hc 2 (by decide))
      have t3 : wr.cell? ⟨T, 63, none⟩ = some (.func (.func 75) #[] #[.pointer (some ⟨b, 0, none⟩)]) := (HK.out.1.bel.cell (p := ⟨T, 63, none⟩) ht).trans (hc 3 (by decide))
      have t4 : wr.cell? ⟨T, 64, none⟩ = some (.func (.func 76) #[] #[.pointer (some ⟨b, 0, none⟩)]) := (HK.out.1.bel.cell (p := ⟨T, 64, none⟩) ht).trans (hc 4 (by decide))
      have cx : wr.cell? ⟨w.heap.size, 8, none⟩ = some (.int .i64 p.a8) := by rw [bk_cell HK.out.2.2]; rfl
      have lx : w.heap.size < wr.heap.size := (Array.getElem?_eq_some_iff.1 HK.out.2.2).1
      have B1 : ∀ o, Below wr.heap.size wr (wr.alloc o) := fun o => (Below.refl _ _).alloc (Nat.le_refl _) o
      have CT := alwaysC (wr.alloc (.cells #[.int .i64 32, .func (.func 73) #[] #[.pointer (some ⟨b, 0, none⟩), .pointer (some ⟨(b + 1), 0, none⟩), .pointer (some ⟨(b + 2), 0, none⟩)], .func (.func 74) #[] #[], .func (.func 75) #[] #[.pointer (some ⟨b, 0, none⟩)], .func (.func 76) #[] #[.pointer (some ⟨b, 0, none⟩)]] 78))
      have BA : Below wr.heap.size wr ((wr.alloc (.cells #[.int .i64 32, .func (.func 73) #[] #[.pointer (some ⟨b, 0, none⟩), .pointer (some ⟨(b + 1), 0, none⟩), .pointer (some ⟨(b + 2), 0, none⟩)], .func (.func 74) #[] #[], .func (.func 75) #[] #[.pointer (some ⟨b, 0, none⟩)], .func (.func 76) #[] #[.pointer (some ⟨b, 0, none⟩)]] 78)).drew.alloc (.cells #[.int .i64 32] 3)) := (below_drewN (B1 _) 1).alloc (by show wr.heap.size ≤ (wr.alloc _).heap.size; simp) _
      have C3 := putN1 w2.heap.size u6 (parA p s 12) 32 (wr.heap.size + 1) ((wr.alloc (.cells #[.int .i64 32, .func (.func 73) #[] #[.pointer (some ⟨b, 0, none⟩), .pointer (some ⟨(b + 1), 0, none⟩), .pointer (some ⟨(b + 2), 0, none⟩)], .func (.func 74) #[] #[], .func (.func 75) #[] #[.pointer (some ⟨b, 0, none⟩)], .func (.func 76) #[] #[.pointer (some ⟨b, 0, none⟩)]] 78)).drew.alloc (.cells #[.int .i64 32] 3)) (H0.out.2.2.2.2.2.2.2.2 _ (HK.out.2.1.trans (BA.mono HK.out.2.1.size))) (owns_below HK.out.1.own BA) (Nat.le_trans HK.out.1.bel.size BA.size) (by have := H0.out.2.2.2.2.2.2.1 12 (by decide); omega) (by decide) (by decide) (cell_new (t := 3) (newAt1 _ _ _ (by show (wr.alloc _).heap.size = _; simp)))
      have gB : ((wr.alloc (.cells #[.int .i64 32, .func (.func 73) #[] #[.pointer (some ⟨b, 0, none⟩), .pointer (some ⟨(b + 1), 0, none⟩), .pointer (some ⟨(b + 2), 0, none⟩)], .func (.func 74) #[] #[], .func (.func 75) #[] #[.pointer (some ⟨b, 0, none⟩)], .func (.func 76) #[] #[.pointer (some ⟨b, 0, none⟩)]] 78)).drew.alloc (.cells #[.int .i64 32] 3)).heap[wr.heap.size]? = some (.cells #[.int .i64 32, .func (.func 73) #[] #[.pointer (some ⟨b, 0, none⟩), .pointer (some ⟨(b + 1), 0, none⟩), .pointer (some ⟨(b + 2), 0, none⟩)], .func (.func 74) #[] #[], .func (.func 75) #[] #[.pointer (some ⟨b, 0, none⟩)], .func (.func 76) #[] #[.pointer (some ⟨b, 0, none⟩)]] 78) := (Below.heap_alloc _ _ _ (by show wr.heap.size < (wr.alloc _).heap.size; simp)).trans (heap_alloc_new wr (.cells #[.int .i64 32, .func (.func 73) #[] #[.pointer (some ⟨b, 0, none⟩), .pointer (some ⟨(b + 1), 0, none⟩), .pointer (some ⟨(b + 2), 0, none⟩)], .func (.func 74) #[] #[], .func (.func 75) #[] #[.pointer (some ⟨b, 0, none⟩)], .func (.func 76) #[] #[.pointer (some ⟨b, 0, none⟩)]] 78))
      have HV : Hid _ := And.intro CT (And.intro C3 (And.intro BA (And.intro gB (And.intro h0 (And.intro l0 (And.intro m0 (And.intro cx lx)))))))
      clear CT C3 BA gB hc hz B1 cx h0 u0 l0 g0 m0 h1 u1 l1 g1 m1 h2 u2 l2 g2 m2
      go_wp2_with (go_at_call 74; refine HV.out.1.mono ?_; rintro e w3 ⟨rfl, hw⟩; subst w3)
      have tok1 : True := trivial
      have tok2 : True := trivial
      have cA0 : (wr.alloc (.cells #[.int .i64 32, .func (.func 73) #[] #[.pointer (some ⟨b, 0, none⟩), .pointer (some ⟨(b + 1), 0, none⟩), .pointer (some ⟨(b + 2), 0, none⟩)], .func (.func 74) #[] #[], .func (.func 75) #[] #[.pointer (some ⟨b, 0, none⟩)], .func (.func 76) #[] #[.pointer (some ⟨b, 0, none⟩)]] 78)).cell? ⟨wr.heap.size, 0, none⟩ = some (.int .i64 32) := by rw [bk_cell (heap_alloc_new wr (.cells #[.int .i64 32, .func (.func 73) #[] #[.pointer (some ⟨b, 0, none⟩), .pointer (some ⟨(b + 1), 0, none⟩), .pointer (some ⟨(b + 2), 0, none⟩)], .func (.func 74) #[] #[], .func (.func 75) #[] #[.pointer (some ⟨b, 0, none⟩)], .func (.func 76) #[] #[.pointer (some ⟨b, 0, none⟩)]] 78))]; rfl
      have cA3 : (wr.alloc (.cells #[.int .i64 32, .func (.func 73) #[] #[.pointer (some ⟨b, 0, none⟩), .pointer (some ⟨(b + 1), 0, none⟩), .pointer (some ⟨(b + 2), 0, none⟩)], .func (.func 74) #[] #[], .func (.func 75) #[] #[.pointer (some ⟨b, 0, none⟩)], .func (.func 76) #[] #[.pointer (some ⟨b, 0, none⟩)]] 78)).cell? ⟨wr.heap.size, 3, none⟩ = some (.func (.func 75) #[] #[.pointer (some ⟨b, 0, none⟩)]) := by rw [bk_cell (heap_alloc_new wr (.cells #[.int .i64 32, .func (.func 73) #[] #[.pointer (some ⟨b, 0, none⟩), .pointer (some ⟨(b + 1), 0, none⟩), .pointer (some ⟨(b + 2), 0, none⟩)], .func (.func 74) #[] #[], .func (.func 75) #[] #[.pointer (some ⟨b, 0, none⟩)], .func (.func 76) #[] #[.pointer (some ⟨b, 0, none⟩)]] 78))]; rfl
      go_upto_region 8 with fail
      go_region_held3 (fun w' => w'.cell? ⟨wr.heap.size, 0, none⟩ = some (.int .i64 32) ∧ w'.cell? ⟨wr.heap.size, 3, none⟩ = some (.func (.func 75) #[] #[.pointer (some ⟨b, 0, none⟩)])) (go_keep)
        (first
        | (go_at_call 50; have _t := tok1; refine HV.out.2.1.mono ?_; rintro e w3 ⟨r3, rfl, o3, G3⟩; have k3 := G3.chg.block wr.heap.size (Array.getElem?_eq_some_iff.1 HV.out.2.2.2.1).1 (fun e => by have := (HK.out.1.own.lt _ e).2; omega); have c30 : w3.cell? ⟨wr.heap.size, 0, none⟩ = some (.int .i64 32) := (by rw [bk_cell (k3.trans HV.out.2.2.2.1)]; rfl); have c33 : w3.cell? ⟨wr.heap.size, 3, none⟩ = some (.func (.func 75) #[] #[.pointer (some ⟨b, 0, none⟩)]) := (by rw [bk_cell (k3.trans HV.out.2.2.2.1)]; rfl); have H3 : Hid _ := And.intro o3 (And.intro G3 (And.intro (k3.trans HV.out.2.2.2.1) ((HK.out.1.bel.trans (HV.out.2.2.1.mono HK.out.1.bel.size)).trans (G3.below (owns_below HK.out.1.own HV.out.2.2.1) (Nat.le_trans HK.out.1.bel.size HV.out.2.2.1.size))))); clear o3 G3 k3 tok1)
        | (go_at_call 75; have _t := tok2; have kb : w3.cell? ⟨b, 0, none⟩ = wr.cell? ⟨b, 0, none⟩ := keep_cell H3.out.2.1 HV.out.2.2.1 HK.out.1.own HV.out.2.2.2.2.2.2.1 HV.out.2.2.2.2.2.1; have kg : w3.cell? ⟨w.heap.size, 8, none⟩ = wr.cell? ⟨w.heap.size, 8, none⟩ := keep_cell H3.out.2.1 HV.out.2.2.1 HK.out.1.own (by omega) lx; refine (numVal b w.heap.size 8 p.a8 w3 (H0.out.2.2.2.2.2.2.2.2 _ (H2.out.2.1.trans (H3.out.2.2.2.mono H2.out.2.1.size))) (by have := HQ.out.2.2.2.2.2.2.2.2; omega) (by have := HQ.out.2.2.2.2.2.2.2.2; omega) (kb.trans HV.out.2.2.2.2.1) (kg.trans HV.out.2.2.2.2.2.2.2.1)).mono ?_; rintro e w4 ⟨r4, rfl, o4, b4⟩; obtain ⟨a4, q4, er⟩ := (row_of_owns o4).form; subst er; have c40 : w4.cell? ⟨wr.heap.size, 0, none⟩ = some (.int .i64 32) := (by rw [bk_cell ((b4.block wr.heap.size (Array.getElem?_eq_some_iff.1 H3.out.2.2.1).1).trans H3.out.2.2.1)]; rfl); have c43 : w4.cell? ⟨wr.heap.size, 3, none⟩ = some (.func (.func 75) #[] #[.pointer (some ⟨b, 0, none⟩)]) := (by rw [bk_cell ((b4.block wr.heap.size (Array.getElem?_eq_some_iff.1 H3.out.2.2.1).1).trans H3.out.2.2.1)]; rfl); have H4 : Hid _ := And.intro b4 (And.intro (row_of_owns o4) (fun (hx : (putv p.a8) ≠ []) k (e : Value.ownBlock _ = some k) => (o4.lt k e).1)); clear o4 b4 kb kg tok2)
        | (go_at_call 29; have al4 : Below w4.heap.size w4 (w4.alloc (.cells #[.slice a4 (putv p.a8).length q4] 22)) := (Below.refl _ _).alloc (Nat.le_refl _) _; have B34 : Below w3.heap.size w3 (w4.alloc (.cells #[.slice a4 (putv p.a8).length q4] 22)) := H4.out.1.trans (al4.mono H4.out.1.size); refine (putC1 w2.heap.size r3 (.slice a4 (putv p.a8).length q4) (parA p s 12 ++ putv 32) (putv p.a8) w4.heap.size (w4.alloc (.cells #[.slice a4 (putv p.a8).length q4] 22)) (H0.out.2.2.2.2.2.2.2.2 _ ((H2.out.2.1.trans (H3.out.2.2.2.mono H2.out.2.1.size)).trans (B34.mono (Nat.le_trans H2.out.2.1.size H3.out.2.2.2.size)))) (owns_below H3.out.1 B34) (H4.out.2.1.below al4) (fun hx k h h2 => by have := H4.out.2.2 hx k h; have := (H3.out.1.lt k h2).2; omega) (Nat.le_trans H3.out.2.2.2.size B34.size) (by have := H0.out.2.2.2.2.2.2.1 12 (by decide); have := putv_le 32 (by decide) (by decide); rw [List.length_append]; omega) (by have := putv_le p.a8 (by have := HQ.out.2.2.2.2.2.2.2.2; omega) (by have := HQ.out.2.2.2.2.2.2.2.2; omega); omega) (laid1 _ _ _)).mono ?_; rintro e w5 ⟨r5, rfl, o5, G5⟩; have k5 := (G5.chg.block wr.heap.size (Nat.lt_of_lt_of_le (Array.getElem?_eq_some_iff.1 H3.out.2.2.1).1 B34.size) (fun e => (H3.out.2.1.loc _ e).elim (fun q => by have := (HK.out.1.own.lt _ q).2; omega) (fun q => by have := (Array.getElem?_eq_some_iff.1 HV.out.2.2.2.1).1; omega))).trans ((B34.block wr.heap.size (Array.getElem?_eq_some_iff.1 H3.out.2.2.1).1).trans H3.out.2.2.1); have c50 : w5.cell? ⟨wr.heap.size, 0, none⟩ = some (.int .i64 32) := (by rw [bk_cell k5]; rfl); have c53 : w5.cell? ⟨wr.heap.size, 3, none⟩ = some (.func (.func 75) #[] #[.pointer (some ⟨b, 0, none⟩)]) := (by rw [bk_cell k5]; rfl); clear k5; have H5 : Hid _ := And.intro o5 (And.intro G5 B34); clear o5 G5 al4 B34))
      all_goals
        have K1 : Hid (OutK w2 w5 r5 p s 13) := HK.out.1.told (k := 12) (num := 32) (ys := putv p.a8) (by decide) HV.out.2.2.1 H3.out.2.1 H5.out.2.2 H5.out.2.1 H5.out.1 (rfl)
        go_wp2_with fail
        go_roundg (13 - (12 + 1))
        case measure => omega
        case rel => exact ⟨13, by omega, rfl, by go_num, K1.out⟩
end Go.Proofs.YtcljchbceeiheaaDoor
