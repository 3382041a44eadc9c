import Derived.Test.YtdommkpeilmdnaaDoorHyE
import Derived.Deep.RegionWith
import Derived.Test.YtdommkpeilmdnaaDoorKeys
import Derived.Test.YtdommkpeilmdnaaDoorBook
import Derived.Test.YtdommkpeilmdnaaDoorMem
import Derived.Test.YtdommkpeilmdnaaDoorShort
import Derived.Test.YtdommkpeilmdnaaDoorAppRow
import Derived.Maps.AppendAt
import Derived.Deep.RegionHeld3
import Derived.Deep.CutRange
import Derived.Test.YtdommkpeilmdnaaDoorGetVarM
import Derived.Test.YtdommkpeilmdnaaDoorRhP
import Derived.Test.YtdommkpeilmdnaaDoorBlocks
namespace Go.Proofs.YtdommkpeilmdnaaDoor
open Go.RowKit
set_option linter.unusedVariables false

end Go.Proofs.YtdommkpeilmdnaaDoor

namespace Go.Proofs.YtdommkpeilmdnaaDoor
open Go.RowKit
set_option linter.unusedVariables false

/-- Parameters: nine numbers, whether it may move, three lists of bytes (Origin, Token, First). -/
structure PP where
  a0 : Int
  a1 : Int
  a2 : Int
  a3 : Int
  a4 : Int
  a5 : Int
  a6 : Int
  a7 : Int
  a8 : Int
  m : Bool
  o : List Int
  t : List Int
  f : List Int
def PP.small (h : PP) (n : Nat) : Prop := h.o.length ≤ n ∧ h.t.length ≤ n ∧ h.f.length ≤ n
def PP.bytes (h : PP) : Prop := Bytes h.o ∧ Bytes h.t ∧ Bytes h.f
def PP.wf (h : PP) : Prop := (Lit.int .i64 h.a0).wf = true ∧ (Lit.int .i64 h.a1).wf = true ∧ (Lit.int .i64 h.a2).wf = true ∧ (Lit.int .i64 h.a3).wf = true ∧ (Lit.int .i64 h.a4).wf = true ∧ (Lit.int .i64 h.a5).wf = true ∧ (Lit.int .i64 h.a6).wf = true ∧ (Lit.int .i64 h.a7).wf = true ∧ (Lit.int .i64 h.a8).wf = true
def PP.total (h : PP) : Int := (h.o.length : Int) + (h.t.length : Int) + (h.f.length : Int)
theorem ppsmall_mono {h : PP} {m n : Nat} (hs : h.small m) (hm : m ≤ n) : h.small n := ⟨Nat.le_trans hs.1 hm, Nat.le_trans hs.2.1 hm, Nat.le_trans hs.2.2 hm⟩
def PPRow (w : World) (v : Value) (h : PP) : Prop :=
  ∃ v2 v3 v4, v = .agg #[.int .i64 h.a0, .int .i64 h.a1, .int .i64 h.a2, .int .i64 h.a3, .int .i64 h.a4, .int .i64 h.a5, .int .i64 h.a6, .int .i64 h.a7, .int .i64 h.a8, .bool h.m, v2, v3, v4] ∧ Row w .u8 v2 h.o ∧ Row w .u8 v3 h.t ∧ Row w .u8 v4 h.f
theorem PPRow.below {w w' : World} {v : Value} {h : PP} (k : PPRow w v h) (hb : Below w.heap.size w w') : PPRow w' v h := by
  obtain ⟨v2, v3, v4, e, h0, h1, h2⟩ := k
  exact ⟨v2, v3, v4, e, h0.below hb, h1.below hb, h2.below hb⟩
/-- The call's own parameters: three rows of its own, no two of them in one block. -/
structure PPOwn (w : World) (base : Nat) (v2 v3 v4 : Value) (h : PP) : Prop where
  o0 : w.ownsRow base 5 1 v2 h.o.length (h.o.map (Value.int .u8))
  o1 : w.ownsRow base 5 1 v3 h.t.length (h.t.map (Value.int .u8))
  o2 : w.ownsRow base 5 1 v4 h.f.length (h.f.map (Value.int .u8))
  a01 : Apart v2 v3
  a02 : Apart v2 v4
  a12 : Apart v3 v4
def PPOwns (w : World) (base : Nat) (v : Value) (h : PP) : Prop := ∃ v2 v3 v4, v = .agg #[.int .i64 h.a0, .int .i64 h.a1, .int .i64 h.a2, .int .i64 h.a3, .int .i64 h.a4, .int .i64 h.a5, .int .i64 h.a6, .int .i64 h.a7, .int .i64 h.a8, .bool h.m, v2, v3, v4] ∧ PPOwn w base v2 v3 v4 h
theorem PPOwns.row {w : World} {base : Nat} {v : Value} {h : PP} (k : PPOwns w base v h) : PPRow w v h := by
  obtain ⟨v2, v3, v4, e, k⟩ := k
  exact ⟨v2, v3, v4, e, row_of_owns k.o0, row_of_owns k.o1, row_of_owns k.o2⟩
theorem PPOwns.below {w w' : World} {base : Nat} {v : Value} {h : PP} (k : PPOwns w base v h) (hb : Below w.heap.size w w') : PPOwns w' base v h := by
  obtain ⟨v2, v3, v4, e, k⟩ := k
  exact ⟨v2, v3, v4, e, owns_below k.o0 hb, owns_below k.o1 hb, owns_below k.o2 hb, k.a01, k.a02, k.a12⟩
theorem PPOwns.mono {w : World} {base base' : Nat} {v : Value} {h : PP} (k : PPOwns w base v h) (hb : base' ≤ base) : PPOwns w base' v h := by
  obtain ⟨v2, v3, v4, e, k⟩ := k
  exact ⟨v2, v3, v4, e, owns_mono k.o0 hb, owns_mono k.o1 hb, owns_mono k.o2 hb, k.a01, k.a02, k.a12⟩
/-- The blocks of parameters. -/
def PPBlk (v : Value) (g : Nat) : Prop := ∃ cs v2 v3 v4, v = .agg cs ∧ cs[10]? = some v2 ∧ cs[11]? = some v3 ∧ cs[12]? = some v4 ∧ (v2.ownBlock = some g ∨ v3.ownBlock = some g ∨ v4.ownBlock = some g)
theorem PPOwns.blk {w : World} {base : Nat} {v : Value} {h : PP} (k : PPOwns w base v h) (g : Nat) (hg : PPBlk v g) : base ≤ g ∧ g < w.heap.size := by
  obtain ⟨v2, v3, v4, e, q⟩ := k
  obtain ⟨cs, u2, u3, u4, e', c2, c3, c4, hb⟩ := hg
  rw [e] at e'
  cases e'
  simp at c2 c3 c4
  subst c2 c3 c4
  rcases hb with hb | hb | hb
  · exact q.o0.lt g hb
  · exact q.o1.lt g hb
  · exact q.o2.lt g hb
theorem Chg.ppowns2 {S : Nat → Prop} {w w' : World} {base : Nat} {v : Value} {h : PP} (c : Chg S w w') (ho : PPOwns w base v h) (hs : ∀ g, PPBlk v g → ¬ S g) : PPOwns w' base v h := by
  obtain ⟨v2, v3, v4, rfl, q⟩ := ho
  exact ⟨v2, v3, v4, rfl, c.owns q.o0 (fun g hg => hs g ⟨_, _, _, _, rfl, rfl, rfl, rfl, Or.inl hg⟩), c.owns q.o1 (fun g hg => hs g ⟨_, _, _, _, rfl, rfl, rfl, rfl, Or.inr (Or.inl hg)⟩), c.owns q.o2 (fun g hg => hs g ⟨_, _, _, _, rfl, rfl, rfl, rfl, Or.inr (Or.inr hg)⟩), q.a01, q.a02, q.a12⟩
/-- Parameters of one's own, their lists written out. -/
theorem PPOwns.parts {w : World} {base : Nat} {v : Value} {h : PP} (k : PPOwns w base v h) : ∃ (a2 a3 a4 : Option Addr) (p2 p3 p4 : Nat), v = .agg #[.int .i64 h.a0, .int .i64 h.a1, .int .i64 h.a2, .int .i64 h.a3, .int .i64 h.a4, .int .i64 h.a5, .int .i64 h.a6, .int .i64 h.a7, .int .i64 h.a8, .bool h.m, .slice a2 h.o.length p2, .slice a3 h.t.length p3, .slice a4 h.f.length p4] := by
  obtain ⟨v2, v3, v4, rfl, q⟩ := k
  obtain ⟨a2, p2, rfl⟩ := (row_of_owns q.o0).form
  obtain ⟨a3, p3, rfl⟩ := (row_of_owns q.o1).form
  obtain ⟨a4, p4, rfl⟩ := (row_of_owns q.o2).form
  exact ⟨a2, a3, a4, p2, p3, p4, rfl⟩
theorem PPRow.parts {w : World} {v : Value} {h : PP} (k : PPRow w v h) : ∃ (a2 a3 a4 : Option Addr) (p2 p3 p4 : Nat), v = .agg #[.int .i64 h.a0, .int .i64 h.a1, .int .i64 h.a2, .int .i64 h.a3, .int .i64 h.a4, .int .i64 h.a5, .int .i64 h.a6, .int .i64 h.a7, .int .i64 h.a8, .bool h.m, .slice a2 h.o.length p2, .slice a3 h.t.length p3, .slice a4 h.f.length p4] ∧ Row w .u8 (.slice a2 h.o.length p2) h.o ∧ Row w .u8 (.slice a3 h.t.length p3) h.t ∧ Row w .u8 (.slice a4 h.f.length p4) h.f := by
  obtain ⟨v2, v3, v4, rfl, q0, q1, q2⟩ := k
  obtain ⟨a2, p2, rfl⟩ := q0.form
  obtain ⟨a3, p3, rfl⟩ := q1.form
  obtain ⟨a4, p4, rfl⟩ := q2.form
  exact ⟨a2, a3, a4, p2, p3, p4, rfl, q0, q1, q2⟩
/-- The parameters with k, k + 1, .. in all the places of their lists. -/
def PP.marked (h : PP) (q : Int) : PP :=
  ⟨h.a0, h.a1, h.a2, h.a3, h.a4, h.a5, h.a6, h.a7, h.a8, h.m, marks q h.o.length, marks (q + (h.o.length : Int)) h.t.length, marks (q + (h.o.length : Int) + (h.t.length : Int)) h.f.length⟩
/-- The thirteen cells of a block of a book. -/
theorem Book.c13 {w : World} {l : List (Nat × Obj)} (h : Book w l) {b : Nat} {x0 x1 x2 x3 x4 x5 x6 x7 x8 x9 x10 x11 x12 : Value} {t : TypeId} (hm : (b, Obj.cells #[x0, x1, x2, x3, x4, x5, x6, x7, x8, x9, x10, x11, x12] t (0, 0)) ∈ l) :
    w.cell? ⟨b, 0, none⟩ = some x0 ∧ w.cell? ⟨b, 1, none⟩ = some x1 ∧ w.cell? ⟨b, 2, none⟩ = some x2 ∧ w.cell? ⟨b, 3, none⟩ = some x3 ∧ w.cell? ⟨b, 4, none⟩ = some x4 ∧ w.cell? ⟨b, 5, none⟩ = some x5 ∧ w.cell? ⟨b, 6, none⟩ = some x6 ∧ w.cell? ⟨b, 7, none⟩ = some x7 ∧ w.cell? ⟨b, 8, none⟩ = some x8 ∧ w.cell? ⟨b, 9, none⟩ = some x9 ∧ w.cell? ⟨b, 10, none⟩ = some x10 ∧ w.cell? ⟨b, 11, none⟩ = some x11 ∧ w.cell? ⟨b, 12, none⟩ = some x12 := by
  have hb := h.blk _ _ hm
  refine ⟨?_, ?_, ?_, ?_, ?_, ?_, ?_, ?_, ?_, ?_, ?_, ?_, ?_⟩ <;> simp [World.cell?, hb]
end Go.Proofs.YtdommkpeilmdnaaDoor

namespace Go.Proofs.YtdommkpeilmdnaaDoor
open Go.RowKit
set_option linter.unusedVariables false

theorem infoU8 : (Tryd.prog.info? 5).map (fun i => (i.zero, i.size, i.bytes)) = some (some (.int .u8 0), 1, 1) := by kernel_rfl

/-- The n lowest bytes of v, the highest first. -/
def be (v : Int) : Nat → List Int
  | 0 => []
  | n + 1 => be (v / 256) n ++ [v % 256]

theorem be_length (v : Int) (n : Nat) : (be v n).length = n := by
  induction n generalizing v with
  | zero => rfl
  | succ n ih => simp [be, ih]

theorem digits_nil (v : Int) (w : World) :
    Calls Tryd.prog 51 #[.int .i64 v, .int .i64 0] w fun e w' => ∃ r, e = .returned r ∧ w'.ownsRow w.heap.size 5 1 r 0 ([].map (Value.int .u8)) ∧ Below w.heap.size w w' := by
  go_enter Tryd.func51, Tryd.ntmps51
  go_wp2
  go_ret
  refine ⟨_, rfl, ?_, (Below.refl _ _).alloc (Nat.le_refl _) _⟩
  exact World.ownsRow_lit w #[] 0 (Nat.le_refl _) (by decide) rfl

set_option maxHeartbeats 400000 in
theorem digits (n : Nat) : ∀ (v : Int) (w : World), 0 ≤ v → v ≤ 9223372036854775807 → n ≤ 8 →
    Calls Tryd.prog 51 #[.int .i64 v, .int .i64 n] w fun e w' => ∃ r, e = .returned r ∧ w'.ownsRow w.heap.size 5 1 r n ((be v n).map (Value.int .u8)) ∧ Below w.heap.size w w' := by
  induction n with
  | zero => intro v w _ _ _; exact digits_nil v w
  | succ n ih =>
    intro v w h0 h1 hn
    obtain ⟨i0, hi, hz0, hz1, hz2⟩ := info_parts infoU8
    have hne : (((n : Int) + 1) == 0) = false := by simp; omega
    have IH : ∀ w : World, Calls Tryd.prog 51 #[.int .i64 (v / 256), .int .i64 n] w fun e w' => ∃ r, e = .returned r ∧ w'.ownsRow w.heap.size 5 1 r n ((be (v / 256) n).map (Value.int .u8)) ∧ Below w.heap.size w w' :=
      fun w => ih (v / 256) w (by omega) (by omega) (by omega)
    clear ih
    have e1 : (((n + 1 : Nat) : Int)) = (n : Int) + 1 := by omega
    rw [e1]
    clear e1
    go_enter Tryd.func51, Tryd.ntmps51
    go_wp2_with (first
      | (go_at_call 51; refine (IH _).mono ?_; rintro e w1 ⟨r, rfl, hown, hb⟩)
      | (at_builtin; refine wpList_append_own _ rfl _ _ 22 rfl w.heap.size 5 i0 (.int .u8 0) 1 1 Tryd.underlying22 hi hz0 hz1 hz2 rfl (by decide) _ _ _ rfl (hown.alloc _) ⟨w1.heap.size, 0, none⟩ 1 1 [.int .u8 (v % 256)] rfl rfl ?c1 ?c2 ?c3 ?c4 ?c5 ?_))
    case c1 =>
      intro j u hj
      match j, hj with
      | 0, hj => simp at hj; subst hj; simp [Addr.add]
    case c2 => intro u hu; simp at hu; subst hu; rfl
    case c3 => unfold maxLen; omega
    case c4 => omega
    case c5 => have := hb.size; simp; omega
    intro v' w2 hown' hgrow _
    go_wp2
    go_ret
    refine ⟨v', rfl, ?_, ?_⟩
    · have : (be (v / 256) n).map (Value.int .u8) ++ [Value.int .u8 (v % 256)] = (be v (n + 1)).map (Value.int .u8) := by simp [be]
      rw [← this]
      exact hown'
    · refine (hb.alloc hb.size _).grown hgrow (by have := hb.size; simp; omega) ?_
      intro k hk
      exact (hown.lt k hk).1
end Go.Proofs.YtdommkpeilmdnaaDoor

namespace Go.Proofs.YtdommkpeilmdnaaDoor
open Go.RowKit
set_option linter.unusedVariables false

theorem be_at (v : Int) (n i : Nat) (h : i < n) : (be v n).getD i 0 = v / 256 ^ (n - 1 - i) % 256 := by
  induction n generalizing v with
  | zero => omega
  | succ n ih =>
    unfold be
    by_cases hi : i < n
    · have e := ih (v / 256) hi
      have hl : i < (be (v / 256) n).length := by rw [be_length]; exact hi
      simp only [List.getD, List.getElem?_append_left hl] at e ⊢
      rw [e, Int.ediv_ediv_of_nonneg (by omega)]
      congr 2
      have : n + 1 - 1 - i = (n - 1 - i) + 1 := by omega
      rw [this, Int.pow_succ, Int.mul_comm]
    · obtain rfl : i = n := by omega
      simp [List.getD, be_length]

theorem pow256 (v : Int) (m : Nat) : v / 256 ^ m % 256 = v / 2 ^ (8 * m) % 256 := by
  rw [Int.pow_mul]; rfl

set_option maxHeartbeats 400000 in
theorem high (v : Int) (n : Nat) (w : World) (h0 : 0 ≤ v) (h1 : v ≤ 9223372036854775807) (hn : n ≤ 8) :
    Calls Tryd.prog 48 #[.int .u64 v, .int .i64 n] w fun e w' => ∃ r, e = .returned r ∧ w'.ownsRow w.heap.size 5 1 r n ((be v n).map (Value.int .u8)) ∧ Below w.heap.size w w' := by
  obtain ⟨i0, hi, hz0, hz1, hz2⟩ := info_parts infoU8
  go_enter Tryd.func48, Tryd.ntmps48
  go_wp2_with (at_make; refine wpList_make_full _ rfl _ _ 22 rfl w.heap.size 5 i0 (.int .u8 0) 1 Tryd.underlying22 hi hz0 hz1 .i64 .i64 (n : Int) (n : Int) n rfl rfl rfl rfl (by rw [hz2]; omega) (by unfold maxLen; omega) (Nat.le_refl _) ?_; intro w1 hown hg)
  go_loopw [10] (fun i wr => ∃ k : Nat, k ≤ n ∧ i = .int .i64 k ∧ ∃ zs : List Int, zs.length = n ∧ (∀ j, j < k → zs.getD j 0 = (be v n).getD j 0) ∧
      wr.ownsRow w.heap.size 5 1 (.slice (some ⟨w.heap.size, 0, none⟩) n n) n (zs.map (Value.int .u8)) ∧ Below w.heap.size w wr) (fun i _ => n - (intOf i).toNat)
  case atStart =>
    exact ⟨0, Nat.zero_le _, rfl, List.replicate n 0, by simp, fun j h => by omega, made_zero hown, (Below.refl _ _).grown hg (Nat.le_refl _) (by intro k hk; cases hk)⟩
  case round =>
    obtain ⟨k, hk, rfl, zs, hl, hm, hown', hb⟩ := hrel
    by_cases hlt : k < n
    · have R := fill_step (x := v / 2 ^ (8 * (n - 1 - k)) % 256) (f := fun j => (be v n).getD j 0) (by rw [be_at v n k hlt, pow256]) hl hlt hm hown' hb (Nat.le_refl _)
      have f1 := hown'.frozenAt k
      have c1 := owns_cell hown' hl hlt
      generalize zs.getD k 0 = u at c1
      clear hl hm hown' hb hown hg
      obtain ⟨ys, R⟩ := R
      have HR : Hid _ := R
      clear R
      go_wp2
      go_roundw
      case rel =>
        obtain ⟨r1, r2, r3, r4⟩ := HR.out
        exact ⟨k + 1, by omega, by go_num, ys, r1, r2, r3, r4⟩
      case measure => simp [intOf]; omega
    · have HR : Hid _ := And.intro hl (And.intro hm (And.intro hown' hb))
      clear hl hm hown' hb hown hg
      go_wp2
      go_ret
      obtain rfl : k = n := by omega
      obtain ⟨r1, r2, r3, r4⟩ := HR.out
      obtain rfl : zs = be v k := list_eq_of_getD r1 (be_length v k) r2
      exact ⟨_, rfl, r3, r4⟩
end Go.Proofs.YtdommkpeilmdnaaDoor

namespace Go.Proofs.YtdommkpeilmdnaaDoor
open Go.RowKit
set_option linter.unusedVariables false

theorem or_fin : ∀ x : Fin 64, bits .or .u8 (x.val : Int) 0 = (x.val : Int) ∧ bits .or .u8 (x.val : Int) 64 = (x.val : Int) + 64 ∧ bits .or .u8 (x.val : Int) 128 = (x.val : Int) + 128 ∧ bits .or .u8 (x.val : Int) 192 = (x.val : Int) + 192 := by decide +kernel
theorem or_add (x c : Int) (h0 : 0 ≤ x) (h1 : x < 64) (hc : c = 0 ∨ c = 64 ∨ c = 128 ∨ c = 192) : bits .or .u8 x c = x + c := by
  have := or_fin ⟨x.toNat, by omega⟩
  have e : ((x.toNat : Nat) : Int) = x := by omega
  simp only [e] at this
  obtain ⟨a, b, d, f⟩ := this
  rcases hc with rfl | rfl | rfl | rfl
  · rw [a]; simp
  · exact b
  · exact d
  · exact f

/-- The shortest form of v, byte for byte. -/
def putv (v : Int) : List Int := (be v (vsize v).toNat).set 0 ((be v (vsize v).toNat).getD 0 0 + 64 * sform v)

/-- What the last store does. -/
theorem put_store {w w1 : World} {v c x : Int} {n g cap : Nat} (hn : 0 < n) (hx : x = (be v n).getD 0 0) (hown : w1.ownsRow w.heap.size 5 1 (.slice (some ⟨g, 0, none⟩) n cap) n ((be v n).map (Value.int .u8))) (hb : Below w.heap.size w w1)
    (hg : w.heap.size ≤ g) (y : Int) (hy : y = x + c) :
    (w1.setCell ⟨g, 0, none⟩ (.int .u8 y)).ownsRow w.heap.size 5 1 (.slice (some ⟨g, 0, none⟩) n cap) n (((be v n).set 0 ((be v n).getD 0 0 + c)).map (Value.int .u8)) ∧ Below w.heap.size w (w1.setCell ⟨g, 0, none⟩ (.int .u8 y)) := by
  subst hy
  have := (hown.stored 0 (.int .u8 (x + c))).1
  rw [← List.map_set] at this
  rw [← hx]
  exact ⟨this, hb.setCell hg _⟩

theorem head_1 (v : Int) (h0 : 0 ≤ v) (h1 : v ≤ 63) : 0 ≤ (be v 1).getD 0 0 ∧ (be v 1).getD 0 0 < 64 := by
  rw [be_at v 1 0 (by decide)]
  omega
theorem putv_1 (v : Int) (h0 : 0 ≤ v) (h1 : v ≤ 63) : vsize v = 1 ∧ sform v = 0 ∧ sok v = true := by
  refine ⟨?_, ?_, ?_⟩
  · unfold vsize; rw [if_neg (by omega), if_pos (by omega)]
  · unfold sform vform; rw [if_pos (by omega), if_pos (by omega)]
  · unfold sok; simp; omega
set_option maxHeartbeats 400000 in
theorem implPutVar_1 (v : Int) (w : World) (ht : Tab w) (h0 : 0 ≤ v) (h1 : v ≤ 63) :
    Calls Tryd.prog 36 #[.int .i64 v] w fun e w' => ∃ r, e = .returned (.tuple #[r, .int .i64 0]) ∧ w'.ownsRow w.heap.size 5 1 r 1 (((be v 1).set 0 ((be v 1).getD 0 0 + 0)).map (Value.int .u8)) ∧ Below w.heap.size w w' := by
  have hp := putv_1 v h0 h1
  have c : Calls Tryd.prog 47 #[.int .i64 v] w fun e w' => e = .returned (.tuple #[.int .i64 0, .bool true]) ∧ w' = w := by
    have := short_any v (by omega) w ht
    rwa [hp.2.1, hp.2.2] at this
  have d := length_0 w ht.c0
  have hh : ∀ w : World, Calls Tryd.prog 48 #[.int .u64 v, .int .i64 1] w fun e w' => ∃ r, e = .returned r ∧ w'.ownsRow w.heap.size 5 1 r 1 ((be v 1).map (Value.int .u8)) ∧ Below w.heap.size w w' :=
    fun w => high v 1 w (by omega) (by omega) (by decide)
  have hhd := head_1 v h0 h1
  clear ht hp
  go_enter Tryd.func36, Tryd.ntmps36
  go_wp2_with (first
    | (go_at_call 47; refine c.mono ?_; rintro e w' ⟨rfl, rfl⟩)
    | (go_at_call 49; refine d.mono ?_; rintro e w' ⟨rfl, rfl⟩)
    | (go_at_call 48; refine (hh _).mono ?_; rintro e w1 ⟨r, rfl, hown, hb⟩; obtain ⟨g, cap, rfl, hg, hgl⟩ := owns_shape hown (by decide); have c0 := owns_cell hown (be_length _ _) (by decide : 0 < 1); have f0 := hown.frozenAt 0; obtain ⟨x, hx⟩ : ∃ x, x = (be v 1).getD 0 0 := ⟨_, rfl⟩; rw [← hx] at c0 hhd; have HX : Hid (x = (be v 1).getD 0 0) := hx; clear hx))
  go_ret2
  have R := put_store (c := 0) (by decide) HX.out hown hb hg _ (or_add x 0 hhd.1 hhd.2 (by decide))
  exact ⟨_, rfl, R.1, R.2⟩

theorem head_2 (v : Int) (h0 : 64 ≤ v) (h1 : v ≤ 16383) : 0 ≤ (be v 2).getD 0 0 ∧ (be v 2).getD 0 0 < 64 := by
  rw [be_at v 2 0 (by decide)]
  omega
theorem putv_2 (v : Int) (h0 : 64 ≤ v) (h1 : v ≤ 16383) : vsize v = 2 ∧ sform v = 1 ∧ sok v = true := by
  refine ⟨?_, ?_, ?_⟩
  · unfold vsize; rw [if_neg (by omega), if_neg (by omega), if_pos (by omega)]
  · unfold sform vform; rw [if_pos (by omega), if_neg (by omega), if_pos (by omega)]
  · unfold sok; simp; omega
set_option maxHeartbeats 400000 in
theorem implPutVar_2 (v : Int) (w : World) (ht : Tab w) (h0 : 64 ≤ v) (h1 : v ≤ 16383) :
    Calls Tryd.prog 36 #[.int .i64 v] w fun e w' => ∃ r, e = .returned (.tuple #[r, .int .i64 0]) ∧ w'.ownsRow w.heap.size 5 1 r 2 (((be v 2).set 0 ((be v 2).getD 0 0 + 64)).map (Value.int .u8)) ∧ Below w.heap.size w w' := by
  have hp := putv_2 v h0 h1
  have c : Calls Tryd.prog 47 #[.int .i64 v] w fun e w' => e = .returned (.tuple #[.int .i64 1, .bool true]) ∧ w' = w := by
    have := short_any v (by omega) w ht
    rwa [hp.2.1, hp.2.2] at this
  have d := length_1 w ht.c1
  have hh : ∀ w : World, Calls Tryd.prog 48 #[.int .u64 v, .int .i64 2] w fun e w' => ∃ r, e = .returned r ∧ w'.ownsRow w.heap.size 5 1 r 2 ((be v 2).map (Value.int .u8)) ∧ Below w.heap.size w w' :=
    fun w => high v 2 w (by omega) (by omega) (by decide)
  have hhd := head_2 v h0 h1
  clear ht hp
  go_enter Tryd.func36, Tryd.ntmps36
  go_wp2_with (first
    | (go_at_call 47; refine c.mono ?_; rintro e w' ⟨rfl, rfl⟩)
    | (go_at_call 49; refine d.mono ?_; rintro e w' ⟨rfl, rfl⟩)
    | (go_at_call 48; refine (hh _).mono ?_; rintro e w1 ⟨r, rfl, hown, hb⟩; obtain ⟨g, cap, rfl, hg, hgl⟩ := owns_shape hown (by decide); have c0 := owns_cell hown (be_length _ _) (by decide : 0 < 2); have f0 := hown.frozenAt 0; obtain ⟨x, hx⟩ : ∃ x, x = (be v 2).getD 0 0 := ⟨_, rfl⟩; rw [← hx] at c0 hhd; have HX : Hid (x = (be v 2).getD 0 0) := hx; clear hx))
  go_ret2
  have R := put_store (c := 64) (by decide) HX.out hown hb hg _ (or_add x 64 hhd.1 hhd.2 (by decide))
  exact ⟨_, rfl, R.1, R.2⟩

theorem head_4 (v : Int) (h0 : 16384 ≤ v) (h1 : v ≤ 1073741823) : 0 ≤ (be v 4).getD 0 0 ∧ (be v 4).getD 0 0 < 64 := by
  rw [be_at v 4 0 (by decide)]
  omega
theorem putv_4 (v : Int) (h0 : 16384 ≤ v) (h1 : v ≤ 1073741823) : vsize v = 4 ∧ sform v = 2 ∧ sok v = true := by
  refine ⟨?_, ?_, ?_⟩
  · unfold vsize; rw [if_neg (by omega), if_neg (by omega), if_neg (by omega), if_pos (by omega)]
  · unfold sform vform; rw [if_pos (by omega), if_neg (by omega), if_neg (by omega), if_pos (by omega)]
  · unfold sok; simp; omega
set_option maxHeartbeats 400000 in
theorem implPutVar_4 (v : Int) (w : World) (ht : Tab w) (h0 : 16384 ≤ v) (h1 : v ≤ 1073741823) :
    Calls Tryd.prog 36 #[.int .i64 v] w fun e w' => ∃ r, e = .returned (.tuple #[r, .int .i64 0]) ∧ w'.ownsRow w.heap.size 5 1 r 4 (((be v 4).set 0 ((be v 4).getD 0 0 + 128)).map (Value.int .u8)) ∧ Below w.heap.size w w' := by
  have hp := putv_4 v h0 h1
  have c : Calls Tryd.prog 47 #[.int .i64 v] w fun e w' => e = .returned (.tuple #[.int .i64 2, .bool true]) ∧ w' = w := by
    have := short_any v (by omega) w ht
    rwa [hp.2.1, hp.2.2] at this
  have d := length_2 w ht.c2
  have hh : ∀ w : World, Calls Tryd.prog 48 #[.int .u64 v, .int .i64 4] w fun e w' => ∃ r, e = .returned r ∧ w'.ownsRow w.heap.size 5 1 r 4 ((be v 4).map (Value.int .u8)) ∧ Below w.heap.size w w' :=
    fun w => high v 4 w (by omega) (by omega) (by decide)
  have hhd := head_4 v h0 h1
  clear ht hp
  go_enter Tryd.func36, Tryd.ntmps36
  go_wp2_with (first
    | (go_at_call 47; refine c.mono ?_; rintro e w' ⟨rfl, rfl⟩)
    | (go_at_call 49; refine d.mono ?_; rintro e w' ⟨rfl, rfl⟩)
    | (go_at_call 48; refine (hh _).mono ?_; rintro e w1 ⟨r, rfl, hown, hb⟩; obtain ⟨g, cap, rfl, hg, hgl⟩ := owns_shape hown (by decide); have c0 := owns_cell hown (be_length _ _) (by decide : 0 < 4); have f0 := hown.frozenAt 0; obtain ⟨x, hx⟩ : ∃ x, x = (be v 4).getD 0 0 := ⟨_, rfl⟩; rw [← hx] at c0 hhd; have HX : Hid (x = (be v 4).getD 0 0) := hx; clear hx))
  go_ret2
  have R := put_store (c := 128) (by decide) HX.out hown hb hg _ (or_add x 128 hhd.1 hhd.2 (by decide))
  exact ⟨_, rfl, R.1, R.2⟩

theorem head_8 (v : Int) (h0 : 1073741824 ≤ v) (h1 : v ≤ 4611686018427387903) : 0 ≤ (be v 8).getD 0 0 ∧ (be v 8).getD 0 0 < 64 := by
  rw [be_at v 8 0 (by decide)]
  omega
theorem putv_8 (v : Int) (h0 : 1073741824 ≤ v) (h1 : v ≤ 4611686018427387903) : vsize v = 8 ∧ sform v = 3 ∧ sok v = true := by
  refine ⟨?_, ?_, ?_⟩
  · unfold vsize; rw [if_neg (by omega), if_neg (by omega), if_neg (by omega), if_neg (by omega), if_pos (by omega)]
  · unfold sform vform; rw [if_pos (by omega), if_neg (by omega), if_neg (by omega), if_neg (by omega)]
  · unfold sok; simp; omega
set_option maxHeartbeats 400000 in
theorem implPutVar_8 (v : Int) (w : World) (ht : Tab w) (h0 : 1073741824 ≤ v) (h1 : v ≤ 4611686018427387903) :
    Calls Tryd.prog 36 #[.int .i64 v] w fun e w' => ∃ r, e = .returned (.tuple #[r, .int .i64 0]) ∧ w'.ownsRow w.heap.size 5 1 r 8 (((be v 8).set 0 ((be v 8).getD 0 0 + 192)).map (Value.int .u8)) ∧ Below w.heap.size w w' := by
  have hp := putv_8 v h0 h1
  have c : Calls Tryd.prog 47 #[.int .i64 v] w fun e w' => e = .returned (.tuple #[.int .i64 3, .bool true]) ∧ w' = w := by
    have := short_any v (by omega) w ht
    rwa [hp.2.1, hp.2.2] at this
  have d := length_3 w ht.c3
  have hh : ∀ w : World, Calls Tryd.prog 48 #[.int .u64 v, .int .i64 8] w fun e w' => ∃ r, e = .returned r ∧ w'.ownsRow w.heap.size 5 1 r 8 ((be v 8).map (Value.int .u8)) ∧ Below w.heap.size w w' :=
    fun w => high v 8 w (by omega) (by omega) (by decide)
  have hhd := head_8 v h0 h1
  clear ht hp
  go_enter Tryd.func36, Tryd.ntmps36
  go_wp2_with (first
    | (go_at_call 47; refine c.mono ?_; rintro e w' ⟨rfl, rfl⟩)
    | (go_at_call 49; refine d.mono ?_; rintro e w' ⟨rfl, rfl⟩)
    | (go_at_call 48; refine (hh _).mono ?_; rintro e w1 ⟨r, rfl, hown, hb⟩; obtain ⟨g, cap, rfl, hg, hgl⟩ := owns_shape hown (by decide); have c0 := owns_cell hown (be_length _ _) (by decide : 0 < 8); have f0 := hown.frozenAt 0; obtain ⟨x, hx⟩ : ∃ x, x = (be v 8).getD 0 0 := ⟨_, rfl⟩; rw [← hx] at c0 hhd; have HX : Hid (x = (be v 8).getD 0 0) := hx; clear hx))
  go_ret2
  have R := put_store (c := 192) (by decide) HX.out hown hb hg _ (or_add x 192 hhd.1 hhd.2 (by decide))
  exact ⟨_, rfl, R.1, R.2⟩

/-- What PutVar of the program answers to a number that has a form. -/
theorem implPutVar (v : Int) (w : World) (ht : Tab w) (h0 : 0 ≤ v) (h1 : v ≤ 4611686018427387903) :
    Calls Tryd.prog 36 #[.int .i64 v] w fun e w' => ∃ r, e = .returned (.tuple #[r, .int .i64 0]) ∧ w'.ownsRow w.heap.size 5 1 r (vsize v).toNat ((putv v).map (Value.int .u8)) ∧ Below w.heap.size w w' := by
  unfold putv
  by_cases a : v ≤ 63
  · have := putv_1 v h0 a
    rw [this.1, this.2.1]
    exact implPutVar_1 v w ht h0 a
  · by_cases b : v ≤ 16383
    · have := putv_2 v (by omega) b
      rw [this.1, this.2.1]
      exact implPutVar_2 v w ht (by omega) b
    · by_cases c : v ≤ 1073741823
      · have := putv_4 v (by omega) c
        rw [this.1, this.2.1]
        exact implPutVar_4 v w ht (by omega) c
      · have := putv_8 v (by omega) h1
        rw [this.1, this.2.1]
        exact implPutVar_8 v w ht (by omega) h1

theorem implPutVar_no (v : Int) (w : World) (ht : Tab w) (h : v < 0 ∨ 4611686018427387903 < v) :
    Calls Tryd.prog 36 #[.int .i64 v] w fun e w' => e = .returned (.tuple #[.slice none 0 0, .int .i64 1]) ∧ w' = w := by
  have c : Calls Tryd.prog 47 #[.int .i64 v] w fun e w' => e = .returned (.tuple #[.int .i64 0, .bool false]) ∧ w' = w := by
    by_cases h0 : v < 0
    · exact short_neg v h0 w
    · have := short_any v (by omega) w ht
      have e1 : sform v = 0 := by unfold sform; rw [if_neg (by omega)]
      have e2 : sok v = false := by unfold sok; simp; omega
      rwa [e1, e2] at this
  clear ht h
  go_enter Tryd.func36, Tryd.ntmps36
  go_wp2_with (go_at_call 47; refine c.mono ?_; rintro e w' ⟨rfl, rfl⟩)
  go_ret2
  exact ⟨rfl, rfl⟩
end Go.Proofs.YtdommkpeilmdnaaDoor

namespace Go.Proofs.YtdommkpeilmdnaaDoor
open Go.RowKit
set_option linter.unusedVariables false

set_option maxHeartbeats 400000 in
theorem specPutVar_1 (v : Int) (w : World) (h0 : 0 ≤ v) (h1 : v ≤ 63) :
    Calls Tryd.prog 39 #[.int .i64 v] w fun e w' => ∃ r, e = .returned (.tuple #[r, .int .i64 0]) ∧ w'.ownsRow w.heap.size 5 1 r 1 (((be v 1).set 0 ((be v 1).getD 0 0 + 0)).map (Value.int .u8)) ∧ Below w.heap.size w w' := by
  have c : Calls Tryd.prog 50 #[.int .i64 v] w fun e w' => e = .returned (.int .i64 1) ∧ w' = w := by
    have := specVarLen v w
    rwa [(putv_1 v h0 h1).1] at this
  have hh : ∀ w : World, Calls Tryd.prog 51 #[.int .i64 v, .int .i64 1] w fun e w' => ∃ r, e = .returned r ∧ w'.ownsRow w.heap.size 5 1 r 1 ((be v 1).map (Value.int .u8)) ∧ Below w.heap.size w w' :=
    fun w => digits 1 v w (by omega) (by omega) (by decide)
  have hhd := head_1 v h0 h1
  go_enter Tryd.func39, Tryd.ntmps39
  go_wp2_with (first
    | (go_at_call 50; refine c.mono ?_; rintro e w' ⟨rfl, rfl⟩)
    | (go_at_call 51; refine (hh _).mono ?_; rintro e w1 ⟨r, rfl, hown, hb⟩; obtain ⟨g, cap, rfl, hg, hgl⟩ := owns_shape hown (by decide); have c0 := owns_cell hown (be_length _ _) (by decide : 0 < 1); have f0 := hown.frozenAt 0; obtain ⟨x, hx⟩ : ∃ x, x = (be v 1).getD 0 0 := ⟨_, rfl⟩; rw [← hx] at c0 hhd; have HX : Hid (x = (be v 1).getD 0 0) := hx; clear hx))
  refine wp_loop_rounds 1 ?_
  rw [rounds_succ]
  go_wp2
  go_ret2
  have R := put_store (c := 0) (by decide) HX.out hown hb hg (x + 0) rfl
  exact ⟨_, rfl, by simpa using R.1, by simpa using R.2⟩

set_option maxHeartbeats 400000 in
theorem specPutVar_2 (v : Int) (w : World) (h0 : 64 ≤ v) (h1 : v ≤ 16383) :
    Calls Tryd.prog 39 #[.int .i64 v] w fun e w' => ∃ r, e = .returned (.tuple #[r, .int .i64 0]) ∧ w'.ownsRow w.heap.size 5 1 r 2 (((be v 2).set 0 ((be v 2).getD 0 0 + 64)).map (Value.int .u8)) ∧ Below w.heap.size w w' := by
  have c : Calls Tryd.prog 50 #[.int .i64 v] w fun e w' => e = .returned (.int .i64 2) ∧ w' = w := by
    have := specVarLen v w
    rwa [(putv_2 v h0 h1).1] at this
  have hh : ∀ w : World, Calls Tryd.prog 51 #[.int .i64 v, .int .i64 2] w fun e w' => ∃ r, e = .returned r ∧ w'.ownsRow w.heap.size 5 1 r 2 ((be v 2).map (Value.int .u8)) ∧ Below w.heap.size w w' :=
    fun w => digits 2 v w (by omega) (by omega) (by decide)
  have hhd := head_2 v h0 h1
  go_enter Tryd.func39, Tryd.ntmps39
  go_wp2_with (first
    | (go_at_call 50; refine c.mono ?_; rintro e w' ⟨rfl, rfl⟩)
    | (go_at_call 51; refine (hh _).mono ?_; rintro e w1 ⟨r, rfl, hown, hb⟩; obtain ⟨g, cap, rfl, hg, hgl⟩ := owns_shape hown (by decide); have c0 := owns_cell hown (be_length _ _) (by decide : 0 < 2); have f0 := hown.frozenAt 0; obtain ⟨x, hx⟩ : ∃ x, x = (be v 2).getD 0 0 := ⟨_, rfl⟩; rw [← hx] at c0 hhd; have HX : Hid (x = (be v 2).getD 0 0) := hx; clear hx))
  refine wp_loop_rounds 2 ?_
  rw [rounds_succ]
  go_wp2
  rw [rounds_succ]
  go_wp2
  go_ret2
  have R := put_store (c := 64) (by decide) HX.out hown hb hg (x + 64) rfl
  exact ⟨_, rfl, R.1, R.2⟩

set_option maxHeartbeats 400000 in
theorem specPutVar_4 (v : Int) (w : World) (h0 : 16384 ≤ v) (h1 : v ≤ 1073741823) :
    Calls Tryd.prog 39 #[.int .i64 v] w fun e w' => ∃ r, e = .returned (.tuple #[r, .int .i64 0]) ∧ w'.ownsRow w.heap.size 5 1 r 4 (((be v 4).set 0 ((be v 4).getD 0 0 + 128)).map (Value.int .u8)) ∧ Below w.heap.size w w' := by
  have c : Calls Tryd.prog 50 #[.int .i64 v] w fun e w' => e = .returned (.int .i64 4) ∧ w' = w := by
    have := specVarLen v w
    rwa [(putv_4 v h0 h1).1] at this
  have hh : ∀ w : World, Calls Tryd.prog 51 #[.int .i64 v, .int .i64 4] w fun e w' => ∃ r, e = .returned r ∧ w'.ownsRow w.heap.size 5 1 r 4 ((be v 4).map (Value.int .u8)) ∧ Below w.heap.size w w' :=
    fun w => digits 4 v w (by omega) (by omega) (by decide)
  have hhd := head_4 v h0 h1
  go_enter Tryd.func39, Tryd.ntmps39
  go_wp2_with (first
    | (go_at_call 50; refine c.mono ?_; rintro e w' ⟨rfl, rfl⟩)
    | (go_at_call 51; refine (hh _).mono ?_; rintro e w1 ⟨r, rfl, hown, hb⟩; obtain ⟨g, cap, rfl, hg, hgl⟩ := owns_shape hown (by decide); have c0 := owns_cell hown (be_length _ _) (by decide : 0 < 4); have f0 := hown.frozenAt 0; obtain ⟨x, hx⟩ : ∃ x, x = (be v 4).getD 0 0 := ⟨_, rfl⟩; rw [← hx] at c0 hhd; have HX : Hid (x = (be v 4).getD 0 0) := hx; clear hx))
  refine wp_loop_rounds 3 ?_
  rw [rounds_succ]
  go_wp2
  rw [rounds_succ]
  go_wp2
  rw [rounds_succ]
  go_wp2
  go_ret2
  have R := put_store (c := 128) (by decide) HX.out hown hb hg (x + 128) rfl
  exact ⟨_, rfl, R.1, R.2⟩

set_option maxHeartbeats 400000 in
theorem specPutVar_8 (v : Int) (w : World) (h0 : 1073741824 ≤ v) (h1 : v ≤ 4611686018427387903) :
    Calls Tryd.prog 39 #[.int .i64 v] w fun e w' => ∃ r, e = .returned (.tuple #[r, .int .i64 0]) ∧ w'.ownsRow w.heap.size 5 1 r 8 (((be v 8).set 0 ((be v 8).getD 0 0 + 192)).map (Value.int .u8)) ∧ Below w.heap.size w w' := by
  have c : Calls Tryd.prog 50 #[.int .i64 v] w fun e w' => e = .returned (.int .i64 8) ∧ w' = w := by
    have := specVarLen v w
    rwa [(putv_8 v h0 h1).1] at this
  have hh : ∀ w : World, Calls Tryd.prog 51 #[.int .i64 v, .int .i64 8] w fun e w' => ∃ r, e = .returned r ∧ w'.ownsRow w.heap.size 5 1 r 8 ((be v 8).map (Value.int .u8)) ∧ Below w.heap.size w w' :=
    fun w => digits 8 v w (by omega) (by omega) (by decide)
  have hhd := head_8 v h0 h1
  go_enter Tryd.func39, Tryd.ntmps39
  go_wp2_with (first
    | (go_at_call 50; refine c.mono ?_; rintro e w' ⟨rfl, rfl⟩)
    | (go_at_call 51; refine (hh _).mono ?_; rintro e w1 ⟨r, rfl, hown, hb⟩; obtain ⟨g, cap, rfl, hg, hgl⟩ := owns_shape hown (by decide); have c0 := owns_cell hown (be_length _ _) (by decide : 0 < 8); have f0 := hown.frozenAt 0; obtain ⟨x, hx⟩ : ∃ x, x = (be v 8).getD 0 0 := ⟨_, rfl⟩; rw [← hx] at c0 hhd; have HX : Hid (x = (be v 8).getD 0 0) := hx; clear hx))
  refine wp_loop_rounds 4 ?_
  rw [rounds_succ]
  go_wp2
  rw [rounds_succ]
  go_wp2
  rw [rounds_succ]
  go_wp2
  rw [rounds_succ]
  go_wp2
  go_ret2
  have R := put_store (c := 192) (by decide) HX.out hown hb hg (x + 192) rfl
  exact ⟨_, rfl, R.1, R.2⟩

theorem specPutVar (v : Int) (w : World) (h0 : 0 ≤ v) (h1 : v ≤ 4611686018427387903) :
    Calls Tryd.prog 39 #[.int .i64 v] w fun e w' => ∃ r, e = .returned (.tuple #[r, .int .i64 0]) ∧ w'.ownsRow w.heap.size 5 1 r (vsize v).toNat ((putv v).map (Value.int .u8)) ∧ Below w.heap.size w w' := by
  unfold putv
  by_cases a : v ≤ 63
  · have := putv_1 v h0 a
    rw [this.1, this.2.1]
    exact specPutVar_1 v w h0 a
  · by_cases b : v ≤ 16383
    · have := putv_2 v (by omega) b
      rw [this.1, this.2.1]
      exact specPutVar_2 v w (by omega) b
    · by_cases c : v ≤ 1073741823
      · have := putv_4 v (by omega) c
        rw [this.1, this.2.1]
        exact specPutVar_4 v w (by omega) c
      · have := putv_8 v (by omega) h1
        rw [this.1, this.2.1]
        exact specPutVar_8 v w (by omega) h1

theorem specPutVar_no (v : Int) (w : World) (h : v < 0 ∨ 4611686018427387903 < v) :
    Calls Tryd.prog 39 #[.int .i64 v] w fun e w' => ∃ r, e = .returned (.tuple #[r, .int .i64 1]) ∧ w'.ownsRow w.heap.size 5 1 r 0 (([] : List Int).map (Value.int .u8)) ∧ Below w.heap.size w w' := by
  have c : Calls Tryd.prog 50 #[.int .i64 v] w fun e w' => e = .returned (.int .i64 0) ∧ w' = w := by
    have := specVarLen v w
    have e : vsize v = 0 := by
      unfold vsize
      rcases h with h | h
      · rw [if_pos h]
      · rw [if_neg (by omega), if_neg (by omega), if_neg (by omega), if_neg (by omega), if_neg (by omega)]
    rwa [e] at this
  clear h
  go_enter Tryd.func39, Tryd.ntmps39
  go_wp2_with (go_at_call 50; refine c.mono ?_; rintro e w' ⟨rfl, rfl⟩)
  go_ret2
  refine ⟨_, rfl, ?_, (Below.refl _ _).alloc (Nat.le_refl _) _⟩
  exact World.ownsRow_lit _ #[] 0 (Nat.le_refl _) (by decide) rfl
end Go.Proofs.YtdommkpeilmdnaaDoor

namespace Go.Proofs.YtdommkpeilmdnaaDoor
open Go.RowKit
set_option linter.unusedVariables false

/-- A number that a variable integer holds. -/
def okv (v : Int) : Prop := 0 ≤ v ∧ v ≤ 4611686018427387903
theorem vsize_bd (v : Int) (h : okv v) : 1 ≤ (vsize v).toNat ∧ (vsize v).toNat ≤ 8 := by
  obtain ⟨h0, h1⟩ := h
  unfold vsize
  rw [if_neg (by omega)]
  split <;> (try split) <;> (try split) <;> (try split) <;> omega
theorem putv_length (v : Int) : (putv v).length = (vsize v).toNat := by unfold putv; rw [List.length_set, be_length]

/-- The bytes of a list, of its first k numbers. -/
def cat (xs : List Int) (k : Nat) : List Int := putv xs.length ++ (xs.take k).flatMap putv
theorem cat_succ (xs : List Int) (k : Nat) (h : k < xs.length) : cat xs (k + 1) = cat xs k ++ putv (xs.getD k 0) := by
  have e : xs.getD k 0 = xs[k] := by simp [List.getD, h]
  unfold cat
  rw [e, List.take_succ_eq_append_getElem h, List.flatMap_append, List.append_assoc]
  simp
theorem cat_length (xs : List Int) (k : Nat) (hn : okv xs.length) (h : k ≤ xs.length) (hok : ∀ j, j < k → okv (xs.getD j 0)) : (cat xs k).length ≤ 8 * (k + 1) := by
  induction k with
  | zero =>
    unfold cat
    simp only [List.take_zero, List.flatMap_nil, List.append_nil, putv_length]
    have := vsize_bd _ hn
    omega
  | succ k ih =>
    have h1 := ih (by omega) (fun j hj => hok j (by omega))
    have h2 := vsize_bd _ (hok k (by omega))
    rw [cat_succ xs k (by omega), List.length_append, putv_length]
    omega

/-- What one append of the loop does. -/
theorem cat_step {w wr w1 w2 : World} {v v' : Value} {ys zs : List Int} {m : Nat} (hm : zs.length = m) (hown : wr.ownsRow w.heap.size 5 1 v ys.length (ys.map (Value.int .u8))) (hb : Below w.heap.size w wr) (hb1 : Below wr.heap.size wr w1)
    (hown' : w2.ownsRow w.heap.size 5 1 v' (ys.length + m) (ys.map (Value.int .u8) ++ zs.map (Value.int .u8))) (hgrow : w1.grownBy w2 v.ownBlock) :
    w2.ownsRow w.heap.size 5 1 v' (ys ++ zs).length ((ys ++ zs).map (Value.int .u8)) ∧ Below w.heap.size w w2 := by
  refine ⟨by rw [List.length_append, List.map_append, hm]; exact hown', ?_⟩
  refine (hb.trans (hb1.mono hb.size)).grown hgrow (Nat.le_trans hb.size hb1.size) ?_
  intro k hk
  exact (hown.lt k hk).1
theorem one_cells (zs : List Int) (k : IntKind) : ∀ u, u ∈ zs.map (Value.int k) → u.oneCell' = true := by
  intro u hu
  obtain ⟨z, _, rfl⟩ := List.mem_map.1 hu
  rfl
theorem piece_cells {w : World} {base e g m cap : Nat} {zs : List Int} (h : w.ownsRow base e 1 (.slice (some ⟨g, 0, none⟩) m cap) m (zs.map (Value.int .u8))) :
    ∀ (j : Nat) (u : Value), (zs.map (Value.int .u8))[j]? = some u → w.cell? ((⟨g, 0, none⟩ : Addr).add j) = some u := by
  intro j u hj
  have hl : (zs.map (Value.int .u8)).length = m * 1 := h.1
  have hlt : j < m * 1 := by
    rw [← hl]
    exact (List.getElem?_eq_some_iff.1 hj).1
  have := h.cellAt j hlt
  rw [Go.WideShapes.add_plain, Nat.zero_add, this]
  exact hj

end Go.Proofs.YtdommkpeilmdnaaDoor

namespace Go.Proofs.YtdommkpeilmdnaaDoor
open Go.RowKit
set_option linter.unusedVariables false

theorem Row.chg {S : Nat → Prop} {w w' : World} {k : IntKind} {v : Value} {xs : List Int} (h : Row w k v xs) (c : Chg S w w') (hs : xs ≠ [] → ∀ b, v.ownBlock = some b → ¬ S b) : Row w' k v xs := by
  rcases h with h | ⟨b, off, cap, rfl, hlt, hcap, hc⟩
  · exact Or.inl h
  · by_cases hx : xs = []
    · subst hx
      exact Or.inl ⟨rfl, _, _, rfl⟩
    · have e : w'.heap[b]? = w.heap[b]? := c.block b hlt (hs hx b rfl)
      refine Or.inr ⟨b, off, cap, rfl, Nat.lt_of_lt_of_le hlt c.size, hcap, fun j hj => ?_⟩
      rw [← hc j hj]
      simp only [World.cell?, e]
theorem own_of_row {w : World} {k : IntKind} {v : Value} {xs : List Int} (h : Row w k v xs) (hx : xs ≠ []) {b : Nat} (e : v.ownBlock = some b) : b < w.heap.size := by
  rcases h with ⟨rfl, _⟩ | ⟨b', off, cap, rfl, hb, _⟩
  · exact absurd rfl hx
  · have := Option.some.inj e
    simp only at this
    omega
/-- What was put behind v is v': of the old blocks v's own alone has turned, and v' lies there or is new. -/
structure GrW (w w' : World) (v v' : Value) : Prop where
  chg : Chg (fun k => v.ownBlock = some k) w w'
  loc : ∀ k, v'.ownBlock = some k → v.ownBlock = some k ∨ w.heap.size ≤ k
theorem GrW.refl (w : World) (v : Value) : GrW w w v v := ⟨⟨rfl, rfl, rfl, Nat.le_refl _, fun _ _ _ => rfl⟩, fun k h => Or.inl h⟩
theorem GrW.trans {w w1 w2 : World} {v v1 v2 : Value} (h : GrW w w1 v v1) (k : GrW w1 w2 v1 v2) : GrW w w2 v v2 := by
  refine ⟨⟨k.chg.os.trans h.chg.os, k.chg.tape.trans h.chg.tape, k.chg.output.trans h.chg.output, Nat.le_trans h.chg.size k.chg.size, fun i hi hn => ?_⟩, fun i hi => ?_⟩
  · refine (k.chg.block i (Nat.lt_of_lt_of_le hi h.chg.size) (fun e => ?_)).trans (h.chg.block i hi hn)
    rcases h.loc i e with q | q
    · exact hn q
    · omega
  · rcases k.loc i hi with q | q
    · exact h.loc i q
    · exact Or.inr (Nat.le_trans h.chg.size q)
/-- First something below is made, then it goes on. -/
theorem GrW.after {w w1 w2 : World} {v v2 : Value} (b : Below w.heap.size w w1) (k : GrW w1 w2 v v2) : GrW w w2 v v2 :=
  ⟨⟨k.chg.os.trans b.os, k.chg.tape.trans b.tape, k.chg.output.trans b.output, Nat.le_trans b.size k.chg.size, fun i hi hn => (k.chg.block i (Nat.lt_of_lt_of_le hi b.size) hn).trans (b.block i hi)⟩, fun i hi => (k.loc i hi).imp id (fun q => Nat.le_trans b.size q)⟩
theorem GrW.below {w w' : World} {v v' : Value} {base n : Nat} {xs : List Value} (h : GrW w w' v v') (ho : w.ownsRow base 5 1 v n xs) (hb : base ≤ w.heap.size) : Below base w w' :=
  h.chg.below hb (fun k e => (ho.lt k e).1)
/-- 'append(own, row...)', where it lies told. -/
theorem wpList_append_loc {w : World} {ops : Array Oper} {rest : List Oper} {o : Oper} {a : Act} {Q : Exit → Act → World → Prop} (hgd : o.guard = none) (p q : Operand)
    (ho : o.op = .call { callee := .builtin .append, args := #[p, q], argTypes := #[22, 22] })
    (base : Nat) (v : Value) (xs : List Int) (hp : a.eval p = v) (hown : w.ownsRow base 5 1 v xs.length (xs.map (Value.int .u8)))
    (v2 : Value) (ys : List Int) (hq : a.eval q = v2) (hrow : Row w .u8 v2 ys) (h63 : xs.length + ys.length ≤ 140737488355328) (hbase : base ≤ w.heap.size)
    (h : ∀ v' w', w'.ownsRow base 5 1 v' (xs ++ ys).length ((xs ++ ys).map (Value.int .u8)) → GrW w w' v v' → wpList Tryd.prog ops Q rest (a.put o.dst v') w') :
    wpList Tryd.prog ops Q (o :: rest) a w := by
  obtain ⟨i0, hi, hz0, hz1, hz2⟩ := info_parts infoBy
  by_cases h0 : 0 < ys.length
  · obtain ⟨b, off, cap, rfl, hb, hc⟩ := hrow.at h0
    refine wpList_append_own_at w hgd p q 22 ho base 5 i0 (.int .u8 0) 1 1 Tryd.underlying22 hi hz0 hz1 hz2 rfl (by decide) v xs.length (xs.map (Value.int .u8)) hp hown ⟨b, off, none⟩ ys.length cap (ys.map (Value.int .u8)) hq (by simp) ?_ ?_ (by unfold maxLen; omega) (by omega) hbase ?_
    · intro j u hj
      have hj' : j < ys.length := by
        have := (List.getElem?_eq_some_iff.1 hj).1
        rwa [List.length_map] at this
      rw [Go.WideShapes.add_plain, hc j hj']
      rw [List.getElem?_map, List.getElem?_eq_getElem hj'] at hj
      simp only [Option.map_some, Option.some.injEq] at hj
      rw [← hj]
      simp [List.getD, hj']
    · intro u hu
      obtain ⟨z, _, rfl⟩ := List.mem_map.1 hu
      rfl
    · intro v' w' ho' hg _ hl
      refine h v' w' (by rw [List.map_append, List.length_append]; exact ho') ⟨⟨hg.os, hg.tape, hg.output, hg.size, fun k hk hn => hg.block k hk (fun e => hn e.symm)⟩, fun k hk => ?_⟩
      rcases hl with e | e
      · exact Or.inl (e ▸ hk)
      · rw [e] at hk; exact Or.inr (by have := Option.some.inj hk; omega)
  · have hn : ys = [] := List.eq_nil_of_length_eq_zero (by omega)
    subst hn
    obtain ⟨ao, cap, rfl⟩ := hrow.form
    have hrun := run_append_owned_zero (P := Tryd.prog) (w := w) base 22 o.type 5 i0 1 Tryd.underlying22 hi v xs.length (xs.map (Value.int .u8)) ao cap hown
    refine wpList_plain hgd fun K hK => ?_
    unfold Oper.wp
    simp only [List.length_nil] at hq
    simp [execOp, ho, resolve, invoke, builtin, hp, hq, hrun, Result.andThen]
    refine hK _ _ (h v w ?_ (GrW.refl w v))
    simpa using hown

def entB (n : Int) (ys : List Int) : List Int := putv n ++ (putv ys.length ++ ys)
theorem putv_le (v : Int) (h0 : 0 ≤ v) (h1 : v ≤ 4611686018427387903) : (putv v).length ≤ 8 := by rw [putv_length]; exact (vsize_bd v ⟨h0, h1⟩).2
theorem entB_le (n : Int) (ys : List Int) (h0 : 0 ≤ n) (h1 : n ≤ 63) (hy : ys.length ≤ 8) : (entB n ys).length ≤ 24 := by
  have a := putv_le n h0 (by omega)
  have b := putv_le ys.length (by omega) (by omega)
  simp only [entB, List.length_append]
  omega
/-- What the entries say, one by one; empty where one is not told. -/
def parL (p : PP) (s : Bool) : List (List Int) :=
  [if s = true then entB 0 p.o else [], entB 1 (putv p.a0), if 0 < p.t.length then entB 2 p.t else [], entB 3 (putv p.a1), entB 4 (putv p.a2), entB 5 (putv p.a3), entB 8 (putv p.a4), entB 9 (putv p.a5), entB 11 (putv p.a6), if p.m = true then entB 12 [] else [], entB 14 (putv p.a7), entB 15 p.f, entB 32 (putv p.a8)]
def parA (p : PP) (s : Bool) (k : Nat) : List Int := ((parL p s).take k).flatten
def parB (p : PP) (s : Bool) : List Int := (parL p s).flatten
theorem parA_13 (p : PP) (s : Bool) : parA p s 13 = parB p s := by unfold parA parB; rw [List.take_of_length_le (by simp [parL])]
theorem parA_succ (p : PP) (s : Bool) (k : Nat) (h : k < 13) : parA p s (k + 1) = parA p s k ++ (parL p s).getD k [] := by
  unfold parA
  have hk : k < (parL p s).length := by simpa [parL] using h
  rw [List.take_add_one, List.flatten_append]
  simp [List.getD, hk]

theorem nC (base : Nat) (vo : Value) (xs : List Int) (n : Int) (w : World) (ho : w.ownsRow base 5 1 vo xs.length (xs.map (Value.int .u8))) (hb : base ≤ w.heap.size) (hx : xs.length ≤ 1000000) (h0 : 0 ≤ n) (h1 : n ≤ 4611686018427387903) :
    Calls Tryd.prog 17 #[vo, .int .i64 n] w fun e w' => ∃ r, e = .returned r ∧ w'.ownsRow base 5 1 r (xs ++ putv n).length ((xs ++ putv n).map (Value.int .u8)) ∧ GrW w w' vo r := by
  have HH : Hid _ := And.intro ho (And.intro (specPutVar n w h0 h1) (And.intro hb (putv_le n h0 h1)))
  clear ho hb
  go_enter Tryd.func17, Tryd.ntmps17
  go_wp2_with (first
    | (go_at_call 39; refine HH.out.2.1.mono ?_; rintro e w1 ⟨r1, rfl, o1, b1⟩; have H1 : Hid _ := And.intro (row_of_owns o1) b1; clear o1 b1)
    | (at_builtin; refine wpList_append_loc rfl (.tmp 12) (.tmp 13) rfl base _ xs rfl (owns_below HH.out.1 H1.out.2) _ (putv n) rfl H1.out.1 (by have := HH.out.2.2.2; omega) (Nat.le_trans HH.out.2.2.1 H1.out.2.size) ?_; intro q2 w2 o2 g2; have H2 : Hid _ := And.intro o2 (GrW.after H1.out.2 g2); clear o2 g2))
  go_ret
  exact ⟨_, rfl, H2.out.1, H2.out.2⟩
theorem cntC (base : Nat) (vo vv : Value) (xs ys : List Int) (w : World) (ho : w.ownsRow base 5 1 vo xs.length (xs.map (Value.int .u8))) (hv : Row w .u8 vv ys) (ha : ys ≠ [] → ∀ k, vv.ownBlock = some k → vo.ownBlock ≠ some k) (hb : base ≤ w.heap.size) (hx : xs.length ≤ 1000000) (hy : ys.length ≤ 1000000) :
    Calls Tryd.prog 16 #[vo, vv] w fun e w' => ∃ r, e = .returned r ∧ w'.ownsRow base 5 1 r (xs ++ (putv ys.length ++ ys)).length ((xs ++ (putv ys.length ++ ys)).map (Value.int .u8)) ∧ GrW w w' vo r := by
  obtain ⟨ao, cap, rfl⟩ := hv.form
  have C := nC base vo xs ys.length w ho hb hx (by omega) (by omega)
  have HH : Hid _ := And.intro C (And.intro hv (And.intro ha (And.intro hb (And.intro (putv_le ys.length (by omega) (by omega)) (And.intro ho True.intro)))))
  obtain ⟨n, en⟩ : ∃ n, n = ys.length := ⟨_, rfl⟩
  have EN : Hid _ := And.intro en True.intro
  have hny : n ≤ 1000000 := by omega
  rw [← en]
  clear C hv ha hb ho en hy
  go_enter Tryd.func16, Tryd.ntmps16
  go_wp2_with (first
    | (go_at_call 17; rw [EN.out.1]; refine HH.out.1.mono ?_; rintro e w1 ⟨r1, rfl, o1, g1⟩; have H1 : Hid _ := And.intro o1 g1; clear o1 g1)
    | (at_builtin; refine wpList_append_loc rfl (.tmp 8) (.tmp 9) rfl base _ (xs ++ putv ys.length) rfl H1.out.1 _ ys (by rw [← EN.out.1]; rfl) (HH.out.2.1.chg H1.out.2.chg (fun hx k h e => HH.out.2.2.1 hx k h e)) (by have := HH.out.2.2.2.2.1; have := EN.out.1; rw [List.length_append]; omega) (Nat.le_trans HH.out.2.2.2.1 H1.out.2.chg.size) ?_; intro q2 w2 o2 g2; have H2 : Hid _ := And.intro o2 (GrW.trans H1.out.2 g2); clear o2 g2))
  go_ret
  refine ⟨_, rfl, ?_, H2.out.2⟩
  have := H2.out.1
  rw [List.append_assoc, ← EN.out.1] at this
  exact this
theorem own_lt {w : World} {base n : Nat} {v : Value} {xs : List Value} (h : w.ownsRow base 5 1 v n xs) (k : Nat) (e : v.ownBlock = some k) : k < w.heap.size := (h.lt k e).2
end Go.Proofs.YtdommkpeilmdnaaDoor

namespace Go.Proofs.YtdommkpeilmdnaaDoor
open Go.RowKit
set_option linter.unusedVariables false

/-- The bytes of settings. -/
def setB : List SSetting → List Int
  | [] => []
  | x :: r => (putv x.f0 ++ putv x.f1) ++ setB r
theorem setB_app : ∀ A B : List SSetting, setB (A ++ B) = setB A ++ setB B
  | [], B => rfl
  | x :: r, B => by simp only [List.cons_append, setB, setB_app r B, List.append_assoc]
theorem setB_succ (L : List SSetting) (k : Nat) (h : k < L.length) : setB (L.take (k + 1)) = (setB (L.take k) ++ putv (L.getD k default).f0) ++ putv (L.getD k default).f1 := by
  rw [List.take_add_one, List.getElem?_eq_getElem h, setB_app]
  simp [setB, List.getD, List.getElem?_eq_getElem h]
theorem setB_le (L : List SSetting) (h : sdP L) : ∀ k, k ≤ L.length → (setB (L.take k)).length ≤ 16 * k := by
  intro k
  induction k with
  | zero => intro _; simp [setB]
  | succ k ih =>
    intro hk
    have h1 := ih (by omega)
    have h2 := (h k (by omega)).1
    rw [hin_iff, hin_iff] at h2
    have a1 := putv_le (L.getD k default).f0 h2.1.1 h2.1.2
    have a2 := putv_le (L.getD k default).f1 h2.2.1 h2.2.2
    rw [setB_succ L k (by omega), List.length_append, List.length_append]
    omega
/-- The payload of a valid frame, and all its bytes. -/
def plB (f : HF) : List Int := ((if f.k = 7 ∨ f.k = 15 then putv f.a else []) ++ setB f.s) ++ f.d
def hyBy (f : HF) : List Int := putv f.k ++ (putv (plB f).length ++ plB f)
theorem plB_le (f : HF) (h : hyP f.k f.a f.d.length f.s) : (plB f).length ≤ 17000 := by
  obtain ⟨⟨h1, h2⟩, h3, h4⟩ := h
  rw [hin_iff] at h2
  have a1 := putv_le f.a h2.1 h2.2
  have a2 := setB_le f.s h3 f.s.length (Nat.le_refl _)
  rw [List.take_length] at a2
  unfold hyK at h4
  unfold plB
  simp only [List.length_append]
  split <;> (try simp only [List.length_nil]) <;> omega
theorem own_litH (w : World) : (w.alloc (.cells #[] 5)).ownsRow w.heap.size 5 1 (.slice (some ⟨w.heap.size, 0, none⟩) 0 0) ([] : List Int).length (([] : List Int).map (Value.int .u8)) := World.ownsRow_lit _ #[] 0 (Nat.le_refl _) (by decide) rfl
set_option maxRecDepth 20000 in
set_option maxHeartbeats 4000000 in
theorem plS (f : HF) (d s : Value) (w : World) (hd : Row w .u8 d f.d) (h : GRow 2 w s (SSetting.L f.s)) (hp : hyP f.k f.a f.d.length f.s) :
    Calls Tryd.prog 18 #[hV f d s] w fun e w' => ∃ r, e = .returned r ∧ w'.ownsRow w.heap.size 5 1 r (plB f).length ((plB f).map (Value.int .u8)) ∧ Below w.heap.size w w' := by
  have hple := plB_le f hp
  obtain ⟨⟨p1, p2⟩, p3, p4⟩ := hp
  rw [hin_iff] at p1 p2
  have hsl := setB_le f.s p3
  have hro := srow_form h
  have hrd := hd.form
  have A0 : Below (w.heap.size + 1) (w.alloc (.cells #[.int .i64 f.k, .int .i64 f.a, d, s] 26)) ((w.alloc (.cells #[.int .i64 f.k, .int .i64 f.a, d, s] 26)).alloc (.cells #[] 5)) := (Below.refl _ _).alloc (by simp) _
  have O0 := own_litH (w.alloc (.cells #[.int .i64 f.k, .int .i64 f.a, d, s] 26))
  rw [show (w.alloc (.cells #[.int .i64 f.k, .int .i64 f.a, d, s] 26)).heap.size = w.heap.size + 1 by simp] at O0
  have bA : ∀ u, Below (w.heap.size + 1) (w.alloc (.cells #[.int .i64 f.k, .int .i64 f.a, d, s] 26)) u → Below w.heap.size w u := fun u hu => ((Below.refl w.heap.size w).alloc (Nat.le_refl _) _).trans (hu.mono (by omega))
  have DD : ∀ u, Below (w.heap.size + 1) (w.alloc (.cells #[.int .i64 f.k, .int .i64 f.a, d, s] 26)) u → Row u .u8 d f.d := fun u hu => hd.below (bA u hu)
  have SS : ∀ u, Below (w.heap.size + 1) (w.alloc (.cells #[.int .i64 f.k, .int .i64 f.a, d, s] 26)) u → GRow 2 u s (SSetting.L f.s) := fun u hu => h.below (bA u hu)
  obtain ⟨ao, cp, rfl⟩ := hro
  obtain ⟨bo, cd, rfl⟩ := hrd
  obtain ⟨k, a, D, S⟩ := f
  unfold hV
  simp only at *
  obtain ⟨R, eR⟩ : ∃ R, R = plB ⟨k, a, D, S⟩ := ⟨_, rfl⟩
  rw [← eR] at hple ⊢
  unfold plB at eR
  simp only at eR
  obtain ⟨n, en⟩ : ∃ n, n = D.length := ⟨_, rfl⟩
  obtain ⟨m, em⟩ : ∃ m, m = S.length := ⟨_, rfl⟩
  rw [← en, ← em] at A0 O0 bA DD SS p4 ⊢
  have H : Hid _ := And.intro A0 (And.intro O0 (And.intro bA (And.intro DD SS)))
  clear A0 O0 bA DD SS h hd
  by_cases k4 : k = 4
  · subst k4
    have e0 : n = 0 ∧ m ≤ 16 := by unfold hyK at p4; omega
    obtain ⟨hn0, hm16⟩ := e0
    have eD : D = [] := List.eq_nil_of_length_eq_zero (by omega)
    rw [if_neg (by omega), eD, List.append_nil, List.nil_append] at eR
    have HE : Hid _ := And.intro eR (And.intro em (And.intro hsl p3))
    clear eR en em hsl p3 p4 eD p1 hple hn0
    go_enter Tryd.func18, Tryd.ntmps18
    go_wp2_with fail
    go_loopg [3, 4] m (fun q x i wr => ∃ j : Nat, j ≤ m ∧ q = m - j ∧ i = .int .i64 (j : Int) ∧ wr.ownsRow (w.heap.size + 1) 5 1 x (setB (S.take j)).length ((setB (S.take j)).map (Value.int .u8)) ∧ Below (w.heap.size + 1) (w.alloc (.cells #[.int .i64 4, .int .i64 a, .slice bo n cd, .slice ao m cp] 26)) wr)
    case atStart => exact ⟨0, by omega, by omega, rfl, H.out.2.1, H.out.1⟩
    case round =>
      obtain ⟨j, hj, rfl, rfl, ow, bw⟩ := hrel
      obtain ⟨y0, y1, y2, y3⟩ := hb_cells bw
      by_cases hlt : j < m
      · obtain ⟨b, off, rfl, hbl, cc⟩ := srow_at (H.out.2.2.2.2 wr bw) HE.out.2.1 j hlt
        have hv := (HE.out.2.2.2 j (by rw [← HE.out.2.1]; exact hlt)).1
        rw [hin_iff, hin_iff] at hv
        have hsu := setB_succ S j (by rw [← HE.out.2.1]; exact hlt)
        have hle := HE.out.2.2.1 j (by rw [← HE.out.2.1]; omega)
        obtain ⟨x0, ex0⟩ : ∃ x, x = (S.getD j default).f0 := ⟨_, rfl⟩
        obtain ⟨x1, ex1⟩ : ∃ x, x = (S.getD j default).f1 := ⟨_, rfl⟩
        rw [← ex0, ← ex1] at cc hv hsu
        have bd : Below wr.heap.size wr wr.drew := below_drewN (Below.refl _ _) 1
        have bwd := bw.trans (bd.mono (by have := bw.size; simpa using this))
        have hsz : w.heap.size + 1 ≤ wr.heap.size := by have := bw.size; simpa using this
        obtain ⟨z0, z1, z2, z3⟩ := hb_cells bwd
        obtain ⟨c0, c1⟩ := cc wr.drew bd
        have C1 := nC (w.heap.size + 1) _ (setB (S.take j)) x0 wr.drew (owns_below ow bd) hsz (by omega) hv.1.1 hv.1.2
        have HX : Hid _ := And.intro C1 (And.intro hv (And.intro hsu (And.intro hle (And.intro cc (And.intro bwd (putv_le x0 hv.1.1 hv.1.2))))))
        have HB : Hid _ := And.intro bw hsz
        have HO : Hid _ := And.intro ow bd
        have SC : Hid (∀ u, Below (w.heap.size + 1) (w.alloc (.cells #[.int .i64 4, .int .i64 a, .slice bo n cd, .slice (some ⟨b, off, none⟩) m cp] 26)) u → u.cell? ⟨b, off + j * 2, none⟩ = some (.int .i64 x0) ∧ u.cell? ⟨b, off + j * 2 + 1, none⟩ = some (.int .i64 x1)) := fun u hu => by
          obtain ⟨b', off', e', _, cc'⟩ := srow_at (H.out.2.2.2.2 u hu) HE.out.2.1 j hlt
          cases e'
          rw [ex0, ex1]
          exact cc' u (Below.refl _ _)
        clear C1 hv hsu hle cc bwd ow bw ex0 ex1 bd hsz
        have tok1 : Hid True := True.intro
        go_upto_region 8 with fail
        go_region_held3 (fun w' => w'.cell? ⟨w.heap.size, 3, none⟩ = some (.slice (some ⟨b, off, none⟩) m cp) ∧ w'.cell? ⟨b, off + j * 2, none⟩ = some (.int .i64 x0) ∧ w'.cell? ⟨b, off + j * 2 + 1, none⟩ = some (.int .i64 x1)) (go_keep)
          (first
          | (go_at_call 17; have _t := tok1; refine HX.out.1.mono ?_; rintro e w2 ⟨r2, rfl, o2, g2⟩; have b2 := HX.out.2.2.2.2.2.1.trans (g2.below (owns_below HO.out.1 HO.out.2) HB.out.2); have z3' := (hb_cells b2).2.2.2; have c0' := (SC.out w2 b2).1; have c1' := (SC.out w2 b2).2; have H2 : Hid _ := And.intro o2 (And.intro b2 (nC (w.heap.size + 1) _ (setB (S.take j) ++ putv x0) x1 w2 o2 (by have := b2.size; simpa using this) (by rw [List.length_append]; have := HX.out.2.2.2.1; have := HX.out.2.2.2.2.2.2; omega) HX.out.2.1.2.1 HX.out.2.1.2.2)); clear o2 g2 b2 tok1)
          | (go_at_call 17; refine H2.out.2.2.mono ?_; rintro e w3 ⟨r3, rfl, o3, g3⟩; have b3 := H2.out.2.1.trans (g3.below H2.out.1 (by have := H2.out.2.1.size; simpa using this)); have z4' := (hb_cells b3).2.2.2; have c03 := (SC.out w3 b3).1; have c13 := (SC.out w3 b3).2; have H3 : Hid _ := And.intro o3 b3; clear o3 g3 b3))
        all_goals
          go_wp2
          go_roundg (m - (j + 1))
          case measure => omega
          case rel => exact ⟨j + 1, by omega, rfl, by go_num, by rw [HX.out.2.2.1]; exact H3.out.1, H3.out.2⟩
      · obtain rfl : j = m := by omega
        have OW : Hid _ := And.intro ow bw
        clear ow bw
        go_wp2
        go_ret
        have o3 := OW.out.1
        rw [HE.out.2.1, List.take_length, ← HE.out.1] at o3
        exact ⟨_, rfl, owns_mono o3 (by omega), H.out.2.2.1 _ OW.out.2⟩
  have e4 : (k == 4) = false := by simp [k4]
  have O1 := H.out.2.1
  have hz1 : w.heap.size + 1 ≤ ((w.alloc (.cells #[.int .i64 k, .int .i64 a, .slice bo n cd, .slice ao m cp] 26)).alloc (.cells #[] 5)).heap.size := by simp
  by_cases k7 : k = 7
  · subst k7
    have e0 : n = 0 ∧ m = 0 := by unfold hyK at p4; omega
    have eD : D = [] := List.eq_nil_of_length_eq_zero (by omega)
    have eS : S = [] := List.eq_nil_of_length_eq_zero (by omega)
    rw [if_pos (by omega), eD, eS, List.append_nil, show setB [] = [] from rfl, List.append_nil] at eR
    have C1 := nC (w.heap.size + 1) _ [] a _ O1 hz1 (by simp) p2.1 p2.2
    have HX : Hid _ := And.intro C1 (And.intro eR (And.intro O1 hz1))
    clear C1 eR en em hsl p3 p4 eD eS p1 hple e0 O1 hz1
    go_enter Tryd.func18, Tryd.ntmps18
    go_wp2_with fail
    go_at_call 17
    refine HX.out.1.mono ?_
    rintro e w2 ⟨r2, rfl, o2, g2⟩
    have H2 : Hid _ := And.intro o2 (H.out.1.trans (g2.below HX.out.2.2.1 HX.out.2.2.2))
    clear o2 g2
    go_wp2
    go_ret
    have o3 := H2.out.1
    rw [List.nil_append, ← HX.out.2.1] at o3
    exact ⟨_, rfl, owns_mono o3 (by omega), H.out.2.2.1 _ H2.out.2⟩
  have e7 : (k == 7) = false := by simp [k7]
  by_cases k15 : k = 15
  · subst k15
    have e0 : n ≤ 1024 ∧ m = 0 := by unfold hyK at p4; omega
    have eS : S = [] := List.eq_nil_of_length_eq_zero (by omega)
    rw [if_pos (by omega), eS, show setB [] = [] from rfl, List.append_nil] at eR
    have bd : Below ((w.alloc (.cells #[.int .i64 15, .int .i64 a, .slice bo n cd, .slice ao m cp] 26)).alloc (.cells #[] 5)).heap.size ((w.alloc (.cells #[.int .i64 15, .int .i64 a, .slice bo n cd, .slice ao m cp] 26)).alloc (.cells #[] 5)) ((w.alloc (.cells #[.int .i64 15, .int .i64 a, .slice bo n cd, .slice ao m cp] 26)).alloc (.cells #[] 5)).drew := below_drewN (Below.refl _ _) 1
    have C1 := nC (w.heap.size + 1) _ [] a _ (owns_below O1 bd) hz1 (by simp) p2.1 p2.2
    have bD := H.out.1.trans (bd.mono hz1)
    have x1 := (hb_cells bD).2.1
    have x2 := (hb_cells bD).2.2.1
    have HX : Hid _ := And.intro C1 (And.intro eR (And.intro (owns_below O1 bd) (And.intro hz1 (And.intro bD (And.intro en (putv_le a p2.1 p2.2))))))
    have hn24 : n ≤ 1024 := e0.1
    clear C1 eR en em hsl p3 p4 eS p1 hple e0 O1 hz1 bd bD
    have tok1 : Hid True := True.intro
    go_enter Tryd.func18, Tryd.ntmps18
    go_upto_region 12 with fail
    go_region_held3 (fun w' => w'.cell? ⟨w.heap.size, 1, none⟩ = some (.int .i64 a) ∧ w'.cell? ⟨w.heap.size, 2, none⟩ = some (.slice bo n cd)) (go_keep)
      (first
      | (go_at_call 17; have _t := tok1; refine HX.out.1.mono ?_; rintro e w2 ⟨r2, rfl, o2, g2⟩; have b2 := HX.out.2.2.2.2.1.trans (g2.below HX.out.2.2.1 HX.out.2.2.2.1); have z1' := (hb_cells b2).2.1; have z2' := (hb_cells b2).2.2.1; have H2 : Hid _ := And.intro o2 b2; clear o2 g2 b2 tok1)
      | (refine step_append_row rfl _ _ rfl (w.heap.size + 1) _ _ ([] ++ putv a) rfl H2.out.1 (.slice bo n cd) D rfl (H.out.2.2.2.1 _ H2.out.2) (by have := HX.out.2.2.2.2.2.1; have := HX.out.2.2.2.2.2.2; simp; omega) (by have := H2.out.2.size; simpa using this) ?_; intro v9 w9 o9 g9; have b9 := H2.out.2.grown g9 (by have := H2.out.2.size; simpa using this) (fun q e => (H2.out.1.lt q e).1); have z19 := (hb_cells b9).2.1; have z29 := (hb_cells b9).2.2.1; have H9 : Hid _ := And.intro o9 b9; clear o9 g9 b9))
    all_goals
      go_wp2
      go_ret
      refine ⟨_, rfl, ?_, H.out.2.2.1 _ H9.out.2⟩
      have o3 := H9.out.1
      rw [List.nil_append, ← HX.out.2.1] at o3
      rw [show R.length = (putv a).length + D.length by rw [HX.out.2.1, List.length_append]]
      exact owns_mono o3 (by omega)
  have e15 : (k == 15) = false := by simp [k15]
  have e0 : n ≤ 16384 ∧ m = 0 := by unfold hyK at p4; omega
  have eS : S = [] := List.eq_nil_of_length_eq_zero (by omega)
  rw [if_neg (by omega), eS, show setB [] = [] from rfl, List.append_nil, List.nil_append] at eR
  have HX : Hid _ := And.intro eR (And.intro O1 (And.intro hz1 en))
  have hn24 : n ≤ 16384 := e0.1
  clear eR en em hsl p3 p4 eS p1 hple e0 O1 hz1
  go_enter Tryd.func18, Tryd.ntmps18
  go_wp2_with (at_builtin; refine wpList_append_row rfl _ _ rfl (w.heap.size + 1) _ _ [] rfl HX.out.2.1 (.slice bo n cd) D rfl (H.out.2.2.2.1 _ H.out.1) (by have := HX.out.2.2.2; simp; omega) HX.out.2.2.1 ?_; intro v9 w9 o9 g9)
  have b9 := H.out.1.grown g9 HX.out.2.2.1 (fun q e => (HX.out.2.1.lt q e).1)
  have H9 : Hid _ := And.intro o9 b9
  clear o9 g9 b9
  go_ret
  refine ⟨_, rfl, ?_, H.out.2.2.1 _ H9.out.2⟩
  have o3 := H9.out.1
  rw [List.nil_append, ← HX.out.1] at o3
  rw [show R.length = ([] : List Int).length + R.length by simp]
  exact owns_mono (base' := w.heap.size) o3 (by omega)
end Go.Proofs.YtdommkpeilmdnaaDoor

namespace Go.Proofs.YtdommkpeilmdnaaDoor
open Go.RowKit
set_option linter.unusedVariables false

def hbR (f : HF) : List Int × Int := if hyP f.k f.a f.d.length f.s then (hyBy f, 0) else ([], 1)
theorem hyBy_le (f : HF) (h : hyP f.k f.a f.d.length f.s) : (hyBy f).length ≤ 17100 := by
  have h1 := plB_le f h
  have h2 := h.1.1
  rw [hin_iff] at h2
  have a1 := putv_le f.k h2.1 h2.2
  have a2 := putv_le ((plB f).length : Int) (by omega) (by omega)
  unfold hyBy
  simp only [List.length_append]
  omega
set_option maxRecDepth 20000 in
set_option maxHeartbeats 4000000 in
theorem hbyS (f : HF) (d s : Value) (w : World) (hd : Row w .u8 d f.d) (h : GRow 2 w s (SSetting.L f.s)) (hn : f.d.length ≤ 1048576) (hm : f.s.length ≤ 1048576) :
    Calls Tryd.prog 6 #[hV f d s] w fun e w' => ∃ r, e = .returned (.tuple #[r, .int .i64 (hbR f).2]) ∧ w'.ownsRow w.heap.size 5 1 r (hbR f).1.length ((hbR f).1.map (Value.int .u8)) ∧ Below w.heap.size w w' := by
  have bA : ∀ u, Below (w.heap.size + 1) (w.alloc (.cells #[.int .i64 f.k, .int .i64 f.a, d, s] 26)) u → Below w.heap.size w u := fun u hu => ((Below.refl w.heap.size w).alloc (Nat.le_refl _) _).trans (hu.mono (by omega))
  have b0 := bA _ (Below.refl _ _)
  have PL : hyP f.k f.a f.d.length f.s → ∀ u, Below w.heap.size w u → _ := fun hp u hu => plS f d s u (hd.below hu) (h.below hu) hp
  have hro := srow_form h
  have hrd := hd.form
  have CK : ∀ u, Below w.heap.size w u → Calls Tryd.prog 15 #[hV f d s] u fun e w' => e = .returned (.bool (decide (hyP f.k f.a f.d.length f.s))) ∧ Below u.heap.size u w' := fun u hu => by
    obtain ⟨bo, cd, e⟩ := hrd
    unfold hV
    rw [e]
    exact hokS f.k f.a bo f.d.length cd s f.s u (h.below hu) (by omega) (by omega)
  by_cases hp : hyP f.k f.a f.d.length f.s
  · rw [show hbR f = (hyBy f, 0) by unfold hbR; rw [if_pos hp]]
    have hle := plB_le f hp
    have hk := hp.1.1
    rw [hin_iff] at hk
    have PL' := PL hp
    simp only [hp, decide_true] at CK
    have eB : hyBy f = putv f.k ++ (putv (plB f).length ++ plB f) := rfl
    obtain ⟨ao, cp, rfl⟩ := hro
    obtain ⟨bo, cd, rfl⟩ := hrd
    obtain ⟨Q, eQ⟩ : ∃ Q, Q = plB f := ⟨_, rfl⟩
    obtain ⟨B, eB'⟩ : ∃ B, B = hyBy f := ⟨_, rfl⟩
    rw [← eQ, ← eB'] at eB
    rw [← eQ] at hle PL'
    rw [← eB']
    obtain ⟨n, en⟩ : ∃ n, n = f.d.length := ⟨_, rfl⟩
    obtain ⟨m, em⟩ : ∃ m, m = f.s.length := ⟨_, rfl⟩
    rw [← en, ← em] at bA b0 PL' CK ⊢
    have H : Hid _ := And.intro bA (And.intro b0 (And.intro PL' (And.intro CK (And.intro eB (And.intro hle hk)))))
    clear bA b0 PL PL' CK eB hle hk hp hd h hn hm en em eQ eB'
    unfold hV at *
    obtain ⟨k, a, D, S⟩ := f
    simp only at *
    go_enter Tryd.func6, Tryd.ntmps6
    go_wp2_with fail
    go_at_call 15
    refine (H.out.2.2.2.1 _ H.out.2.1).mono ?_
    rintro e w1 ⟨rfl, b1⟩
    have A1 : Below (w.heap.size + 1) (w.alloc (.cells #[.int .i64 k, .int .i64 a, .slice bo n cd, .slice ao m cp] 26)) w1 := by simpa using b1
    have bd : Below w1.heap.size w1 w1.drew := below_drewN (Below.refl _ _) 1
    have hz : w.heap.size + 1 ≤ w1.heap.size := by have := A1.size; simpa using this
    have A1d := A1.trans (bd.mono hz)
    obtain ⟨y0, y1, y2, y3⟩ := hb_cells A1d
    have al : Below w1.heap.size w1 (w1.alloc (.cells #[] 5)).drew := below_drewN ((Below.refl _ _).alloc (Nat.le_refl _) _) 1
    have o0 : (w1.alloc (.cells #[] 5)).drew.ownsRow w1.heap.size 5 1 (.slice (some ⟨w1.heap.size, 0, none⟩) 0 0) ([] : List Int).length (([] : List Int).map (Value.int .u8)) := owns_drewN (own_litH w1) 1
    have C1 := nC w1.heap.size _ [] k _ o0 (by simp) (by simp) H.out.2.2.2.2.2.2.1 H.out.2.2.2.2.2.2.2
    have AL := A1.trans (al.mono hz)
    obtain ⟨q0, q1, q2, q3⟩ := hb_cells AL
    have H1 : Hid _ := And.intro C1 (And.intro o0 (And.intro AL hz))
    clear b1 A1 bd A1d al o0 C1 AL
    go_wp2_with fail
    go_region_held3 (fun w' => w'.cell? ⟨w.heap.size, 0, none⟩ = some (.int .i64 k) ∧ w'.cell? ⟨w.heap.size, 1, none⟩ = some (.int .i64 a) ∧ w'.cell? ⟨w.heap.size, 2, none⟩ = some (.slice bo n cd) ∧ w'.cell? ⟨w.heap.size, 3, none⟩ = some (.slice ao m cp)) (go_keep)
      (first
      | (go_at_call 17; refine H1.out.1.mono ?_; rintro e w2 ⟨r2, rfl, o2, g2⟩; have b2 := H1.out.2.2.1.trans ((g2.below H1.out.2.1 (by simp)).mono H1.out.2.2.2); obtain ⟨z0, z1, z2, z3⟩ := hb_cells b2; have H2 : Hid _ := And.intro o2 (And.intro b2 (show w1.heap.size ≤ w2.heap.size from Nat.le_trans (by simp) g2.chg.size)); clear o2 g2 b2)
      | (go_at_call 18; refine (H.out.2.2.1 w2 (H.out.1 _ H2.out.2.1)).mono ?_; rintro e w3 ⟨r3, rfl, o3, b3⟩; have b3' := H2.out.2.1.trans (b3.mono (Nat.le_trans H1.out.2.2.2 H2.out.2.2)); obtain ⟨t0, t1, t2, t3⟩ := hb_cells b3'; have H3 : Hid _ := And.intro o3 (And.intro (owns_below H2.out.1 b3) (And.intro b3' (Nat.le_trans H2.out.2.2 b3.size))); clear o3 b3 b3')
      | (go_at_call 16; refine (cntC w1.heap.size r2 r3 ([] ++ putv k) Q w3 H3.out.2.1 (row_of_owns H3.out.1) (fun _ i hi hj => by have h1 := (H3.out.1.lt i hi).1; have h2 := (H2.out.1.lt i hj).2; omega) H3.out.2.2.2 (by have := putv_le k H.out.2.2.2.2.2.2.1 H.out.2.2.2.2.2.2.2; simp; omega) (by have := H.out.2.2.2.2.2.1; omega)).mono ?_; rintro e w4 ⟨r4, rfl, o4, g4⟩; have b4 := H3.out.2.2.1.trans ((g4.below H3.out.2.1 H3.out.2.2.2).mono H1.out.2.2.2); obtain ⟨v0, v1, v2, v3⟩ := hb_cells b4; have H5 : Hid _ := And.intro o4 b4; clear o4 g4 b4))
    all_goals
      go_wp2
      (try simp only [Exit.inBlock, Exit.then])
      refine bodyPost_ret (results_tmp2 rfl _ _ _) rfl ?_
      refine ⟨_, rfl, ?_, H.out.1 _ H5.out.2⟩
      have o5 := H5.out.1
      rw [List.nil_append, ← H.out.2.2.2.2.1] at o5
      exact owns_mono (base' := w.heap.size) o5 (by have := H1.out.2.2.2; omega)
  · rw [show hbR f = ([], 1) by unfold hbR; rw [if_neg hp]]
    simp only [hp, decide_false] at CK
    obtain ⟨ao, cp, rfl⟩ := hro
    obtain ⟨bo, cd, rfl⟩ := hrd
    obtain ⟨n, en⟩ : ∃ n, n = f.d.length := ⟨_, rfl⟩
    obtain ⟨m, em⟩ : ∃ m, m = f.s.length := ⟨_, rfl⟩
    rw [← en, ← em] at bA b0 CK ⊢
    have H : Hid _ := And.intro bA (And.intro b0 CK)
    clear bA b0 PL CK hp hd h hn hm en em
    unfold hV at *
    obtain ⟨k, a, D, S⟩ := f
    simp only at *
    go_enter Tryd.func6, Tryd.ntmps6
    go_wp2_with fail
    go_at_call 15
    refine (H.out.2.2 _ H.out.2.1).mono ?_
    rintro e w1 ⟨rfl, b1⟩
    have B1 := H.out.2.1.trans (b1.mono H.out.2.1.size)
    have H1 : Hid _ := And.intro B1 (And.intro (B1.alloc B1.size (.cells #[] 5)) (owns_mono (base' := w.heap.size) (own_litH w1) B1.size))
    clear b1 B1
    go_wp2
    (try simp only [Exit.inBlock, Exit.then])
    refine bodyPost_ret (results_tmp2 rfl _ _ _) rfl ?_
    exact ⟨_, rfl, H1.out.2.2, H1.out.2.1⟩
end Go.Proofs.YtdommkpeilmdnaaDoor

namespace Go.Proofs.YtdommkpeilmdnaaDoor
open Go.RowKit
set_option linter.unusedVariables false

theorem first_bad (p : Nat → Prop) : ∀ n : Nat, (∀ j, j < n → p j) ∨ ∃ q, q < n ∧ (∀ j, j < q → p j) ∧ ¬ p q := by
  intro n
  induction n with
  | zero => exact Or.inl (fun j h => by omega)
  | succ n ih =>
    rcases ih with h | ⟨q, hq, h1, h2⟩
    · by_cases hp : p n
      · left
        intro j hj
        by_cases e : j = n
        · subst e; exact hp
        · exact h j (by omega)
      · exact Or.inr ⟨n, by omega, h, hp⟩
    · exact Or.inr ⟨q, by omega, h1, h2⟩

/-- Whether every number has a form. -/
def allok (xs : List Int) : Prop := ∀ j, j < xs.length → okv (xs.getD j 0)
def allokB (xs : List Int) : Bool := xs.all fun x => decide (0 ≤ x) && decide (x ≤ 4611686018427387903)
theorem allokB_iff (xs : List Int) : allokB xs = true ↔ allok xs := by
  unfold allokB
  rw [List.all_eq_true]
  constructor
  · intro h j hj
    have := h (xs[j]) (List.getElem_mem hj)
    simp only [Bool.and_eq_true, decide_eq_true_eq] at this
    have e : xs.getD j 0 = xs[j] := by simp [List.getD, hj]
    rw [e]
    exact this
  · intro h x hx
    obtain ⟨j, hj, rfl⟩ := List.getElem_of_mem hx
    have := h j hj
    have e : xs.getD j 0 = xs[j] := by simp [List.getD, hj]
    rw [e] at this
    simp only [Bool.and_eq_true, decide_eq_true_eq]
    exact this
def pcode (xs : List Int) : Int := if 4096 < xs.length then 4 else if allokB xs = true then 0 else 1
def plist (xs : List Int) : List Int := if 4096 < xs.length then [] else if allokB xs = true then cat xs xs.length else []

theorem p_long (xs : List Int) (h : 4096 < xs.length) : pcode xs = 4 ∧ plist xs = [] := by
  unfold pcode plist; rw [if_pos h, if_pos h]; exact ⟨rfl, rfl⟩
theorem p_ok (xs : List Int) (h : xs.length ≤ 4096) (ha : allok xs) : pcode xs = 0 ∧ plist xs = cat xs xs.length := by
  have h' : ¬ 4096 < xs.length := by omega
  have hb := (allokB_iff xs).2 ha
  simp only [pcode, plist, if_neg h', if_pos hb]; exact ⟨trivial, trivial⟩
theorem p_no (xs : List Int) (h : xs.length ≤ 4096) (ha : ¬ allok xs) : pcode xs = 1 ∧ plist xs = [] := by
  have h' : ¬ 4096 < xs.length := by omega
  have hb : ¬ allokB xs = true := fun h => ha ((allokB_iff xs).1 h)
  simp only [pcode, plist, if_neg h', if_neg hb]; exact ⟨trivial, trivial⟩
theorem plist_length (xs : List Int) : (plist xs).length ≤ 32776 := by
  by_cases h : 4096 < xs.length
  · rw [(p_long xs h).2]; simp
  · by_cases ha : allok xs
    · rw [(p_ok xs (by omega) ha).2]
      have := cat_length xs xs.length ⟨by omega, by omega⟩ (Nat.le_refl _) ha
      omega
    · rw [(p_no xs (by omega) ha).2]; simp

end Go.Proofs.YtdommkpeilmdnaaDoor

namespace Go.Proofs.YtdommkpeilmdnaaDoor
open Go.RowKit
set_option linter.unusedVariables false

theorem set_head (l : List Int) (y : Int) (h : 0 < l.length) : (l.set 0 y).getD 0 0 = y := by
  simp [List.getD, h]
theorem set_tail (l : List Int) (y : Int) (j : Nat) : (l.set 0 y).getD (j + 1) 0 = l.getD (j + 1) 0 := by
  simp [List.getD]

theorem putv_eq_1 (v : Int) (h0 : 0 ≤ v) (h1 : v ≤ 63) : putv v = (be v 1).set 0 ((be v 1).getD 0 0 + 0) := by
  have := putv_1 v h0 h1
  unfold putv
  rw [this.1, this.2.1]
  rfl
theorem put_len_1 (v : Int) (h0 : 0 ≤ v) (h1 : v ≤ 63) : (putv v).length = 1 := by rw [putv_eq_1 v h0 h1, List.length_set, be_length]
theorem put_1_0 (v : Int) (h0 : 0 ≤ v) (h1 : v ≤ 63) : (putv v).getD 0 0 = v / 1 % 256 + 0 := by
  rw [putv_eq_1 v h0 h1, set_head _ _ (by rw [be_length]; decide), be_at v 1 0 (by decide)]
  rfl
theorem head_form_1 (v : Int) (h0 : 0 ≤ v) (h1 : v ≤ 63) : (putv v).getD 0 0 / 64 = 0 ∧ 0 ≤ (putv v).getD 0 0 ∧ (putv v).getD 0 0 < 256 := by
  rw [put_1_0 v h0 h1]
  omega
theorem back_1 (v : Int) (h0 : 0 ≤ v) (h1 : v ≤ 63) : vals (putv v) % 64 = v := by
  rw [vals_1 _ (put_len_1 v h0 h1), put_1_0 v h0 h1]
  omega
theorem at_1_0 (x0 v : Int) (l0 : 0 ≤ x0) (u0 : x0 < 256) (hf : x0 / 64 = 0) (hv : v = x0 % 64) : v / 1 % 256 + 0 = x0 := by omega
theorem same_1 (ys : List Int) (v : Int) (hl : ys.length = 1) (hB : Bytes ys) (hf : ys.getD 0 0 / 64 = 0) (hv : v = vals ys % 64) (h0 : 0 ≤ v) (h1 : v ≤ 63) : ys = putv v := by
  have e := low_1 _ (hB.at 0).1 (hB.at 0).2 hf
  rw [vals_1 ys hl, e] at hv
  refine list_eq_of_getD hl (put_len_1 v h0 h1) (fun j hj => ?_)
  have hj' : j = 0 := by omega
  rcases hj' with rfl
  · rw [put_1_0 v h0 h1, at_1_0 _ v (hB.at 0).1 (hB.at 0).2 hf hv]

theorem putv_eq_2 (v : Int) (h0 : 64 ≤ v) (h1 : v ≤ 16383) : putv v = (be v 2).set 0 ((be v 2).getD 0 0 + 64) := by
  have := putv_2 v h0 h1
  unfold putv
  rw [this.1, this.2.1]
  rfl
theorem put_len_2 (v : Int) (h0 : 64 ≤ v) (h1 : v ≤ 16383) : (putv v).length = 2 := by rw [putv_eq_2 v h0 h1, List.length_set, be_length]
theorem put_2_0 (v : Int) (h0 : 64 ≤ v) (h1 : v ≤ 16383) : (putv v).getD 0 0 = v / 256 % 256 + 64 := by
  rw [putv_eq_2 v h0 h1, set_head _ _ (by rw [be_length]; decide), be_at v 2 0 (by decide)]
  rfl
theorem put_2_1 (v : Int) (h0 : 64 ≤ v) (h1 : v ≤ 16383) : (putv v).getD 1 0 = v / 1 % 256 := by
  rw [putv_eq_2 v h0 h1, set_tail, be_at v 2 1 (by decide)]
  rfl
theorem head_form_2 (v : Int) (h0 : 64 ≤ v) (h1 : v ≤ 16383) : (putv v).getD 0 0 / 64 = 1 ∧ 0 ≤ (putv v).getD 0 0 ∧ (putv v).getD 0 0 < 256 := by
  rw [put_2_0 v h0 h1]
  omega
theorem back_2 (v : Int) (h0 : 64 ≤ v) (h1 : v ≤ 16383) : vals (putv v) % 16384 = v := by
  rw [vals_2 _ (put_len_2 v h0 h1), put_2_0 v h0 h1, put_2_1 v h0 h1]
  omega
theorem at_2_0 (x0 x1 v : Int) (l0 : 0 ≤ x0) (u0 : x0 < 256) (l1 : 0 ≤ x1) (u1 : x1 < 256) (hf : x0 / 64 = 1) (hv : v = x0 % 64 * 256 + x1) : v / 256 % 256 + 64 = x0 := by omega
theorem at_2_1 (x0 x1 v : Int) (l0 : 0 ≤ x0) (u0 : x0 < 256) (l1 : 0 ≤ x1) (u1 : x1 < 256) (hf : x0 / 64 = 1) (hv : v = x0 % 64 * 256 + x1) : v / 1 % 256 = x1 := by omega
theorem same_2 (ys : List Int) (v : Int) (hl : ys.length = 2) (hB : Bytes ys) (hf : ys.getD 0 0 / 64 = 1) (hv : v = vals ys % 16384) (h0 : 64 ≤ v) (h1 : v ≤ 16383) : ys = putv v := by
  have e := low_2 _ _ (hB.at 0).1 (hB.at 0).2 (hB.at 1).1 (hB.at 1).2 hf
  rw [vals_2 ys hl, e] at hv
  refine list_eq_of_getD hl (put_len_2 v h0 h1) (fun j hj => ?_)
  have hj' : j = 0 ∨ j = 1 := by omega
  rcases hj' with rfl | rfl
  · rw [put_2_0 v h0 h1, at_2_0 _ _ v (hB.at 0).1 (hB.at 0).2 (hB.at 1).1 (hB.at 1).2 hf hv]
  · rw [put_2_1 v h0 h1, at_2_1 _ _ v (hB.at 0).1 (hB.at 0).2 (hB.at 1).1 (hB.at 1).2 hf hv]

theorem putv_eq_4 (v : Int) (h0 : 16384 ≤ v) (h1 : v ≤ 1073741823) : putv v = (be v 4).set 0 ((be v 4).getD 0 0 + 128) := by
  have := putv_4 v h0 h1
  unfold putv
  rw [this.1, this.2.1]
  rfl
theorem put_len_4 (v : Int) (h0 : 16384 ≤ v) (h1 : v ≤ 1073741823) : (putv v).length = 4 := by rw [putv_eq_4 v h0 h1, List.length_set, be_length]
theorem put_4_0 (v : Int) (h0 : 16384 ≤ v) (h1 : v ≤ 1073741823) : (putv v).getD 0 0 = v / 16777216 % 256 + 128 := by
  rw [putv_eq_4 v h0 h1, set_head _ _ (by rw [be_length]; decide), be_at v 4 0 (by decide)]
  rfl
theorem put_4_1 (v : Int) (h0 : 16384 ≤ v) (h1 : v ≤ 1073741823) : (putv v).getD 1 0 = v / 65536 % 256 := by
  rw [putv_eq_4 v h0 h1, set_tail, be_at v 4 1 (by decide)]
  rfl
theorem put_4_2 (v : Int) (h0 : 16384 ≤ v) (h1 : v ≤ 1073741823) : (putv v).getD 2 0 = v / 256 % 256 := by
  rw [putv_eq_4 v h0 h1, set_tail, be_at v 4 2 (by decide)]
  rfl
theorem put_4_3 (v : Int) (h0 : 16384 ≤ v) (h1 : v ≤ 1073741823) : (putv v).getD 3 0 = v / 1 % 256 := by
  rw [putv_eq_4 v h0 h1, set_tail, be_at v 4 3 (by decide)]
  rfl
theorem head_form_4 (v : Int) (h0 : 16384 ≤ v) (h1 : v ≤ 1073741823) : (putv v).getD 0 0 / 64 = 2 ∧ 0 ≤ (putv v).getD 0 0 ∧ (putv v).getD 0 0 < 256 := by
  rw [put_4_0 v h0 h1]
  omega
theorem back_4 (v : Int) (h0 : 16384 ≤ v) (h1 : v ≤ 1073741823) : vals (putv v) % 1073741824 = v := by
  rw [vals_4 _ (put_len_4 v h0 h1), put_4_0 v h0 h1, put_4_1 v h0 h1, put_4_2 v h0 h1, put_4_3 v h0 h1]
  omega
theorem at_4_0 (x0 x1 x2 x3 v : Int) (l0 : 0 ≤ x0) (u0 : x0 < 256) (l1 : 0 ≤ x1) (u1 : x1 < 256) (l2 : 0 ≤ x2) (u2 : x2 < 256) (l3 : 0 ≤ x3) (u3 : x3 < 256) (hf : x0 / 64 = 2) (hv : v = ((x0 % 64 * 256 + x1) * 256 + x2) * 256 + x3) : v / 16777216 % 256 + 128 = x0 := by omega
theorem at_4_1 (x0 x1 x2 x3 v : Int) (l0 : 0 ≤ x0) (u0 : x0 < 256) (l1 : 0 ≤ x1) (u1 : x1 < 256) (l2 : 0 ≤ x2) (u2 : x2 < 256) (l3 : 0 ≤ x3) (u3 : x3 < 256) (hf : x0 / 64 = 2) (hv : v = ((x0 % 64 * 256 + x1) * 256 + x2) * 256 + x3) : v / 65536 % 256 = x1 := by omega
theorem at_4_2 (x0 x1 x2 x3 v : Int) (l0 : 0 ≤ x0) (u0 : x0 < 256) (l1 : 0 ≤ x1) (u1 : x1 < 256) (l2 : 0 ≤ x2) (u2 : x2 < 256) (l3 : 0 ≤ x3) (u3 : x3 < 256) (hf : x0 / 64 = 2) (hv : v = ((x0 % 64 * 256 + x1) * 256 + x2) * 256 + x3) : v / 256 % 256 = x2 := by omega
theorem at_4_3 (x0 x1 x2 x3 v : Int) (l0 : 0 ≤ x0) (u0 : x0 < 256) (l1 : 0 ≤ x1) (u1 : x1 < 256) (l2 : 0 ≤ x2) (u2 : x2 < 256) (l3 : 0 ≤ x3) (u3 : x3 < 256) (hf : x0 / 64 = 2) (hv : v = ((x0 % 64 * 256 + x1) * 256 + x2) * 256 + x3) : v / 1 % 256 = x3 := by omega
theorem same_4 (ys : List Int) (v : Int) (hl : ys.length = 4) (hB : Bytes ys) (hf : ys.getD 0 0 / 64 = 2) (hv : v = vals ys % 1073741824) (h0 : 16384 ≤ v) (h1 : v ≤ 1073741823) : ys = putv v := by
  have e := low_4 _ _ _ _ (hB.at 0).1 (hB.at 0).2 (hB.at 1).1 (hB.at 1).2 (hB.at 2).1 (hB.at 2).2 (hB.at 3).1 (hB.at 3).2 hf
  rw [vals_4 ys hl, e] at hv
  refine list_eq_of_getD hl (put_len_4 v h0 h1) (fun j hj => ?_)
  have hj' : j = 0 ∨ j = 1 ∨ j = 2 ∨ j = 3 := by omega
  rcases hj' with rfl | rfl | rfl | rfl
  · rw [put_4_0 v h0 h1, at_4_0 _ _ _ _ v (hB.at 0).1 (hB.at 0).2 (hB.at 1).1 (hB.at 1).2 (hB.at 2).1 (hB.at 2).2 (hB.at 3).1 (hB.at 3).2 hf hv]
  · rw [put_4_1 v h0 h1, at_4_1 _ _ _ _ v (hB.at 0).1 (hB.at 0).2 (hB.at 1).1 (hB.at 1).2 (hB.at 2).1 (hB.at 2).2 (hB.at 3).1 (hB.at 3).2 hf hv]
  · rw [put_4_2 v h0 h1, at_4_2 _ _ _ _ v (hB.at 0).1 (hB.at 0).2 (hB.at 1).1 (hB.at 1).2 (hB.at 2).1 (hB.at 2).2 (hB.at 3).1 (hB.at 3).2 hf hv]
  · rw [put_4_3 v h0 h1, at_4_3 _ _ _ _ v (hB.at 0).1 (hB.at 0).2 (hB.at 1).1 (hB.at 1).2 (hB.at 2).1 (hB.at 2).2 (hB.at 3).1 (hB.at 3).2 hf hv]

theorem putv_eq_8 (v : Int) (h0 : 1073741824 ≤ v) (h1 : v ≤ 4611686018427387903) : putv v = (be v 8).set 0 ((be v 8).getD 0 0 + 192) := by
  have := putv_8 v h0 h1
  unfold putv
  rw [this.1, this.2.1]
  rfl
theorem put_len_8 (v : Int) (h0 : 1073741824 ≤ v) (h1 : v ≤ 4611686018427387903) : (putv v).length = 8 := by rw [putv_eq_8 v h0 h1, List.length_set, be_length]
theorem put_8_0 (v : Int) (h0 : 1073741824 ≤ v) (h1 : v ≤ 4611686018427387903) : (putv v).getD 0 0 = v / 72057594037927936 % 256 + 192 := by
  rw [putv_eq_8 v h0 h1, set_head _ _ (by rw [be_length]; decide), be_at v 8 0 (by decide)]
  rfl
theorem put_8_1 (v : Int) (h0 : 1073741824 ≤ v) (h1 : v ≤ 4611686018427387903) : (putv v).getD 1 0 = v / 281474976710656 % 256 := by
  rw [putv_eq_8 v h0 h1, set_tail, be_at v 8 1 (by decide)]
  rfl
theorem put_8_2 (v : Int) (h0 : 1073741824 ≤ v) (h1 : v ≤ 4611686018427387903) : (putv v).getD 2 0 = v / 1099511627776 % 256 := by
  rw [putv_eq_8 v h0 h1, set_tail, be_at v 8 2 (by decide)]
  rfl
theorem put_8_3 (v : Int) (h0 : 1073741824 ≤ v) (h1 : v ≤ 4611686018427387903) : (putv v).getD 3 0 = v / 4294967296 % 256 := by
  rw [putv_eq_8 v h0 h1, set_tail, be_at v 8 3 (by decide)]
  rfl
theorem put_8_4 (v : Int) (h0 : 1073741824 ≤ v) (h1 : v ≤ 4611686018427387903) : (putv v).getD 4 0 = v / 16777216 % 256 := by
  rw [putv_eq_8 v h0 h1, set_tail, be_at v 8 4 (by decide)]
  rfl
theorem put_8_5 (v : Int) (h0 : 1073741824 ≤ v) (h1 : v ≤ 4611686018427387903) : (putv v).getD 5 0 = v / 65536 % 256 := by
  rw [putv_eq_8 v h0 h1, set_tail, be_at v 8 5 (by decide)]
  rfl
theorem put_8_6 (v : Int) (h0 : 1073741824 ≤ v) (h1 : v ≤ 4611686018427387903) : (putv v).getD 6 0 = v / 256 % 256 := by
  rw [putv_eq_8 v h0 h1, set_tail, be_at v 8 6 (by decide)]
  rfl
theorem put_8_7 (v : Int) (h0 : 1073741824 ≤ v) (h1 : v ≤ 4611686018427387903) : (putv v).getD 7 0 = v / 1 % 256 := by
  rw [putv_eq_8 v h0 h1, set_tail, be_at v 8 7 (by decide)]
  rfl
theorem head_form_8 (v : Int) (h0 : 1073741824 ≤ v) (h1 : v ≤ 4611686018427387903) : (putv v).getD 0 0 / 64 = 3 ∧ 0 ≤ (putv v).getD 0 0 ∧ (putv v).getD 0 0 < 256 := by
  rw [put_8_0 v h0 h1]
  omega
theorem back_8 (v : Int) (h0 : 1073741824 ≤ v) (h1 : v ≤ 4611686018427387903) : vals (putv v) % 4611686018427387904 = v := by
  rw [vals_8 _ (put_len_8 v h0 h1), put_8_0 v h0 h1, put_8_1 v h0 h1, put_8_2 v h0 h1, put_8_3 v h0 h1, put_8_4 v h0 h1, put_8_5 v h0 h1, put_8_6 v h0 h1, put_8_7 v h0 h1]
  omega
theorem at_8_0 (x0 x1 x2 x3 x4 x5 x6 x7 v : Int) (l0 : 0 ≤ x0) (u0 : x0 < 256) (l1 : 0 ≤ x1) (u1 : x1 < 256) (l2 : 0 ≤ x2) (u2 : x2 < 256) (l3 : 0 ≤ x3) (u3 : x3 < 256) (l4 : 0 ≤ x4) (u4 : x4 < 256) (l5 : 0 ≤ x5) (u5 : x5 < 256) (l6 : 0 ≤ x6) (u6 : x6 < 256) (l7 : 0 ≤ x7) (u7 : x7 < 256) (hf : x0 / 64 = 3) (hv : v = ((((((x0 % 64 * 256 + x1) * 256 + x2) * 256 + x3) * 256 + x4) * 256 + x5) * 256 + x6) * 256 + x7) : v / 72057594037927936 % 256 + 192 = x0 := by omega
theorem at_8_1 (x0 x1 x2 x3 x4 x5 x6 x7 v : Int) (l0 : 0 ≤ x0) (u0 : x0 < 256) (l1 : 0 ≤ x1) (u1 : x1 < 256) (l2 : 0 ≤ x2) (u2 : x2 < 256) (l3 : 0 ≤ x3) (u3 : x3 < 256) (l4 : 0 ≤ x4) (u4 : x4 < 256) (l5 : 0 ≤ x5) (u5 : x5 < 256) (l6 : 0 ≤ x6) (u6 : x6 < 256) (l7 : 0 ≤ x7) (u7 : x7 < 256) (hf : x0 / 64 = 3) (hv : v = ((((((x0 % 64 * 256 + x1) * 256 + x2) * 256 + x3) * 256 + x4) * 256 + x5) * 256 + x6) * 256 + x7) : v / 281474976710656 % 256 = x1 := by omega
theorem at_8_2 (x0 x1 x2 x3 x4 x5 x6 x7 v : Int) (l0 : 0 ≤ x0) (u0 : x0 < 256) (l1 : 0 ≤ x1) (u1 : x1 < 256) (l2 : 0 ≤ x2) (u2 : x2 < 256) (l3 : 0 ≤ x3) (u3 : x3 < 256) (l4 : 0 ≤ x4) (u4 : x4 < 256) (l5 : 0 ≤ x5) (u5 : x5 < 256) (l6 : 0 ≤ x6) (u6 : x6 < 256) (l7 : 0 ≤ x7) (u7 : x7 < 256) (hf : x0 / 64 = 3) (hv : v = ((((((x0 % 64 * 256 + x1) * 256 + x2) * 256 + x3) * 256 + x4) * 256 + x5) * 256 + x6) * 256 + x7) : v / 1099511627776 % 256 = x2 := by omega
theorem at_8_3 (x0 x1 x2 x3 x4 x5 x6 x7 v : Int) (l0 : 0 ≤ x0) (u0 : x0 < 256) (l1 : 0 ≤ x1) (u1 : x1 < 256) (l2 : 0 ≤ x2) (u2 : x2 < 256) (l3 : 0 ≤ x3) (u3 : x3 < 256) (l4 : 0 ≤ x4) (u4 : x4 < 256) (l5 : 0 ≤ x5) (u5 : x5 < 256) (l6 : 0 ≤ x6) (u6 : x6 < 256) (l7 : 0 ≤ x7) (u7 : x7 < 256) (hf : x0 / 64 = 3) (hv : v = ((((((x0 % 64 * 256 + x1) * 256 + x2) * 256 + x3) * 256 + x4) * 256 + x5) * 256 + x6) * 256 + x7) : v / 4294967296 % 256 = x3 := by omega
theorem at_8_4 (x0 x1 x2 x3 x4 x5 x6 x7 v : Int) (l0 : 0 ≤ x0) (u0 : x0 < 256) (l1 : 0 ≤ x1) (u1 : x1 < 256) (l2 : 0 ≤ x2) (u2 : x2 < 256) (l3 : 0 ≤ x3) (u3 : x3 < 256) (l4 : 0 ≤ x4) (u4 : x4 < 256) (l5 : 0 ≤ x5) (u5 : x5 < 256) (l6 : 0 ≤ x6) (u6 : x6 < 256) (l7 : 0 ≤ x7) (u7 : x7 < 256) (hf : x0 / 64 = 3) (hv : v = ((((((x0 % 64 * 256 + x1) * 256 + x2) * 256 + x3) * 256 + x4) * 256 + x5) * 256 + x6) * 256 + x7) : v / 16777216 % 256 = x4 := by omega
theorem at_8_5 (x0 x1 x2 x3 x4 x5 x6 x7 v : Int) (l0 : 0 ≤ x0) (u0 : x0 < 256) (l1 : 0 ≤ x1) (u1 : x1 < 256) (l2 : 0 ≤ x2) (u2 : x2 < 256) (l3 : 0 ≤ x3) (u3 : x3 < 256) (l4 : 0 ≤ x4) (u4 : x4 < 256) (l5 : 0 ≤ x5) (u5 : x5 < 256) (l6 : 0 ≤ x6) (u6 : x6 < 256) (l7 : 0 ≤ x7) (u7 : x7 < 256) (hf : x0 / 64 = 3) (hv : v = ((((((x0 % 64 * 256 + x1) * 256 + x2) * 256 + x3) * 256 + x4) * 256 + x5) * 256 + x6) * 256 + x7) : v / 65536 % 256 = x5 := by omega
theorem at_8_6 (x0 x1 x2 x3 x4 x5 x6 x7 v : Int) (l0 : 0 ≤ x0) (u0 : x0 < 256) (l1 : 0 ≤ x1) (u1 : x1 < 256) (l2 : 0 ≤ x2) (u2 : x2 < 256) (l3 : 0 ≤ x3) (u3 : x3 < 256) (l4 : 0 ≤ x4) (u4 : x4 < 256) (l5 : 0 ≤ x5) (u5 : x5 < 256) (l6 : 0 ≤ x6) (u6 : x6 < 256) (l7 : 0 ≤ x7) (u7 : x7 < 256) (hf : x0 / 64 = 3) (hv : v = ((((((x0 % 64 * 256 + x1) * 256 + x2) * 256 + x3) * 256 + x4) * 256 + x5) * 256 + x6) * 256 + x7) : v / 256 % 256 = x6 := by omega
theorem at_8_7 (x0 x1 x2 x3 x4 x5 x6 x7 v : Int) (l0 : 0 ≤ x0) (u0 : x0 < 256) (l1 : 0 ≤ x1) (u1 : x1 < 256) (l2 : 0 ≤ x2) (u2 : x2 < 256) (l3 : 0 ≤ x3) (u3 : x3 < 256) (l4 : 0 ≤ x4) (u4 : x4 < 256) (l5 : 0 ≤ x5) (u5 : x5 < 256) (l6 : 0 ≤ x6) (u6 : x6 < 256) (l7 : 0 ≤ x7) (u7 : x7 < 256) (hf : x0 / 64 = 3) (hv : v = ((((((x0 % 64 * 256 + x1) * 256 + x2) * 256 + x3) * 256 + x4) * 256 + x5) * 256 + x6) * 256 + x7) : v / 1 % 256 = x7 := by omega
theorem same_8 (ys : List Int) (v : Int) (hl : ys.length = 8) (hB : Bytes ys) (hf : ys.getD 0 0 / 64 = 3) (hv : v = vals ys % 4611686018427387904) (h0 : 1073741824 ≤ v) (h1 : v ≤ 4611686018427387903) : ys = putv v := by
  have e := low_8 _ _ _ _ _ _ _ _ (hB.at 0).1 (hB.at 0).2 (hB.at 1).1 (hB.at 1).2 (hB.at 2).1 (hB.at 2).2 (hB.at 3).1 (hB.at 3).2 (hB.at 4).1 (hB.at 4).2 (hB.at 5).1 (hB.at 5).2 (hB.at 6).1 (hB.at 6).2 (hB.at 7).1 (hB.at 7).2 hf
  rw [vals_8 ys hl, e] at hv
  refine list_eq_of_getD hl (put_len_8 v h0 h1) (fun j hj => ?_)
  have hj' : j = 0 ∨ j = 1 ∨ j = 2 ∨ j = 3 ∨ j = 4 ∨ j = 5 ∨ j = 6 ∨ j = 7 := by omega
  rcases hj' with rfl | rfl | rfl | rfl | rfl | rfl | rfl | rfl
  · rw [put_8_0 v h0 h1, at_8_0 _ _ _ _ _ _ _ _ v (hB.at 0).1 (hB.at 0).2 (hB.at 1).1 (hB.at 1).2 (hB.at 2).1 (hB.at 2).2 (hB.at 3).1 (hB.at 3).2 (hB.at 4).1 (hB.at 4).2 (hB.at 5).1 (hB.at 5).2 (hB.at 6).1 (hB.at 6).2 (hB.at 7).1 (hB.at 7).2 hf hv]
  · rw [put_8_1 v h0 h1, at_8_1 _ _ _ _ _ _ _ _ v (hB.at 0).1 (hB.at 0).2 (hB.at 1).1 (hB.at 1).2 (hB.at 2).1 (hB.at 2).2 (hB.at 3).1 (hB.at 3).2 (hB.at 4).1 (hB.at 4).2 (hB.at 5).1 (hB.at 5).2 (hB.at 6).1 (hB.at 6).2 (hB.at 7).1 (hB.at 7).2 hf hv]
  · rw [put_8_2 v h0 h1, at_8_2 _ _ _ _ _ _ _ _ v (hB.at 0).1 (hB.at 0).2 (hB.at 1).1 (hB.at 1).2 (hB.at 2).1 (hB.at 2).2 (hB.at 3).1 (hB.at 3).2 (hB.at 4).1 (hB.at 4).2 (hB.at 5).1 (hB.at 5).2 (hB.at 6).1 (hB.at 6).2 (hB.at 7).1 (hB.at 7).2 hf hv]
  · rw [put_8_3 v h0 h1, at_8_3 _ _ _ _ _ _ _ _ v (hB.at 0).1 (hB.at 0).2 (hB.at 1).1 (hB.at 1).2 (hB.at 2).1 (hB.at 2).2 (hB.at 3).1 (hB.at 3).2 (hB.at 4).1 (hB.at 4).2 (hB.at 5).1 (hB.at 5).2 (hB.at 6).1 (hB.at 6).2 (hB.at 7).1 (hB.at 7).2 hf hv]
  · rw [put_8_4 v h0 h1, at_8_4 _ _ _ _ _ _ _ _ v (hB.at 0).1 (hB.at 0).2 (hB.at 1).1 (hB.at 1).2 (hB.at 2).1 (hB.at 2).2 (hB.at 3).1 (hB.at 3).2 (hB.at 4).1 (hB.at 4).2 (hB.at 5).1 (hB.at 5).2 (hB.at 6).1 (hB.at 6).2 (hB.at 7).1 (hB.at 7).2 hf hv]
  · rw [put_8_5 v h0 h1, at_8_5 _ _ _ _ _ _ _ _ v (hB.at 0).1 (hB.at 0).2 (hB.at 1).1 (hB.at 1).2 (hB.at 2).1 (hB.at 2).2 (hB.at 3).1 (hB.at 3).2 (hB.at 4).1 (hB.at 4).2 (hB.at 5).1 (hB.at 5).2 (hB.at 6).1 (hB.at 6).2 (hB.at 7).1 (hB.at 7).2 hf hv]
  · rw [put_8_6 v h0 h1, at_8_6 _ _ _ _ _ _ _ _ v (hB.at 0).1 (hB.at 0).2 (hB.at 1).1 (hB.at 1).2 (hB.at 2).1 (hB.at 2).2 (hB.at 3).1 (hB.at 3).2 (hB.at 4).1 (hB.at 4).2 (hB.at 5).1 (hB.at 5).2 (hB.at 6).1 (hB.at 6).2 (hB.at 7).1 (hB.at 7).2 hf hv]
  · rw [put_8_7 v h0 h1, at_8_7 _ _ _ _ _ _ _ _ v (hB.at 0).1 (hB.at 0).2 (hB.at 1).1 (hB.at 1).2 (hB.at 2).1 (hB.at 2).2 (hB.at 3).1 (hB.at 3).2 (hB.at 4).1 (hB.at 4).2 (hB.at 5).1 (hB.at 5).2 (hB.at 6).1 (hB.at 6).2 (hB.at 7).1 (hB.at 7).2 hf hv]

theorem range_of (v : Int) (h : okv v) : (0 ≤ v ∧ v ≤ 63) ∨ (64 ≤ v ∧ v ≤ 16383) ∨ (16384 ≤ v ∧ v ≤ 1073741823) ∨ (1073741824 ≤ v ∧ v ≤ 4611686018427387903) := by
  obtain ⟨a, b⟩ := h; omega

theorem gvm_pos (x : Int) : 0 < gvm x ∧ gvm x ≤ 4611686018427387904 := by
  unfold gvm; split <;> (try split) <;> (try split) <;> decide

/-- What a reading that went well tells. -/
theorem gv_good (xs : List Int) (i : Nat) (h : (gv xs i).2.2 = 0) : xs.length ≤ 65536 ∧ i < xs.length ∧ i + gvn (xs.getD i 0) ≤ xs.length ∧ (gv xs i).2.1 = (i : Int) + gvn (xs.getD i 0) ∧ (gv xs i).1 = vals ((xs.drop i).take (gvn (xs.getD i 0))) % gvm (xs.getD i 0) ∧ okv (gv xs i).1 := by
  by_cases h1 : 65536 < xs.length
  · unfold gv at h; rw [if_pos h1] at h; simp at h
  · by_cases h2 : (i : Int) < 0 ∨ (xs.length : Int) < i
    · unfold gv at h; rw [if_neg h1, if_pos h2] at h; simp at h
    · by_cases h3 : (i : Int) = xs.length
      · unfold gv at h; rw [if_neg h1, if_neg h2, if_pos h3] at h; simp at h
      · by_cases h4 : xs.length < i + gvn (xs.getD i 0)
        · rw [gv_short xs i (by omega) (by omega) h4] at h; simp at h
        · have e := gv_ok xs i (by omega) (by omega) (by omega)
          rw [e]
          have hp := gvm_pos (xs.getD i 0)
          refine ⟨by omega, by omega, by omega, rfl, rfl, ?_⟩
          have h5 := Int.emod_nonneg (vals ((xs.drop i).take (gvn (xs.getD i 0)))) (show gvm (xs.getD i 0) ≠ 0 by omega)
          have h6 := Int.emod_lt_of_pos (vals ((xs.drop i).take (gvn (xs.getD i 0)))) hp.1
          exact ⟨h5, by show _ % _ ≤ _; omega⟩

/-- A number in its shortest form: its bytes are those that are put. -/
theorem gv_short_piece (xs : List Int) (i : Nat) (hB : Bytes xs) (h : (gv xs i).2.2 = 0) (hs : (gv xs i).2.1 - i = vsize (gv xs i).1) : (xs.drop i).take (vsize (gv xs i).1).toNat = putv (gv xs i).1 := by
  obtain ⟨g1, g2, g3, g4, g5, g6⟩ := gv_good xs i h
  have hn : vsize (gv xs i).1 = gvn (xs.getD i 0) := by rw [← hs, g4]; omega
  have hb := hB.at i
  have hsB : Bytes ((xs.drop i).take (gvn (xs.getD i 0))) := (hB.drop i).take _
  have hsl := sub_length xs i (gvn (xs.getD i 0)) g3
  have hh := sub_at xs i (gvn (xs.getD i 0)) 0 (by have := gvn_bd (xs.getD i 0); omega)
  rw [Nat.add_zero] at hh
  have e2 : (vsize (gv xs i).1).toNat = gvn (xs.getD i 0) := by rw [hn]; omega
  rw [e2]
  generalize gv xs i = p at g5 g6 hn
  obtain ⟨v, q, c⟩ := p
  simp only at g5 g6 hn ⊢
  generalize (xs.drop i).take (gvn (xs.getD i 0)) = ys at *
  generalize xs.getD i 0 = x at *
  rcases gv_form x hb.1 hb.2 with ⟨hf, e, em⟩ | ⟨hf, e, em⟩ | ⟨hf, e, em⟩ | ⟨hf, e, em⟩
  · rw [e] at hn hsl; rw [em] at g5
    have hr : 0 ≤ v ∧ v ≤ 63 := by
      rcases range_of v g6 with r | r | r | r
      · exact r
      · have := (putv_2 v r.1 r.2).1; omega
      · have := (putv_4 v r.1 r.2).1; omega
      · have := (putv_8 v r.1 r.2).1; omega
    exact same_1 ys v hsl hsB (by rw [hh]; exact hf) g5 hr.1 hr.2
  · rw [e] at hn hsl; rw [em] at g5
    have hr : 64 ≤ v ∧ v ≤ 16383 := by
      rcases range_of v g6 with r | r | r | r
      · have := (putv_1 v r.1 r.2).1; omega
      · exact r
      · have := (putv_4 v r.1 r.2).1; omega
      · have := (putv_8 v r.1 r.2).1; omega
    exact same_2 ys v hsl hsB (by rw [hh]; exact hf) g5 hr.1 hr.2
  · rw [e] at hn hsl; rw [em] at g5
    have hr : 16384 ≤ v ∧ v ≤ 1073741823 := by
      rcases range_of v g6 with r | r | r | r
      · have := (putv_1 v r.1 r.2).1; omega
      · have := (putv_2 v r.1 r.2).1; omega
      · exact r
      · have := (putv_8 v r.1 r.2).1; omega
    exact same_4 ys v hsl hsB (by rw [hh]; exact hf) g5 hr.1 hr.2
  · rw [e] at hn hsl; rw [em] at g5
    have hr : 1073741824 ≤ v ∧ v ≤ 4611686018427387903 := by
      rcases range_of v g6 with r | r | r | r
      · have := (putv_1 v r.1 r.2).1; omega
      · have := (putv_2 v r.1 r.2).1; omega
      · have := (putv_4 v r.1 r.2).1; omega
      · exact r
    exact same_8 ys v hsl hsB (by rw [hh]; exact hf) g5 hr.1 hr.2

/-- Where the bytes that are put stand, they are read. -/
theorem gv_put (xs : List Int) (i : Nat) (v : Int) (hv : okv v) (hl : xs.length ≤ 65536) (h : (xs.drop i).take (vsize v).toNat = putv v) : gv xs i = (v, (i : Int) + vsize v, 0) := by
  have hvb := vsize_bd v hv
  have hpl := putv_length v
  have hlen : ((xs.drop i).take (vsize v).toNat).length = (vsize v).toNat := by rw [h, hpl]
  rw [List.length_take, List.length_drop] at hlen
  have hh : xs.getD i 0 = (putv v).getD 0 0 := by
    rw [← h, sub_at xs i _ 0 (by omega), Nat.add_zero]
  rcases range_of v hv with r | r | r | r
  · have hs := (putv_1 v r.1 r.2).1
    have hf := head_form_1 v r.1 r.2
    rw [← hh] at hf
    rw [hs] at h hlen
    obtain ⟨hf1, hf2⟩ : gvn (xs.getD i 0) = 1 ∧ gvm (xs.getD i 0) = 64 := by
      rcases gv_form _ hf.2.1 hf.2.2 with ⟨a, b, c⟩ | ⟨a, b, c⟩ | ⟨a, b, c⟩ | ⟨a, b, c⟩
      · exact ⟨b, c⟩
      · omega
      · omega
      · omega
    have hle : i + 1 ≤ xs.length := by simp at hlen; omega
    rw [gv_ok xs i hl (by omega) (by rw [hf1]; omega), hf1, hf2, hs]
    have h' : (xs.drop i).take 1 = putv v := h
    rw [h', back_1 v r.1 r.2]
    rfl
  · have hs := (putv_2 v r.1 r.2).1
    have hf := head_form_2 v r.1 r.2
    rw [← hh] at hf
    rw [hs] at h hlen
    obtain ⟨hf1, hf2⟩ : gvn (xs.getD i 0) = 2 ∧ gvm (xs.getD i 0) = 16384 := by
      rcases gv_form _ hf.2.1 hf.2.2 with ⟨a, b, c⟩ | ⟨a, b, c⟩ | ⟨a, b, c⟩ | ⟨a, b, c⟩
      · omega
      · exact ⟨b, c⟩
      · omega
      · omega
    have hle : i + 2 ≤ xs.length := by simp at hlen; omega
    rw [gv_ok xs i hl (by omega) (by rw [hf1]; omega), hf1, hf2, hs]
    have h' : (xs.drop i).take 2 = putv v := h
    rw [h', back_2 v r.1 r.2]
    rfl
  · have hs := (putv_4 v r.1 r.2).1
    have hf := head_form_4 v r.1 r.2
    rw [← hh] at hf
    rw [hs] at h hlen
    obtain ⟨hf1, hf2⟩ : gvn (xs.getD i 0) = 4 ∧ gvm (xs.getD i 0) = 1073741824 := by
      rcases gv_form _ hf.2.1 hf.2.2 with ⟨a, b, c⟩ | ⟨a, b, c⟩ | ⟨a, b, c⟩ | ⟨a, b, c⟩
      · omega
      · omega
      · exact ⟨b, c⟩
      · omega
    have hle : i + 4 ≤ xs.length := by simp at hlen; omega
    rw [gv_ok xs i hl (by omega) (by rw [hf1]; omega), hf1, hf2, hs]
    have h' : (xs.drop i).take 4 = putv v := h
    rw [h', back_4 v r.1 r.2]
    rfl
  · have hs := (putv_8 v r.1 r.2).1
    have hf := head_form_8 v r.1 r.2
    rw [← hh] at hf
    rw [hs] at h hlen
    obtain ⟨hf1, hf2⟩ : gvn (xs.getD i 0) = 8 ∧ gvm (xs.getD i 0) = 4611686018427387904 := by
      rcases gv_form _ hf.2.1 hf.2.2 with ⟨a, b, c⟩ | ⟨a, b, c⟩ | ⟨a, b, c⟩ | ⟨a, b, c⟩
      · omega
      · omega
      · omega
      · exact ⟨b, c⟩
    have hle : i + 8 ≤ xs.length := by simp at hlen; omega
    rw [gv_ok xs i hl (by omega) (by rw [hf1]; omega), hf1, hf2, hs]
    have h' : (xs.drop i).take 8 = putv v := h
    rw [h', back_8 v r.1 r.2]
    rfl
end Go.Proofs.YtdommkpeilmdnaaDoor

namespace Go.Proofs.YtdommkpeilmdnaaDoor
open Go.RowKit
set_option linter.unusedVariables false

theorem putv_vsize (v : Int) (h0 : 0 ≤ v) (h1 : v ≤ 4611686018427387903) : (putv v).length = (vsize v).toNat ∧ 1 ≤ (putv v).length := by
  rw [putv_length]
  exact ⟨rfl, (vsize_bd v ⟨h0, h1⟩).1⟩
/-- What Put wrote is a number for the readers. -/
theorem var_at (xs : List Int) (i : Nat) (v : Int) (rest : List Int) (h0 : 0 ≤ v) (h1 : v ≤ 4611686018427387903) (hl : xs.length ≤ 65536) (h : xs.drop i = putv v ++ rest) : varOK xs i ∧ varV xs i = v ∧ varN xs i = i + (putv v).length := by
  obtain ⟨e1, e2⟩ := putv_vsize v h0 h1
  have hi : i < xs.length := by
    have : (xs.drop i).length = (putv v ++ rest).length := by rw [h]
    rw [List.length_drop, List.length_append] at this
    omega
  have hg := gv_put xs i v ⟨h0, h1⟩ hl (by rw [h, ← e1, List.take_left'  rfl])
  by_cases hv : varOK xs i
  · rw [gv_yes xs i hl hv] at hg
    simp only [Prod.mk.injEq] at hg
    exact ⟨hv, hg.1, by omega⟩
  · rw [gv_not xs i hl (by omega) hv] at hg
    simp at hg
theorem drop_more (xs : List Int) (i k : Nat) (a b : List Int) (h : xs.drop i = a ++ b) (hk : k = i + a.length) : xs.drop k = b := by
  rw [hk, ← List.drop_drop, h, List.drop_left' rfl]
theorem prs_back (xs : List Int) (hl : xs.length ≤ 65536) : ∀ (L : List SSetting) (f p : Nat), (∀ x ∈ L, (0 ≤ x.f0 ∧ x.f0 ≤ 4611686018427387903) ∧ 0 ≤ x.f1 ∧ x.f1 ≤ 4611686018427387903) → L.length ≤ f → xs.drop p = setB L → prs xs f p = some L
  | [], f, p, _, _, h => by
    refine prs_end xs f p (fun hp => ?_)
    have : (xs.drop p).length = 0 := by rw [h]; rfl
    rw [List.length_drop] at this
    omega
  | x :: r, 0, p, _, hf, _ => by simp at hf
  | x :: r, f + 1, p, hx, hf, h => by
    obtain ⟨hx0, hx1⟩ := hx x (List.mem_cons_self ..)
    have h' : xs.drop p = putv x.f0 ++ (putv x.f1 ++ setB r) := by rw [h, setB, List.append_assoc]
    obtain ⟨v1, v2, v3⟩ := var_at xs p x.f0 _ hx0.1 hx0.2 hl h'
    have h2 := drop_more xs p _ _ _ h' v3
    obtain ⟨u1, u2, u3⟩ := var_at xs (varN xs p) x.f1 _ hx1.1 hx1.2 hl h2
    have h3 := drop_more xs _ _ _ _ h2 u3
    have hp : p < xs.length := v1.1
    rw [prs_yes xs f p hp ⟨v1, u1⟩, prs_back xs hl r f _ (fun y hy => hx y (List.mem_cons_of_mem _ hy)) (by simpa using hf) h3, v2, u2]
    rfl
theorem sdP_mem (L : List SSetting) (h : sdP L) : ∀ x ∈ L, (0 ≤ x.f0 ∧ x.f0 ≤ 4611686018427387903) ∧ 0 ≤ x.f1 ∧ x.f1 ≤ 4611686018427387903 := by
  intro x hx
  obtain ⟨j, hj, e⟩ := List.getElem_of_mem hx
  have h1 := (h j hj).1
  have e2 : L.getD j default = x := by simp [List.getD, hj, e]
  rw [e2, hin_iff, hin_iff] at h1
  exact h1
theorem plB_fit (f : HF) (h : hyP f.k f.a f.d.length f.s) : (plB f).length ≤ 16384 := by
  obtain ⟨⟨h1, h2⟩, h3, h4⟩ := h
  rw [hin_iff] at h2
  have a1 := putv_le f.a h2.1 h2.2
  have a2 := setB_le f.s h3 f.s.length (Nat.le_refl _)
  rw [List.take_length] at a2
  unfold hyK at h4
  unfold plB
  simp only [List.length_append]
  split <;> (try simp only [List.length_nil]) <;> omega
theorem setB_len (L : List SSetting) (h : ∀ x ∈ L, (0 ≤ x.f0 ∧ x.f0 ≤ 4611686018427387903) ∧ 0 ≤ x.f1 ∧ x.f1 ≤ 4611686018427387903) : L.length ≤ (setB L).length := by
  induction L with
  | nil => simp
  | cons x r ih =>
    have hx := h x (List.mem_cons_self ..)
    have e := (putv_vsize x.f0 hx.1.1 hx.1.2).2
    have := ih (fun y hy => h y (List.mem_cons_of_mem _ hy))
    simp only [setB, List.length_append, List.length_cons]
    omega
/-- A valid frame comes back from its payload. -/
theorem rhF_back (f : HF) (h : hyP f.k f.a f.d.length f.s) : rhF f.k (plB f) = some f := by
  have hfit := plB_fit f h
  obtain ⟨⟨h1, h2⟩, h3, h4⟩ := h
  rw [hin_iff] at h1 h2
  obtain ⟨k, a, d, s⟩ := f
  simp only at *
  unfold rhF
  by_cases k4 : k = 4
  · rw [if_pos k4]
    have e : a = 0 ∧ d = [] := by
      unfold hyK at h4
      have : a = 0 ∧ d.length = 0 := by omega
      exact ⟨this.1, List.eq_nil_of_length_eq_zero this.2⟩
    obtain ⟨rfl, rfl⟩ := e
    have ep : plB ⟨k, 0, [], s⟩ = setB s := by unfold plB; simp only; rw [if_neg (by omega)]; simp
    rw [ep] at hfit ⊢
    rw [prs_back (setB s) (by omega) s _ 0 (sdP_mem s h3) (setB_len s (sdP_mem s h3)) rfl, k4]
    rfl
  · rw [if_neg k4]
    by_cases k7 : k = 7 ∨ k = 15
    · rw [if_pos k7]
      have es : s = [] := by
        unfold hyK at h4
        have : s.length = 0 := by omega
        exact List.eq_nil_of_length_eq_zero this
      subst es
      have ep : plB ⟨k, a, d, []⟩ = putv a ++ d := by unfold plB; simp only; rw [if_pos k7]; simp [setB]
      rw [ep] at hfit ⊢
      obtain ⟨v1, v2, v3⟩ := var_at (putv a ++ d) 0 a d h2.1 h2.2 (by omega) rfl
      rw [if_pos v1, v2, drop_more (putv a ++ d) 0 _ (putv a) d rfl v3]
    · rw [if_neg k7]
      have e : a = 0 ∧ s = [] := by
        unfold hyK at h4
        have : a = 0 ∧ s.length = 0 := by omega
        exact ⟨this.1, List.eq_nil_of_length_eq_zero this.2⟩
      obtain ⟨rfl, rfl⟩ := e
      have ep : plB ⟨k, 0, d, []⟩ = d := by unfold plB; simp only; rw [if_neg k7]; simp [setB]
      rw [ep]
theorem rhT_5' (xs : List Int) (p : Nat) (h1 : varOK xs p) (h2 : varOK xs (varN xs p)) (h3 : ¬ 16384 < varV xs (varN xs p)) (h4 : ¬ xs.length < varN xs (varN xs p) + (varV xs (varN xs p)).toNat) : rhT xs p = match rhF (varV xs p) (sub xs (varN xs (varN xs p)) (varV xs (varN xs p)).toNat) with
    | none => .error 3
    | some f => if hyP f.k f.a f.d.length f.s then .ok (f, varN xs (varN xs p) + (varV xs (varN xs p)).toNat) else .error 3 := by
  unfold rhT; rw [if_neg (fun h => h h1), if_neg (fun h => h h2), if_neg h3, if_neg h4]; rfl
/-- A valid frame comes back from its bytes, wherever they stand. -/
theorem rhT_back (xs : List Int) (p : Nat) (f : HF) (rest : List Int) (hl : xs.length ≤ 65536) (h : hyP f.k f.a f.d.length f.s) (hx : xs.drop p = hyBy f ++ rest) : rhT xs p = .ok (f, p + (hyBy f).length) := by
  have hfit := plB_fit f h
  have h1 := h.1.1
  rw [hin_iff] at h1
  have hx' : xs.drop p = putv f.k ++ (putv ((plB f).length : Int) ++ (plB f ++ rest)) := by rw [hx]; unfold hyBy; simp only [List.append_assoc]
  obtain ⟨v1, v2, v3⟩ := var_at xs p f.k _ h1.1 h1.2 hl hx'
  have hx2 := drop_more xs p _ _ _ hx' v3
  obtain ⟨u1, u2, u3⟩ := var_at xs (varN xs p) ((plB f).length : Int) _ (by omega) (by omega) hl hx2
  have hx3 := drop_more xs _ _ _ _ hx2 u3
  have hsub : sub xs (varN xs (varN xs p)) (plB f).length = plB f := by unfold sub; rw [hx3, List.take_left' rfl]
  have hlen : varN xs (varN xs p) + (plB f).length ≤ xs.length := by
    have : (xs.drop (varN xs (varN xs p))).length = (plB f ++ rest).length := by rw [hx3]
    rw [List.length_drop, List.length_append] at this
    have := (varN_bd xs _ u1).2
    omega
  rw [rhT_5' xs p v1 u1 (by rw [u2]; omega) (by rw [u2, Int.toNat_natCast]; omega), u2, Int.toNat_natCast, hsub, v2, rhF_back f h]
  simp only
  rw [if_pos h]
  congr 2
  unfold hyBy
  simp only [List.length_append]
  omega
end Go.Proofs.YtdommkpeilmdnaaDoor

namespace Go.Proofs.YtdommkpeilmdnaaDoor
open Go.RowKit
set_option linter.unusedVariables false

theorem laid1h (w : World) (v : Value) (t : TypeId) : (w.alloc (.cells #[v] t)).cell? ⟨w.heap.size, 0, none⟩ = some v := bk_cell (heap_alloc_new w (.cells #[v] t)) 0

set_option maxRecDepth 20000 in
set_option maxHeartbeats 1000000 in
theorem putN1h (base : Nat) (vo : Value) (xs : List Int) (n : Int) (g : Nat) (w : World) (ht : Tab w) (ho : w.ownsRow base 5 1 vo xs.length (xs.map (Value.int .u8))) (hb : base ≤ w.heap.size) (hx : xs.length ≤ 1000000) (h0 : 0 ≤ n) (h1 : n ≤ 4611686018427387903) (hc : w.cell? ⟨g, 0, none⟩ = some (.int .i64 n)) :
    Calls Tryd.prog 13 #[vo, .slice (some ⟨g, 0, none⟩) 1 1] w fun e w' => ∃ r, e = .returned r ∧ w'.ownsRow base 5 1 r (xs ++ putv n).length ((xs ++ putv n).map (Value.int .u8)) ∧ GrW w w' vo r := by
  have HH : Hid _ := And.intro ho (And.intro (implPutVar n w ht h0 h1) (And.intro hb (putv_le n h0 h1)))
  clear ho hb ht
  go_enter Tryd.func13, Tryd.ntmps13
  go_wp2
  refine wp_loop_rounds 2 ?_
  rw [rounds_succ]
  go_wp2_with (first
    | (go_at_call 36; refine HH.out.2.1.mono ?_; rintro e w1 ⟨r1, rfl, o1, b1⟩; have H1 : Hid _ := And.intro (row_of_owns o1) b1; clear o1 b1)
    | (at_builtin; refine wpList_append_loc rfl (.tmp 20) (.tmp 21) rfl base _ xs rfl (owns_below HH.out.1 H1.out.2) _ (putv n) rfl H1.out.1 (by have := HH.out.2.2.2; omega) (Nat.le_trans HH.out.2.2.1 H1.out.2.size) ?_; intro q2 w2 o2 g2; have H2 : Hid _ := And.intro o2 (GrW.after H1.out.2 g2); clear o2 g2))
  rw [rounds_succ]
  go_wp2
  go_ret
  exact ⟨_, rfl, H2.out.1, H2.out.2⟩
theorem Tab.alh {w : World} (h : Tab w) (o : Obj) : Tab (w.alloc o) := h.below ((Below.refl _ _).alloc (Nat.le_refl _) o) h.lt
set_option maxRecDepth 20000 in
set_option maxHeartbeats 1000000 in
theorem putC1h (base : Nat) (vo vv : Value) (xs ys : List Int) (g : Nat) (w : World) (ht : Tab w) (ho : w.ownsRow base 5 1 vo xs.length (xs.map (Value.int .u8))) (hv : Row w .u8 vv ys) (ha : ys ≠ [] → ∀ k, vv.ownBlock = some k → vo.ownBlock ≠ some k) (hb : base ≤ w.heap.size) (hx : xs.length ≤ 100000) (hy : ys.length ≤ 100000) (hc : w.cell? ⟨g, 0, none⟩ = some vv) :
    Calls Tryd.prog 12 #[vo, .slice (some ⟨g, 0, none⟩) 1 1] w fun e w' => ∃ r, e = .returned r ∧ w'.ownsRow base 5 1 r (xs ++ (putv ys.length ++ ys)).length ((xs ++ (putv ys.length ++ ys)).map (Value.int .u8)) ∧ GrW w w' vo r := by
  obtain ⟨ao, cap, rfl⟩ := hv.form
  have al : Below w.heap.size w (w.alloc (.cells #[.int .i64 (ys.length : Int)] 3)) := (Below.refl _ _).alloc (Nat.le_refl _) _
  have C := putN1h base vo xs ys.length w.heap.size _ (ht.alh _) (owns_below ho al) (Nat.le_trans hb al.size) (by omega) (by omega) (by omega) (laid1h w (.int .i64 (ys.length : Int)) 3)
  have HH : Hid _ := And.intro C (And.intro (hv.below al) (And.intro ha (And.intro hb (And.intro (putv_le ys.length (by omega) (by omega)) al))))
  obtain ⟨n, en⟩ : ∃ n, n = ys.length := ⟨_, rfl⟩
  have EN : Hid _ := And.intro en True.intro
  have hny : n ≤ 100000 := by omega
  rw [← en] at hc ⊢
  clear C hv ha hb ho en hy ht al
  go_enter Tryd.func12, Tryd.ntmps12
  go_wp2
  refine wp_loop_rounds 2 ?_
  rw [rounds_succ]
  go_wp2_with (first
    | (go_at_call 13; rw [EN.out.1]; refine HH.out.1.mono ?_; rintro e w1 ⟨r1, rfl, o1, g1⟩; have H1 : Hid _ := And.intro o1 (And.intro g1 (GrW.after HH.out.2.2.2.2.2 g1)); clear o1 g1)
    | (at_builtin; refine wpList_append_loc rfl (.tmp 17) (.tmp 18) rfl base _ (xs ++ putv ys.length) rfl H1.out.1 _ ys (by rw [← EN.out.1]; rfl) (HH.out.2.1.chg H1.out.2.1.chg (fun hx k h e => HH.out.2.2.1 hx k h e)) (by have := HH.out.2.2.2.2.1; have := EN.out.1; rw [List.length_append]; omega) (Nat.le_trans HH.out.2.2.2.1 H1.out.2.2.chg.size) ?_; intro q2 w2 o2 g2; have H2 : Hid _ := And.intro o2 (GrW.trans H1.out.2.2 g2); clear o2 g2))
  rw [rounds_succ]
  go_wp2
  go_ret
  refine ⟨_, rfl, ?_, H2.out.2⟩
  have := H2.out.1
  rw [List.append_assoc, ← EN.out.1] at this
  exact this
theorem GrW.cellh {w w' : World} {v v' : Value} (g : GrW w w' v v') {q i : Nat} (hq : q < w.heap.size) (hv : v.ownBlock ≠ some q) : w'.cell? ⟨q, i, none⟩ = w.cell? ⟨q, i, none⟩ := by
  have := g.chg.block q hq hv
  simp only [World.cell?, this]
set_option maxRecDepth 20000 in
set_option maxHeartbeats 1000000 in
theorem putN2h (base : Nat) (vo : Value) (xs : List Int) (n m : Int) (g : Nat) (w : World) (ht : Tab w) (ho : w.ownsRow base 5 1 vo xs.length (xs.map (Value.int .u8))) (hb : base ≤ w.heap.size) (htb : ∀ u, Below base w u → Tab u) (hx : xs.length ≤ 1000000) (h0 : 0 ≤ n) (h1 : n ≤ 4611686018427387903) (m0 : 0 ≤ m) (m1 : m ≤ 4611686018427387903) (hgl : g < w.heap.size) (hgo : vo.ownBlock ≠ some g) (hc : w.cell? ⟨g, 0, none⟩ = some (.int .i64 n)) (hc1 : w.cell? ⟨g, 1, none⟩ = some (.int .i64 m)) :
    Calls Tryd.prog 13 #[vo, .slice (some ⟨g, 0, none⟩) 2 2] w fun e w' => ∃ r, e = .returned r ∧ w'.ownsRow base 5 1 r ((xs ++ putv n) ++ putv m).length (((xs ++ putv n) ++ putv m).map (Value.int .u8)) ∧ GrW w w' vo r := by
  have HH : Hid _ := And.intro ho (And.intro (implPutVar n w ht h0 h1) (And.intro hb (And.intro (putv_le n h0 h1) (putv_le m m0 m1))))
  have HG : Hid _ := And.intro hgl (And.intro hgo (And.intro hc1 (And.intro htb (And.intro m0 m1))))
  clear ho hb ht htb hgo hc1
  go_enter Tryd.func13, Tryd.ntmps13
  go_wp2
  refine wp_loop_rounds 3 ?_
  rw [rounds_succ]
  go_wp2_with (first
    | (go_at_call 36; refine HH.out.2.1.mono ?_; rintro e w1 ⟨r1, rfl, o1, b1⟩; have H1 : Hid _ := And.intro (row_of_owns o1) b1; clear o1 b1)
    | (at_builtin; refine wpList_append_loc rfl (.tmp 20) (.tmp 21) rfl base _ xs rfl (owns_below HH.out.1 H1.out.2) _ (putv n) rfl H1.out.1 (by have := HH.out.2.2.2.1; omega) (Nat.le_trans HH.out.2.2.1 H1.out.2.size) ?_; intro q2 w2 o2 g2; have H2 : Hid _ := And.intro o2 (GrW.after H1.out.2 g2); clear o2 g2))
  have d1 : w2.cell? ⟨g, 1, none⟩ = some (.int .i64 m) := (H2.out.2.cellh HG.out.1 HG.out.2.1).trans HG.out.2.2.1
  have HT : Hid (Tab w2) := HG.out.2.2.2.1 w2 (H2.out.2.below HH.out.1 HH.out.2.2.1)
  have C2 : Hid _ := And.intro (implPutVar m w2 HT.out HG.out.2.2.2.2.1 HG.out.2.2.2.2.2) True.intro
  have HS : Hid (base ≤ w2.heap.size) := Nat.le_trans HH.out.2.2.1 H2.out.2.chg.size
  rw [rounds_succ]
  go_wp2_with (first
    | (go_at_call 36; refine C2.out.1.mono ?_; rintro e w3 ⟨r3, rfl, o3, b3⟩; have H3 : Hid _ := And.intro (row_of_owns o3) b3; clear o3 b3)
    | (at_builtin; refine wpList_append_loc rfl (.tmp 20) (.tmp 21) rfl base _ (xs ++ putv n) rfl (owns_below H2.out.1 H3.out.2) _ (putv m) rfl H3.out.1 (by have := HH.out.2.2.2.1; have := HH.out.2.2.2.2; rw [List.length_append]; omega) (Nat.le_trans HS.out H3.out.2.size) ?_; intro q4 w4 o4 g4; have H4 : Hid _ := And.intro o4 (H2.out.2.trans (GrW.after H3.out.2 g4)); clear o4 g4))
  rw [rounds_succ]
  go_wp2
  go_ret
  exact ⟨_, rfl, H4.out.1, H4.out.2⟩
end Go.Proofs.YtdommkpeilmdnaaDoor

namespace Go.Proofs.YtdommkpeilmdnaaDoor
open Go.RowKit
set_option linter.unusedVariables false

theorem fldH (b : Bool) (x y : Int) (w : World) : (Instr.field 45 (.agg #[.bool b, .int .i64 x, .int .i64 y]) 0).run Tryd.prog w = .ok (.bool b) w := by kernel_rfl
theorem laid2h (w : World) (x y : Value) (t : TypeId) : (w.alloc (.cells #[x, y] t)).cell? ⟨w.heap.size, 0, none⟩ = some x ∧ (w.alloc (.cells #[x, y] t)).cell? ⟨w.heap.size, 1, none⟩ = some y := by
  exact ⟨bk_cell (heap_alloc_new w (.cells #[x, y] t)) 0, bk_cell (heap_alloc_new w (.cells #[x, y] t)) 1⟩
theorem plB_num (f : HF) : plB f = ((if shN f.k then putv f.a else []) ++ setB f.s) ++ f.d := by
  unfold plB shN
  by_cases h : f.k = 7 ∨ f.k = 15 <;> simp [h]
set_option maxRecDepth 20000 in
set_option maxHeartbeats 4000000 in
theorem plI (f : HF) (d s : Value) (w : World) (ht : Tab w) (hd : Row w .u8 d f.d) (h : GRow 2 w s (SSetting.L f.s)) (hp : hyP f.k f.a f.d.length f.s) :
    Calls Tryd.prog 14 #[hV f d s] w fun e w' => ∃ r, e = .returned r ∧ w'.ownsRow w.heap.size 5 1 r (plB f).length ((plB f).map (Value.int .u8)) ∧ Below w.heap.size w w' := by
  have hple := plB_le f hp
  have hnum := plB_num f
  have hfd : f.d.length ≤ 16384 := by have := hp.2.2; unfold hyK at this; omega
  have hfs : f.s.length ≤ 16 := by have := hp.2.2; unfold hyK at this; omega
  obtain ⟨⟨p1, p2⟩, p3, p4⟩ := hp
  rw [hin_iff] at p1 p2
  have hsl := setB_le f.s p3
  have hro := srow_form h
  have hrd := hd.form
  have A0 : Below (w.heap.size + 1) (w.alloc (.cells #[.int .i64 f.k, .int .i64 f.a, d, s] 26)) (w.alloc (.cells #[.int .i64 f.k, .int .i64 f.a, d, s] 26)) := Below.refl _ _
  have bA : ∀ u, Below (w.heap.size + 1) (w.alloc (.cells #[.int .i64 f.k, .int .i64 f.a, d, s] 26)) u → Below w.heap.size w u := fun u hu => ((Below.refl w.heap.size w).alloc (Nat.le_refl _) _).trans (hu.mono (by omega))
  have TT : ∀ u, Below (w.heap.size + 1) (w.alloc (.cells #[.int .i64 f.k, .int .i64 f.a, d, s] 26)) u → Tab u := fun u hu => ht.below (bA u hu) ht.lt
  have DD : ∀ u, Below (w.heap.size + 1) (w.alloc (.cells #[.int .i64 f.k, .int .i64 f.a, d, s] 26)) u → Row u .u8 d f.d := fun u hu => hd.below (bA u hu)
  have SS : ∀ u, Below (w.heap.size + 1) (w.alloc (.cells #[.int .i64 f.k, .int .i64 f.a, d, s] 26)) u → GRow 2 u s (SSetting.L f.s) := fun u hu => h.below (bA u hu)
  obtain ⟨ao, cp, rfl⟩ := hro
  obtain ⟨bo, cd, rfl⟩ := hrd
  obtain ⟨k, a, D, S⟩ := f
  unfold hV
  simp only at *
  obtain ⟨R, eR⟩ : ∃ R, R = plB ⟨k, a, D, S⟩ := ⟨_, rfl⟩
  rw [← eR] at hple hnum ⊢
  clear eR
  have C0 := shapeI k (w.alloc (.cells #[.int .i64 k, .int .i64 a, .slice bo D.length cd, .slice ao S.length cp] 26))
  obtain ⟨n, en⟩ : ∃ n, n = D.length := ⟨_, rfl⟩
  obtain ⟨m, em⟩ : ∃ m, m = S.length := ⟨_, rfl⟩
  rw [← en, ← em] at A0 bA TT DD SS C0 ⊢
  obtain ⟨fl, efl⟩ : ∃ fl, fl = shN k := ⟨_, rfl⟩
  obtain ⟨d0, ed0⟩ : ∃ x, x = shD k := ⟨_, rfl⟩
  obtain ⟨d1, ed1⟩ : ∃ x, x = shS k := ⟨_, rfl⟩
  rw [← efl, ← ed0, ← ed1] at C0
  rw [← efl] at hnum
  obtain ⟨P0, eP0⟩ : ∃ P0, P0 = (if fl then putv a else []) := ⟨_, rfl⟩
  rw [← eP0] at hnum
  have hP0 : P0.length ≤ 8 := by rw [eP0]; split; exact putv_le a p2.1 p2.2; simp
  have hmm : m ≤ 16 := by rw [em]; exact hfs
  have H : Hid _ := And.intro A0 (And.intro bA (And.intro TT (And.intro DD (And.intro SS C0))))
  have HE : Hid _ := And.intro hnum (And.intro em (And.intro hsl (And.intro p3 (And.intro hP0 (And.intro en hfd)))))
  have HP : Hid _ := And.intro p2 (And.intro eP0 True.intro)
  clear A0 bA TT DD SS C0 h hd ht hnum em hsl p3 hP0 en hple p1 p2 p4 efl ed0 ed1 eP0 hfd hfs
  -- what holds behind the first number, and the loop over the settings
  go_enter Tryd.func14, Tryd.ntmps14
  go_wp2_with fail
  go_at_call 19
  refine H.out.2.2.2.2.2.mono ?_
  rintro e w1 ⟨rfl, b1⟩
  have A1 : Below (w.heap.size + 1) (w.alloc (.cells #[.int .i64 k, .int .i64 a, .slice bo n cd, .slice ao m cp] 26)) w1 := by simpa using b1
  obtain ⟨y0, y1, y2, y3⟩ := hb_cells A1
  have hz : w.heap.size + 1 ≤ w1.heap.size := by have := A1.size; simpa using this
  have H1 : Hid _ := And.intro A1 hz
  clear b1 A1 hz
  have hfl := fldH fl d0 d1
  cases fl with
  | false =>
    have OS : Hid _ := And.intro (show w1.ownsRow (w.heap.size + 1) 5 1 (.slice none 0 0) P0.length (P0.map (Value.int .u8)) by rw [HP.out.2.1]; exact World.ownsRow_nil _ _ _ _) H1.out.1
    go_wp2_with fail
    go_loopg [3, 18] m (fun q x i wr => ∃ j : Nat, j ≤ m ∧ q = m - j ∧ i = .int .i64 (j : Int) ∧ wr.ownsRow (w.heap.size + 1) 5 1 x (P0 ++ setB (S.take j)).length ((P0 ++ setB (S.take j)).map (Value.int .u8)) ∧ Below (w.heap.size + 1) (w.alloc (.cells #[.int .i64 k, .int .i64 a, .slice bo n cd, .slice ao m cp] 26)) wr)
    case atStart => exact ⟨0, by omega, by omega, rfl, by simpa [setB] using OS.out.1, OS.out.2⟩
    case round =>
      obtain ⟨j, hj, rfl, rfl, ow, bw⟩ := hrel
      obtain ⟨y0, y1, y2, y3⟩ := hb_cells bw
      by_cases hlt : j < m
      · obtain ⟨b, off, rfl, hbl, cc⟩ := srow_at (H.out.2.2.2.2.1 wr bw) HE.out.2.1 j hlt
        have hv := (HE.out.2.2.2.1 j (by rw [← HE.out.2.1]; exact hlt)).1
        rw [hin_iff, hin_iff] at hv
        have hsu := setB_succ S j (by rw [← HE.out.2.1]; exact hlt)
        have hle := HE.out.2.2.1 j (by rw [← HE.out.2.1]; omega)
        obtain ⟨c0, c1⟩ := cc wr (Below.refl _ _)
        obtain ⟨x0, ex0⟩ : ∃ x, x = (S.getD j default).f0 := ⟨_, rfl⟩
        obtain ⟨x1, ex1⟩ : ∃ x, x = (S.getD j default).f1 := ⟨_, rfl⟩
        rw [← ex0] at c0 hv hsu
        rw [← ex1] at c1 hv hsu
        have hsz : w.heap.size + 1 ≤ wr.heap.size := by have := bw.size; simpa using this
        have al : Below wr.heap.size wr ((wr.alloc (.cells #[.int .i64 x0, .int .i64 x1] 62)).alloc (.cells #[.int .i64 x0, .int .i64 x1] 3)) := ((Below.refl _ _).alloc (Nat.le_refl _) _).alloc (by simp) _
        have bal := bw.trans (al.mono hsz)
        have hoo := owns_below ow al
        have l2 := laid2h (wr.alloc (.cells #[.int .i64 x0, .int .i64 x1] 62)) (.int .i64 x0) (.int .i64 x1) 3
        rw [show (wr.alloc (.cells #[.int .i64 x0, .int .i64 x1] 62)).heap.size = wr.heap.size + 1 by simp] at l2
        have C2 := putN2h (w.heap.size + 1) _ (P0 ++ setB (S.take j)) x0 x1 (wr.heap.size + 1) _ (H.out.2.2.1 _ bal) hoo (Nat.le_trans hsz al.size) (fun u hu => H.out.2.2.1 _ (bal.trans hu)) (by rw [List.length_append]; have := HE.out.2.2.2.2.1; omega) hv.1.1 hv.1.2 hv.2.1 hv.2.2 (by simp) (fun e => by have := (ow.lt _ e).2; omega) l2.1 l2.2
        have HX : Hid _ := And.intro C2 (And.intro hsu (And.intro hoo (And.intro bal (Nat.le_trans hsz al.size))))
        clear C2 hsu hoo bal al ow bw hv hle cc ex0 ex1 l2 hsz
        go_wp2_with fail
        go_at_call 13
        refine HX.out.1.mono ?_
        rintro e w3 ⟨r3, rfl, o3, g3⟩
        have H3 : Hid _ := And.intro o3 (HX.out.2.2.2.1.trans (g3.below HX.out.2.2.1 HX.out.2.2.2.2))
        clear o3 g3
        go_wp2_with fail
        go_roundg (m - (j + 1))
        case measure => omega
        case rel => exact ⟨j + 1, by omega, rfl, by go_num, by rw [HX.out.2.1, ← List.append_assoc, ← List.append_assoc]; exact H3.out.1, H3.out.2⟩
      · obtain rfl : j = m := by omega
        have hsz : w.heap.size + 1 ≤ wr.heap.size := by have := bw.size; simpa using this
        have OW : Hid _ := And.intro ow (And.intro bw hsz)
        clear ow bw hsz
        go_wp2_with (at_builtin; refine wpList_append_row rfl _ _ rfl (w.heap.size + 1) _ _ (P0 ++ setB (S.take j)) rfl OW.out.1 (.slice bo n cd) D rfl (H.out.2.2.2.1 _ OW.out.2.1) (by have := HE.out.2.2.2.2.2.2; have := HE.out.2.2.1 j (by rw [← HE.out.2.1]; omega); have := HE.out.2.2.2.2.1; rw [List.length_append]; omega) OW.out.2.2 ?_; intro v9 w9 o9 g9)
        have b9 := OW.out.2.1.grown g9 OW.out.2.2 (fun q e => (OW.out.1.lt q e).1)
        have H9 : Hid _ := And.intro o9 b9
        clear o9 g9 b9
        go_ret
        refine ⟨_, rfl, ?_, H.out.2.1 _ H9.out.2⟩
        have o3 := H9.out.1
        have e1 : S.take j = S := by rw [HE.out.2.1]; exact List.take_length
        rw [e1, ← HE.out.1, show (P0 ++ setB S).length + D.length = R.length by rw [HE.out.1]; simp only [List.length_append]] at o3
        exact owns_mono (base' := w.heap.size) o3 (by omega)
  | true =>
    have al : Below w1.heap.size w1 (w1.alloc (.cells #[.int .i64 a] 3)) := (Below.refl _ _).alloc (Nat.le_refl _) _
    have C1 := putN1h (w.heap.size + 1) (.slice none 0 0) [] a w1.heap.size _ (H.out.2.2.1 _ (H1.out.1.trans (al.mono H1.out.2))) (World.ownsRow_nil _ _ _ _) (Nat.le_trans H1.out.2 al.size) (by simp) HP.out.1.1 HP.out.1.2 (laid1h w1 (.int .i64 a) 3)
    have HC : Hid _ := And.intro C1 (And.intro (H1.out.1.trans (al.mono H1.out.2)) (Nat.le_trans H1.out.2 al.size))
    clear C1 al
    go_wp2_with fail
    go_at_call 13
    refine HC.out.1.mono ?_
    rintro e w2 ⟨r2, rfl, o2, g2⟩
    have OS : Hid (w2.ownsRow (w.heap.size + 1) 5 1 r2 P0.length (P0.map (Value.int .u8)) ∧ Below (w.heap.size + 1) (w.alloc (.cells #[.int .i64 k, .int .i64 a, .slice bo n cd, .slice ao m cp] 26)) w2) := by
      refine ⟨?_, HC.out.2.1.trans (g2.below (World.ownsRow_nil _ _ _ _) HC.out.2.2)⟩
      rw [HP.out.2.1]
      exact o2
    clear o2 g2
    obtain ⟨x0', x1', x2', x3'⟩ := hb_cells OS.out.2
    go_wp2_with fail
    go_loopg [3, 18] m (fun q x i wr => ∃ j : Nat, j ≤ m ∧ q = m - j ∧ i = .int .i64 (j : Int) ∧ wr.ownsRow (w.heap.size + 1) 5 1 x (P0 ++ setB (S.take j)).length ((P0 ++ setB (S.take j)).map (Value.int .u8)) ∧ Below (w.heap.size + 1) (w.alloc (.cells #[.int .i64 k, .int .i64 a, .slice bo n cd, .slice ao m cp] 26)) wr)
    case atStart => exact ⟨0, by omega, by omega, rfl, by simpa [setB] using OS.out.1, OS.out.2⟩
    case round =>
      obtain ⟨j, hj, rfl, rfl, ow, bw⟩ := hrel
      obtain ⟨y0, y1, y2, y3⟩ := hb_cells bw
      by_cases hlt : j < m
      · obtain ⟨b, off, rfl, hbl, cc⟩ := srow_at (H.out.2.2.2.2.1 wr bw) HE.out.2.1 j hlt
        have hv := (HE.out.2.2.2.1 j (by rw [← HE.out.2.1]; exact hlt)).1
        rw [hin_iff, hin_iff] at hv
        have hsu := setB_succ S j (by rw [← HE.out.2.1]; exact hlt)
        have hle := HE.out.2.2.1 j (by rw [← HE.out.2.1]; omega)
        obtain ⟨c0, c1⟩ := cc wr (Below.refl _ _)
        obtain ⟨x0, ex0⟩ : ∃ x, x = (S.getD j default).f0 := ⟨_, rfl⟩
        obtain ⟨x1, ex1⟩ : ∃ x, x = (S.getD j default).f1 := ⟨_, rfl⟩
        rw [← ex0] at c0 hv hsu
        rw [← ex1] at c1 hv hsu
        have hsz : w.heap.size + 1 ≤ wr.heap.size := by have := bw.size; simpa using this
        have al : Below wr.heap.size wr ((wr.alloc (.cells #[.int .i64 x0, .int .i64 x1] 62)).alloc (.cells #[.int .i64 x0, .int .i64 x1] 3)) := ((Below.refl _ _).alloc (Nat.le_refl _) _).alloc (by simp) _
        have bal := bw.trans (al.mono hsz)
        have hoo := owns_below ow al
        have l2 := laid2h (wr.alloc (.cells #[.int .i64 x0, .int .i64 x1] 62)) (.int .i64 x0) (.int .i64 x1) 3
        rw [show (wr.alloc (.cells #[.int .i64 x0, .int .i64 x1] 62)).heap.size = wr.heap.size + 1 by simp] at l2
        have C2 := putN2h (w.heap.size + 1) _ (P0 ++ setB (S.take j)) x0 x1 (wr.heap.size + 1) _ (H.out.2.2.1 _ bal) hoo (Nat.le_trans hsz al.size) (fun u hu => H.out.2.2.1 _ (bal.trans hu)) (by rw [List.length_append]; have := HE.out.2.2.2.2.1; omega) hv.1.1 hv.1.2 hv.2.1 hv.2.2 (by simp) (fun e => by have := (ow.lt _ e).2; omega) l2.1 l2.2
        have HX : Hid _ := And.intro C2 (And.intro hsu (And.intro hoo (And.intro bal (Nat.le_trans hsz al.size))))
        clear C2 hsu hoo bal al ow bw hv hle cc ex0 ex1 l2 hsz
        go_wp2_with fail
        go_at_call 13
        refine HX.out.1.mono ?_
        rintro e w3 ⟨r3, rfl, o3, g3⟩
        have H3 : Hid _ := And.intro o3 (HX.out.2.2.2.1.trans (g3.below HX.out.2.2.1 HX.out.2.2.2.2))
        clear o3 g3
        go_wp2_with fail
        go_roundg (m - (j + 1))
        case measure => omega
        case rel => exact ⟨j + 1, by omega, rfl, by go_num, by rw [HX.out.2.1, ← List.append_assoc, ← List.append_assoc]; exact H3.out.1, H3.out.2⟩
      · obtain rfl : j = m := by omega
        have hsz : w.heap.size + 1 ≤ wr.heap.size := by have := bw.size; simpa using this
        have OW : Hid _ := And.intro ow (And.intro bw hsz)
        clear ow bw hsz
        go_wp2_with (at_builtin; refine wpList_append_row rfl _ _ rfl (w.heap.size + 1) _ _ (P0 ++ setB (S.take j)) rfl OW.out.1 (.slice bo n cd) D rfl (H.out.2.2.2.1 _ OW.out.2.1) (by have := HE.out.2.2.2.2.2.2; have := HE.out.2.2.1 j (by rw [← HE.out.2.1]; omega); have := HE.out.2.2.2.2.1; rw [List.length_append]; omega) OW.out.2.2 ?_; intro v9 w9 o9 g9)
        have b9 := OW.out.2.1.grown g9 OW.out.2.2 (fun q e => (OW.out.1.lt q e).1)
        have H9 : Hid _ := And.intro o9 b9
        clear o9 g9 b9
        go_ret
        refine ⟨_, rfl, ?_, H.out.2.1 _ H9.out.2⟩
        have o3 := H9.out.1
        have e1 : S.take j = S := by rw [HE.out.2.1]; exact List.take_length
        rw [e1, ← HE.out.1, show (P0 ++ setB S).length + D.length = R.length by rw [HE.out.1]; simp only [List.length_append]] at o3
        exact owns_mono (base' := w.heap.size) o3 (by omega)
end Go.Proofs.YtdommkpeilmdnaaDoor

namespace Go.Proofs.YtdommkpeilmdnaaDoor
open Go.RowKit
set_option linter.unusedVariables false

set_option maxRecDepth 20000 in
set_option maxHeartbeats 4000000 in
theorem hbyI (f : HF) (d s : Value) (w : World) (ht : Tab w) (hd : Row w .u8 d f.d) (h : GRow 2 w s (SSetting.L f.s)) (hn : f.d.length ≤ 1048576) (hm : f.s.length ≤ 1048576) :
    Calls Tryd.prog 5 #[hV f d s] w fun e w' => ∃ r, e = .returned (.tuple #[r, .int .i64 (hbR f).2]) ∧ w'.ownsRow w.heap.size 5 1 r (hbR f).1.length ((hbR f).1.map (Value.int .u8)) ∧ Below w.heap.size w w' := by
  have bA : ∀ u, Below (w.heap.size + 1) (w.alloc (.cells #[.int .i64 f.k, .int .i64 f.a, d, s] 26)) u → Below w.heap.size w u := fun u hu => ((Below.refl w.heap.size w).alloc (Nat.le_refl _) _).trans (hu.mono (by omega))
  have b0 := bA _ (Below.refl _ _)
  have PL : hyP f.k f.a f.d.length f.s → ∀ u, Below w.heap.size w u → _ := fun hp u hu => plI f d s u (ht.below hu ht.lt) (hd.below hu) (h.below hu) hp
  have TT : ∀ u, Below w.heap.size w u → Tab u := fun u hu => ht.below hu ht.lt
  have hro := srow_form h
  have hrd := hd.form
  have CK : ∀ u, Below w.heap.size w u → Calls Tryd.prog 7 #[hV f d s] u fun e w' => e = .returned (.bool (decide (hyP f.k f.a f.d.length f.s))) ∧ Below u.heap.size u w' := fun u hu => by
    obtain ⟨bo, cd, e⟩ := hrd
    unfold hV
    rw [e]
    exact hokI f.k f.a bo f.d.length cd s f.s u (h.below hu) (by omega) (by omega)
  by_cases hp : hyP f.k f.a f.d.length f.s
  · rw [show hbR f = (hyBy f, 0) by unfold hbR; rw [if_pos hp]]
    have hle := plB_le f hp
    have hk := hp.1.1
    rw [hin_iff] at hk
    have PL' := PL hp
    simp only [hp, decide_true] at CK
    have eB : hyBy f = putv f.k ++ (putv (plB f).length ++ plB f) := rfl
    obtain ⟨ao, cp, rfl⟩ := hro
    obtain ⟨bo, cd, rfl⟩ := hrd
    obtain ⟨Q, eQ⟩ : ∃ Q, Q = plB f := ⟨_, rfl⟩
    obtain ⟨B, eB'⟩ : ∃ B, B = hyBy f := ⟨_, rfl⟩
    rw [← eQ, ← eB'] at eB
    rw [← eQ] at hle PL'
    rw [← eB']
    obtain ⟨n, en⟩ : ∃ n, n = f.d.length := ⟨_, rfl⟩
    obtain ⟨m, em⟩ : ∃ m, m = f.s.length := ⟨_, rfl⟩
    rw [← en, ← em] at bA b0 PL' CK ⊢
    have H : Hid _ := And.intro bA (And.intro b0 (And.intro PL' (And.intro CK (And.intro eB (And.intro hle hk)))))
    have HT : Hid _ := And.intro TT True.intro
    clear bA b0 PL PL' CK eB hle hk hp hd h hn hm en em eQ eB' ht TT
    unfold hV at *
    obtain ⟨k, a, D, S⟩ := f
    simp only at *
    go_enter Tryd.func5, Tryd.ntmps5
    go_wp2_with fail
    go_at_call 7
    refine (H.out.2.2.2.1 _ H.out.2.1).mono ?_
    rintro e w1 ⟨rfl, b1⟩
    have A1 : Below (w.heap.size + 1) (w.alloc (.cells #[.int .i64 k, .int .i64 a, .slice bo n cd, .slice ao m cp] 26)) w1 := by simpa using b1
    have bd : Below w1.heap.size w1 w1.drew := below_drewN (Below.refl _ _) 1
    have hz : w.heap.size + 1 ≤ w1.heap.size := by have := A1.size; simpa using this
    have A1d := A1.trans (bd.mono hz)
    obtain ⟨y0, y1, y2, y3⟩ := hb_cells A1d
    have al : Below w1.heap.size w1 (w1.alloc (.cells #[.int .i64 k] 3)).drew := below_drewN ((Below.refl _ _).alloc (Nat.le_refl _) _) 1
    have AL := A1.trans (al.mono hz)
    have o0 : (w1.alloc (.cells #[.int .i64 k] 3)).drew.ownsRow w1.heap.size 5 1 (.slice none 0 0) ([] : List Int).length (([] : List Int).map (Value.int .u8)) := World.ownsRow_nil _ _ _ _
    have lk : (w1.alloc (.cells #[.int .i64 k] 3)).drew.cell? ⟨w1.heap.size, 0, none⟩ = some (.int .i64 k) := laid1h w1 (.int .i64 k) 3
    have C1 := putN1h w1.heap.size (.slice none 0 0) [] k w1.heap.size (w1.alloc (.cells #[.int .i64 k] 3)).drew (HT.out.1 _ (H.out.1 _ AL)) o0 (by simp) (by simp) H.out.2.2.2.2.2.2.1 H.out.2.2.2.2.2.2.2 lk
    obtain ⟨q0, q1, q2, q3⟩ := hb_cells AL
    have H1 : Hid _ := And.intro C1 (And.intro o0 (And.intro AL hz))
    clear b1 A1 bd A1d al o0 C1 AL lk
    go_wp2_with fail
    go_region_held3 (fun w' => w'.cell? ⟨w.heap.size, 0, none⟩ = some (.int .i64 k) ∧ w'.cell? ⟨w.heap.size, 1, none⟩ = some (.int .i64 a) ∧ w'.cell? ⟨w.heap.size, 2, none⟩ = some (.slice bo n cd) ∧ w'.cell? ⟨w.heap.size, 3, none⟩ = some (.slice ao m cp)) (go_keep)
      (first
      | (go_at_call 13; refine H1.out.1.mono ?_; rintro e w2 ⟨r2, rfl, o2, g2⟩; have b2 := H1.out.2.2.1.trans ((g2.below H1.out.2.1 (by simp)).mono H1.out.2.2.2); obtain ⟨z0, z1, z2, z3⟩ := hb_cells b2; have H2 : Hid _ := And.intro o2 (And.intro b2 (show w1.heap.size ≤ w2.heap.size from Nat.le_trans (by simp) g2.chg.size)); clear o2 g2 b2)
      | (go_at_call 14; refine (H.out.2.2.1 w2 (H.out.1 _ H2.out.2.1)).mono ?_; rintro e w3 ⟨r3, rfl, o3, b3⟩; obtain ⟨ra3, rc3, er3⟩ := (row_of_owns o3).form; subst er3; have b3' := H2.out.2.1.trans (b3.mono (Nat.le_trans H1.out.2.2.2 H2.out.2.2)); obtain ⟨t0, t1, t2, t3⟩ := hb_cells b3'; obtain ⟨t0', t1', t2', t3'⟩ := hb_cells (b3'.trans (((Below.refl w3.heap.size w3).alloc (Nat.le_refl _) (.cells #[.slice ra3 Q.length rc3] 22)).mono (Nat.le_trans (Nat.le_trans H1.out.2.2.2 H2.out.2.2) b3.size))); have H3 : Hid _ := And.intro o3 (And.intro (owns_below H2.out.1 b3) (And.intro b3' (Nat.le_trans H2.out.2.2 b3.size))); clear o3 b3 b3')
      | (go_at_call 12; have al3 : Below w3.heap.size w3 (w3.alloc (.cells #[.slice ra3 Q.length rc3] 22)) := (Below.refl _ _).alloc (Nat.le_refl _) _; have b33 := H3.out.2.2.1.trans (al3.mono (Nat.le_trans H1.out.2.2.2 H3.out.2.2.2)); refine (putC1h w1.heap.size r2 (.slice ra3 Q.length rc3) ([] ++ putv k) Q w3.heap.size (w3.alloc (.cells #[.slice ra3 Q.length rc3] 22)) (HT.out.1 _ (H.out.1 _ b33)) (owns_below H3.out.2.1 al3) ((row_of_owns H3.out.1).below al3) (fun _ i hi hj => by have h1 := (H3.out.1.lt i hi).1; have h2 := (H2.out.1.lt i hj).2; omega) (Nat.le_trans H3.out.2.2.2 al3.size) (by have := putv_le k H.out.2.2.2.2.2.2.1 H.out.2.2.2.2.2.2.2; simp; omega) (by have := H.out.2.2.2.2.2.1; omega) (laid1h w3 (.slice ra3 Q.length rc3) 22)).mono ?_; rintro e w4 ⟨r4, rfl, o4, g4⟩; have b4 := b33.trans ((g4.below (owns_below H3.out.2.1 al3) (Nat.le_trans H3.out.2.2.2 al3.size)).mono H1.out.2.2.2); obtain ⟨v0, v1, v2, v3⟩ := hb_cells b4; have H5 : Hid _ := And.intro o4 b4; clear o4 g4 b4 al3 b33))
    all_goals
      go_wp2
      (try simp only [Exit.inBlock, Exit.then])
      refine bodyPost_ret (results_tmp2 rfl _ _ _) rfl ?_
      refine ⟨_, rfl, ?_, H.out.1 _ H5.out.2⟩
      have o5 := H5.out.1
      rw [List.nil_append, ← H.out.2.2.2.2.1] at o5
      exact owns_mono (base' := w.heap.size) o5 (by have := H1.out.2.2.2; omega)
  · rw [show hbR f = ([], 1) by unfold hbR; rw [if_neg hp]]
    simp only [hp, decide_false] at CK
    obtain ⟨ao, cp, rfl⟩ := hro
    obtain ⟨bo, cd, rfl⟩ := hrd
    obtain ⟨n, en⟩ : ∃ n, n = f.d.length := ⟨_, rfl⟩
    obtain ⟨m, em⟩ : ∃ m, m = f.s.length := ⟨_, rfl⟩
    rw [← en, ← em] at bA b0 CK ⊢
    have H : Hid _ := And.intro bA (And.intro b0 CK)
    clear bA b0 PL CK hp hd h hn hm en em ht TT
    unfold hV at *
    obtain ⟨k, a, D, S⟩ := f
    simp only at *
    go_enter Tryd.func5, Tryd.ntmps5
    go_wp2_with fail
    go_at_call 7
    refine (H.out.2.2 _ H.out.2.1).mono ?_
    rintro e w1 ⟨rfl, b1⟩
    have B1 := H.out.2.1.trans (b1.mono H.out.2.1.size)
    have H1 : Hid _ := And.intro B1 True.intro
    clear b1 B1
    go_wp2
    (try simp only [Exit.inBlock, Exit.then])
    refine bodyPost_ret (results_tmp2 rfl _ _ _) rfl ?_
    exact ⟨_, rfl, World.ownsRow_nil _ _ _ _, H1.out.1⟩
end Go.Proofs.YtdommkpeilmdnaaDoor
