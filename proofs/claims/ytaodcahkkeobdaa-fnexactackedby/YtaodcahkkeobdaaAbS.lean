import Derived.Test.YtaodcahkkeobdaaFrameW
import Derived.Test.YtaodcahkkeobdaaIvHas
import Derived.Laws.AppendOwnNone
import Derived.Deep.RegionLaw
namespace Go.Proofs.Ytaodcahkkeobdaa
open Go.RowKit
set_option linter.unusedVariables false

theorem infoI6 : (Try.prog.info? 3).map (fun i => (i.zero, i.size, i.bytes)) = some (some (.int .i64 0), 1, 8) := by kernel_rfl
/-- The place j of a list of numbers is good. -/
def ngood (xs : List Int) (j : Nat) : Prop := nin (xs.getD j 0) = true ∧ (0 < j → xs.getD (j - 1) 0 < xs.getD j 0)
instance (xs : List Int) (j : Nat) : Decidable (ngood xs j) := by unfold ngood; infer_instance
/-- 'append(own, x)' of integers. -/
theorem wpList_append_int {w : World} {ops : Array Oper} {rest : List Oper} {o : Oper} {a : Act} {Q : Exit → Act → World → Prop} (hgd : o.guard = none) (p q : Operand)
    (ho : o.op = .call { callee := .builtin .append, args := #[p, q], argTypes := #[38, 38] })
    (base : Nat) (v : Value) (ys : List Int) (hp : a.eval p = v) (hown : w.ownsRow base 3 1 v ys.length (ys.map (Value.int .i64))) (g : Nat) (x : Int) (hq : a.eval q = .slice (some ⟨g, 0, none⟩) 1 1) (hx : w.cell? ⟨g, 0, none⟩ = some (.int .i64 x)) (h63 : ys.length + 1 ≤ 1099511627776) (hbase : base ≤ w.heap.size)
    (h : ∀ v' w', w'.ownsRow base 3 1 v' (ys ++ [x]).length ((ys ++ [x]).map (Value.int .i64)) → w.grownBy w' v.ownBlock → wpList Try.prog ops Q rest (a.put o.dst v') w') :
    wpList Try.prog ops Q (o :: rest) a w := by
  obtain ⟨i0, hi, hz0, hz1, hz2⟩ := info_parts infoI6
  refine wpList_append_own w hgd p q 38 ho base 3 i0 (.int .i64 0) 1 8 Try.underlying38 hi hz0 hz1 hz2 rfl (by decide) v ys.length (ys.map (Value.int .i64)) hp hown ⟨g, 0, none⟩ 1 1 [.int .i64 x] hq rfl ?_ ?_ (by unfold maxLen; omega) (by omega) hbase ?_
  · intro j u hj
    match j, hj with
    | 0, hj => simp at hj; subst hj; rw [Go.WideShapes.add_plain]; exact hx
  · intro u hu; simp at hu; subst hu; rfl
  · intro v' w' ho' hg _
    refine h v' w' ?_ hg
    rw [List.length_append, List.map_append]
    exact ho'
theorem lit0_at (w : World) (g base : Nat) (hg : w.heap.size = g) (hb : base ≤ g) : (w.alloc (.cells #[] 3)).ownsRow base 3 1 (.slice (some ⟨g, 0, none⟩) 0 0) ([] : List Int).length (([] : List Int).map (Value.int .i64)) := by
  subst hg
  exact World.ownsRow_lit _ #[] 0 hb (by decide) rfl
def accL (R : List (Int × Int)) (xs : List Int) : List Int := xs.filter (rhasV R)
theorem take_succ_int (xs : List Int) (k : Nat) (hk : k < xs.length) : xs.take (k + 1) = xs.take k ++ [xs.getD k 0] := by
  rw [List.take_add_one]
  congr 1
  simp [List.getD, hk]
theorem accL_yes (R : List (Int × Int)) (xs : List Int) (k : Nat) (hk : k < xs.length) (h : rhasV R (xs.getD k 0) = true) : accL R (xs.take (k + 1)) = accL R (xs.take k) ++ [xs.getD k 0] := by
  rw [take_succ_int xs k hk]
  unfold accL
  rw [List.filter_append, List.filter_cons_of_pos h, List.filter_nil]
theorem accL_no (R : List (Int × Int)) (xs : List Int) (k : Nat) (hk : k < xs.length) (h : rhasV R (xs.getD k 0) = false) : accL R (xs.take (k + 1)) = accL R (xs.take k) := by
  rw [take_succ_int xs k hk]
  unfold accL
  rw [List.filter_append, List.filter_cons_of_neg (by rw [h]; decide), List.filter_nil, List.append_nil]
theorem accL_length (R : List (Int × Int)) (xs : List Int) : (accL R xs).length ≤ xs.length := List.length_filter_le _ _
theorem cell1 (w : World) (x : Value) (t : TypeId) : (w.alloc (.cells #[x] t)).cell? ⟨w.heap.size, 0, none⟩ = some x := bk_cell (heap_alloc_new w _) 0
theorem rhasS_ok (R : List (Int × Int)) (hr : rokV R = true) (hR : R.length ≤ 1048576) (v : Value) (x : Int) (w : World) (h : RRow w v R) : Calls Try.prog 34 #[v, .int .i64 x] w fun e w' => e = .returned (.bool (rhasV R x)) ∧ Below w.heap.size w w' := by
  have := rangesHas_S v R x w h hR
  rw [hr, Bool.true_and] at this
  exact this

set_option maxRecDepth 20000 in
set_option maxHeartbeats 8000000 in
theorem abS_long (h : F8) (a2 a3 a4 : Option Addr) (p2 p3 p4 : Nat) (xs : List Int) (ao : Option Addr) (cp : Nat) (w : World) (hl : 4096 < xs.length) (hm : xs.length ≤ 9223372036854775807) :
    Calls Try.prog 15 #[.agg #[.int .i64 h.k, .int .i64 h.a, .int .i64 h.b, .int .i64 h.c, .bool h.fin, .slice a2 h.d.length p2, .slice a3 h.t.length p3, .slice a4 h.r.length p4], .slice ao xs.length cp] w fun e w' => ∃ r, e = .returned (.tuple #[r, .int .i64 4]) ∧ w'.ownsRow w.heap.size 3 1 r ([] : List Int).length (([] : List Int).map (Value.int .i64)) ∧ Below w.heap.size w w' := by
  have A0 : Below w.heap.size w (w.alloc (.cells #[.int .i64 h.k, .int .i64 h.a, .int .i64 h.b, .int .i64 h.c, .bool h.fin, .slice a2 h.d.length p2, .slice a3 h.t.length p3, .slice a4 h.r.length p4] 27)) := (Below.refl _ _).alloc (Nat.le_refl _) _
  have K0 := heap_alloc_new w (.cells #[.int .i64 h.k, .int .i64 h.a, .int .i64 h.b, .int .i64 h.c, .bool h.fin, .slice a2 h.d.length p2, .slice a3 h.t.length p3, .slice a4 h.r.length p4] 27)
  have HH : Hid _ := And.intro A0 K0
  clear A0 K0
  generalize xs.length = m at hl hm
  have hd : (4096 : Int) < (m : Int) := by omega
  go_enter Try.func15, Try.ntmps15
  go_wp2
  go_ret2
  exact ⟨_, rfl, lit0_at _ (w.heap.size + 1) w.heap.size (by simp) (by omega), HH.out.1.alloc HH.out.1.size _⟩
set_option maxRecDepth 20000 in
set_option maxHeartbeats 8000000 in
theorem abS_kind (h : F8) (a2 a3 a4 : Option Addr) (p2 p3 p4 : Nat) (xs : List Int) (ao : Option Addr) (cp : Nat) (w : World) (hl : xs.length ≤ 4096) (hk : h.k ≠ 2) :
    Calls Try.prog 15 #[.agg #[.int .i64 h.k, .int .i64 h.a, .int .i64 h.b, .int .i64 h.c, .bool h.fin, .slice a2 h.d.length p2, .slice a3 h.t.length p3, .slice a4 h.r.length p4], .slice ao xs.length cp] w fun e w' => ∃ r, e = .returned (.tuple #[r, .int .i64 1]) ∧ w'.ownsRow w.heap.size 3 1 r ([] : List Int).length (([] : List Int).map (Value.int .i64)) ∧ Below w.heap.size w w' := by
  have A0 : Below w.heap.size w (w.alloc (.cells #[.int .i64 h.k, .int .i64 h.a, .int .i64 h.b, .int .i64 h.c, .bool h.fin, .slice a2 h.d.length p2, .slice a3 h.t.length p3, .slice a4 h.r.length p4] 27)) := (Below.refl _ _).alloc (Nat.le_refl _) _
  have K0 := heap_alloc_new w (.cells #[.int .i64 h.k, .int .i64 h.a, .int .i64 h.b, .int .i64 h.c, .bool h.fin, .slice a2 h.d.length p2, .slice a3 h.t.length p3, .slice a4 h.r.length p4] 27)
  have HH : Hid _ := And.intro A0 K0
  clear A0 K0
  generalize xs.length = m at hl
  have hd : decide ((4096 : Int) < (m : Int)) = false := decide_eq_false (by omega)
  have hk2 : (h.k != 2) = true := by simpa using hk
  go_enter Try.func15, Try.ntmps15
  go_wp2
  go_ret2
  exact ⟨_, rfl, lit0_at _ (w.heap.size + 1) w.heap.size (by simp) (by omega), HH.out.1.alloc HH.out.1.size _⟩
set_option maxRecDepth 20000 in
set_option maxHeartbeats 8000000 in
theorem abS_frame (h : F8) (a2 a3 a4 : Option Addr) (p2 p3 p4 : Nat) (xs : List Int) (ao : Option Addr) (cp : Nat) (w : World) (hrow : FRow w (.agg #[.int .i64 h.k, .int .i64 h.a, .int .i64 h.b, .int .i64 h.c, .bool h.fin, .slice a2 h.d.length p2, .slice a3 h.t.length p3, .slice a4 h.r.length p4]) h) (hx : Row w .i64 (.slice ao xs.length cp) xs) (hl : xs.length ≤ 4096) (hk : h.k = 2) (hS : ∀ v w, FRow w v h → Calls Try.prog 33 #[v] w fun e w' => e = .returned (.bool false) ∧ Below w.heap.size w w') :
    Calls Try.prog 15 #[.agg #[.int .i64 h.k, .int .i64 h.a, .int .i64 h.b, .int .i64 h.c, .bool h.fin, .slice a2 h.d.length p2, .slice a3 h.t.length p3, .slice a4 h.r.length p4], .slice ao xs.length cp] w fun e w' => ∃ r, e = .returned (.tuple #[r, .int .i64 1]) ∧ w'.ownsRow w.heap.size 3 1 r ([] : List Int).length (([] : List Int).map (Value.int .i64)) ∧ Below w.heap.size w w' := by
  have A0 : Below w.heap.size w (w.alloc (.cells #[.int .i64 h.k, .int .i64 h.a, .int .i64 h.b, .int .i64 h.c, .bool h.fin, .slice a2 h.d.length p2, .slice a3 h.t.length p3, .slice a4 h.r.length p4] 27)) := (Below.refl _ _).alloc (Nat.le_refl _) _
  have K0 := heap_alloc_new w (.cells #[.int .i64 h.k, .int .i64 h.a, .int .i64 h.b, .int .i64 h.c, .bool h.fin, .slice a2 h.d.length p2, .slice a3 h.t.length p3, .slice a4 h.r.length p4] 27)
  have OK := hS _ _ (hrow.below A0)
  have HH : Hid _ := And.intro A0 (And.intro K0 (And.intro OK (And.intro hrow hx)))
  obtain ⟨m, em⟩ : ∃ m, m = xs.length := ⟨_, rfl⟩
  have EM : Hid _ := And.intro em True.intro
  rw [← em] at hl HH ⊢
  clear A0 K0 OK hS hrow hx em
  have hd : decide ((4096 : Int) < (m : Int)) = false := decide_eq_false (by omega)
  have hk2 : (h.k != 2) = false := by simp [hk]
  clear hk
  go_enter Try.func15, Try.ntmps15
  go_wp2_with fail
  go_at_call 33
  refine HH.out.2.2.1.mono ?_
  rintro e w1 ⟨rfl, b1⟩
  have K1 := (b1.block w.heap.size (by simp)).trans HH.out.2.1
  have L1 : w.heap.size < w1.heap.size := (Array.getElem?_eq_some_iff.1 K1).1
  have B1 := HH.out.1.trans (b1.mono HH.out.1.size)
  have H1 : Hid _ := And.intro B1 True.intro
  clear b1 K1 B1
  go_wp2
  go_ret2
  exact ⟨_, rfl, World.ownsRow_lit _ #[] 0 H1.out.1.size (by decide) rfl, H1.out.1.alloc H1.out.1.size _⟩
end Go.Proofs.Ytaodcahkkeobdaa
