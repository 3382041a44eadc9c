import Derived.Test.YtcoakpmfappnlaaFxB
import Derived.Lib.MinMax
import Derived.BigRegion
import Derived.Laws.CopyOwn
import Derived.Laws.Tables
namespace Go.Proofs.Ytcoakpmfappnlaa
open Go.RowKit
set_option linter.unusedVariables false
set_option linter.unusedSimpArgs false

theorem MR.setO {w : World} {x base : Nat} {F : FS} {m : FX} {lv : Value} (h : MR w x base F m lv) {k : Nat} {c : Array Value} {fr : Nat × Nat} (hk : w.heap[k]? = some (.cells c 43 fr)) (i : Nat) (v : Value) : MR (w.setCell ⟨k, i, none⟩ v) x base F m lv := by
  refine ⟨(bk_other (bk_apart h.bk hk (by decide)) i v).trans h.bk, ?_, h.lo⟩
  obtain ⟨zs, ⟨hl, h2⟩, hz⟩ := h.ow
  refine ⟨zs, ⟨hl, ?_⟩, hz⟩
  rcases h2 with h2 | ⟨g', cap, cur, rfl, hg, hh, r⟩
  · exact Or.inl h2
  · exact Or.inr ⟨g', cap, cur, rfl, hg, (bk_other (bk_apart hh hk (by decide)) i v).trans hh, r⟩
theorem own_setM {T T' : TypeId} {K : Nat} {w : World} {base k i : Nat} {c : Array Value} {fr : Nat × Nat} {u v : Value} {L : List (List Value)} (h : GOwns T K w base v L) (hk : w.heap[k]? = some (.cells c T' fr)) (hT : T ≠ T') : GOwns T K (w.setCell ⟨k, i, none⟩ u) base v L := by
  obtain ⟨zs, ⟨hl, h2⟩, hz⟩ := h
  refine ⟨zs, ⟨hl, ?_⟩, hz⟩
  rcases h2 with h2 | ⟨g', cap, cur, rfl, hg, hh, r⟩
  · exact Or.inl h2
  · exact Or.inr ⟨g', cap, cur, rfl, hg, (bk_other (bk_apart hh hk hT) i u).trans hh, r⟩
/-- Amid an operation of the model: the credit, the observation at q, the frames. -/
structure OM (q x base : Nat) (w W : World) (F : FS) (m' : FX) (fv : Value) (fr : List (Int × Int × Int)) (r1 : Array Value) : Prop where
  P : MRep W x base F m'
  C : MCh base w W
  h1 : W.heap[q]? = some (.cells r1 43 (0, 0))
  f : GOwns 87 8 W w.heap.size fv (fr.map frC)
theorem OM.s {q x base : Nat} {w W : World} {F : FS} {m' : FX} {fv : Value} {fr : List (Int × Int × Int)} {r1 : Array Value} (hq : w.heap.size ≤ q) (h : OM q x base w W F m' fv fr r1) (o : Nat) (v : Value) : OM q x base w (W.setCell ⟨q, o, none⟩ v) F m' fv fr (r1.setIfInBounds o v) := by
  obtain ⟨lv, P⟩ := h.P
  exact ⟨⟨lv, P.setO h.h1 o v⟩, h.C.setN hq o v, bk_set h.h1 o v, own_setM h.f h.h1 (by decide)⟩
def MDo (w w' : World) (x base : Nat) (F : FS) (m' : FX) : Prop := MRep w' x base F m' ∧ MCh base w w'
theorem infoFObsM : (Try.prog.info? 43).map (·.size) = some 4 := by kernel_rfl
theorem framesM (w : World) (base : Nat) : GOwns 87 8 w base (.slice none 0 0) (([] : List (Int × Int × Int)).map frC) := ⟨[], World.ownsRow_nil _ _ _ _, fun j hj => by simp at hj⟩
/-- A new observation. -/
def obZ : Obj := .cells #[.int .i64 0, .int .i64 0, .int .i64 0, .slice none 0 0] 43
theorem oc_set (m : FX) (F : FS) (lv : Value) (o : Bool) (v : Int) : (mcells F m lv).setIfInBounds (10 + (if o then 1 else 0)) (.int .i64 v) = mcells F { m with op := updB m.op o v } lv := by cases o <;> rfl
theorem mc_set (m : FX) (F : FS) (lv : Value) (o : Bool) (v : Int) : (mcells F m lv).setIfInBounds (12 + (if o then 1 else 0)) (.int .i64 v) = mcells F { m with my := updB m.my o v } lv := by cases o <;> rfl
theorem tc_set (m : FX) (F : FS) (lv : Value) (o : Bool) (v : Int) : (mcells F m lv).setIfInBounds (15 + (if o then 1 else 0)) (.int .i64 v) = mcells F { m with tin := updB m.tin o v } lv := by cases o <;> rfl
theorem OM.new {x base : Nat} {w : World} {F : FS} {m : FX} (h : MRep w x base F m) (n : Nat) : OM w.heap.size x base w ((w.alloc obZ).drewN n) F m (.slice none 0 0) [] #[.int .i64 0, .int .i64 0, .int .i64 0, .slice none 0 0] := by
  obtain ⟨lv, P⟩ := h
  have hB : Below w.heap.size w ((w.alloc obZ).drewN n) := below_drewN ((Below.refl _ _).alloc (Nat.le_refl _) _) n
  exact ⟨⟨lv, P.below hB⟩, ChT.of_below hB, heap_alloc_new _ _, framesM _ _⟩
theorem mn3m (a b c : Int) (ts : Array TypeId) (t : TypeId) (w : World) : (Builtin.min_ ts t #[.int .i64 a, .int .i64 b, .int .i64 c]).run Try.prog w = .ok (.int .i64 (min (min a b) c)) w := by
  have e : ∀ x y : Int, (if y < x then y else x) = min x y := by
    intro x y
    rw [Int.min_def]
    split <;> split <;> omega
  simp [Builtin.min_, Builtin.min2, e]
theorem MR.grown {w w' : World} {x base q : Nat} {F : FS} {m : FX} {lv : Value} (h : MR w x base F m lv) (g : w.grownBy w' (some q)) {c : Array Value} {fr : Nat × Nat} (hq : w.heap[q]? = some (.cells c 43 fr)) : MR w' x base F m lv := by
  have hn : ∀ {k : Nat} {c' : Array Value} {T : TypeId} {fr' : Nat × Nat}, w.heap[k]? = some (.cells c' T fr') → T ≠ 43 → w'.heap[k]? = some (.cells c' T fr') := fun {k c' T fr'} hk hT => (g.block k (Array.getElem?_eq_some_iff.1 hk).1 (fun e => bk_apart hk hq hT (Option.some.inj e))).trans hk
  refine ⟨hn h.bk (by decide), ?_, h.lo⟩
  obtain ⟨zs, ⟨hl, h2⟩, hz⟩ := h.ow
  refine ⟨zs, ⟨hl, ?_⟩, hz⟩
  rcases h2 with h2 | ⟨g', cap, cur, rfl, hg, hh, r⟩
  · exact Or.inl h2
  · exact Or.inr ⟨g', cap, cur, rfl, hg, hn hh (by decide), r⟩
theorem OM.row {q x base : Nat} {w W : World} {F : FS} {m' : FX} {fv : Value} {fr : List (Int × Int × Int)} {r1 : Array Value} (h : OM q x base w W F m' fv fr r1) (hq : w.heap.size ≤ q) (cs : Array Value) : OM q x base w (W.setRow q cs) F m' fv fr cs := by
  obtain ⟨lv, P⟩ := h.P
  have g : W.grownBy (W.setRow q cs) (some q) := ⟨rfl, rfl, rfl, by simp [World.setRow], fun k hk hn => setRow_other W q k cs (fun e => hn (by rw [e]))⟩
  refine ⟨⟨lv, P.grown g h.h1⟩, ⟨h.C.os, h.C.tape, h.C.output, by rw [setRow_size]; exact h.C.size, fun i hi hs => (setRow_other W q i cs (by omega)).trans (h.C.block i hi hs)⟩, setRow_heap W q r1 cs _ _ h.h1, ?_⟩
  obtain ⟨zs, ⟨hl, h2⟩, hz⟩ := h.f
  refine ⟨zs, ⟨hl, ?_⟩, hz⟩
  rcases h2 with h2 | ⟨g', cap, cur, rfl, hg, hh, r⟩
  · exact Or.inl h2
  · exact Or.inr ⟨g', cap, cur, rfl, hg, (setRow_other W q g' cs (bk_apart hh h.h1 (by decide))).trans hh, r⟩
set_option maxRecDepth 20000 in
set_option maxHeartbeats 4000000 in
theorem openM (x base : Nat) (F : FS) (m : FX) (i : Nat) (o : Bool) (w : World) (h : MRep w x base F m) (hI : FXI F i m) (hi : i ≤ 400) (hbase : base ≤ w.heap.size) :
    Calls Try.prog 27 #[.pointer (some ⟨x, 0, none⟩), .bool o] w fun e w' => ∃ fv, e = .returned (.agg #[.int .i64 (fopen F m o).2.code, .int .i64 (fopen F m o).2.id, .int .i64 (fopen F m o).2.cnt, fv]) ∧ GOwns 87 8 w' w.heap.size fv ((fopen F m o).2.fr.map frC) ∧ MDo w w' x base F (fopen F m o).1 := by
  have TN := fun n => OM.new h n
  obtain ⟨lv, P⟩ := h
  have Wy := fun u => wayM o u
  obtain ⟨wz, ewz⟩ : ∃ z : Nat, z = if o then 1 else 0 := ⟨_, rfl⟩
  have ewi : (if o then (1 : Int) else 0) = (wz : Int) := by rw [ewz]; cases o <;> rfl
  rw [ewi] at Wy
  have hz : (wz : Int) < 2 ∧ wz < 2 := by rw [ewz]; cases o <;> simp
  have hB : Below w.heap.size w (w.alloc obZ) := (Below.refl _ _).alloc (Nat.le_refl _) _
  have PB := P.below hB
  have k10 : (w.alloc obZ).cell? ⟨x, 10 + wz, none⟩ = some (.int .i64 (m.op o)) := by rw [PB.cell, ewz]; cases o <;> rfl
  have k12 : (w.alloc obZ).cell? ⟨x, 12 + wz, none⟩ = some (.int .i64 (m.my o)) := by rw [PB.cell, ewz]; cases o <;> rfl
  have k0 : (w.alloc obZ).cell? ⟨x, 0, none⟩ = some (.bool F.sv) := PB.cell 0
  have f10 := PB.free (10 + wz)
  have ho := hI.op o
  have hm := hI.my o
  by_cases a : m.my o ≤ m.op o
  · have e : fopen F m o = (m, ⟨9, 0, 0, []⟩) := if_pos a
    rw [e]
    have HH : Hid _ := And.intro Wy (And.intro TN True.intro)
    unfold obZ at k10 k12 k0 f10
    clear e P Wy ewi ewz PB hB hI TN
    generalize m.my o = my at *
    generalize m.op o = op at *
    go_enter Try.func27, Try.ntmps27
    go_wp2_with (first | (go_at_call 48; refine (HH.out.1 _).mono ?_; rintro e w1 ⟨rfl, hw1⟩; subst hw1))
    go_quiet (fail)
    go_wp2
    have T := (OM.s (Nat.le_refl _) (OM.s (Nat.le_refl _) (OM.s (Nat.le_refl _) (OM.s (Nat.le_refl _) (HH.out.2.1 nq) 0 (.int .i64 9)) 1 (.int .i64 0)) 2 (.int .i64 0)) 3 (.slice none 0 0))
    try simp only [Exit.inBlock, Exit.then]
    refine bodyPost_ret (v := .agg #[.int .i64 9, .int .i64 0, .int .i64 0, .slice none 0 0]) ?_ rfl ?_
    · exact results_cell_row (t := 43) rfl _ _ (w.heap.size) _ (fr := (0, 0)) _ rfl T.h1 Try.underlying43 rfl infoFObsM
    · exact ⟨_, rfl, T.f, T.P, T.C⟩
  · have e : fopen F m o = ({ m with L := m.L ++ [SX.new F (idn F.sv o (m.op o))], op := updB m.op o (m.op o + 1) }, ⟨0, idn F.sv o (m.op o), 0, []⟩) := if_neg a
    rw [e]
    have hlen := hI.len_le hi
    have I := fun u => specIdOf F.sv o (m.op o) u
    rw [idV_idn ho.1 (by omega)] at I
    have R1 := fun (n : Nat) => (show MR (((w.alloc obZ).drewN n).setCell ⟨x, 10 + wz, none⟩ (.int .i64 (m.op o + 1))) x base F { m with op := updB m.op o (m.op o + 1) } lv from (PB.drewN n).setK (10 + wz) (.int .i64 (m.op o + 1)) (by rw [ewz]; exact oc_set m F lv o _) rfl)
    have C1 := fun (n : Nat) => (show MCh base w (((w.alloc obZ).drewN n).setCell ⟨x, 10 + wz, none⟩ (.int .i64 (m.op o + 1))) from (PB.drewN n).chK ((ChT.of_below hB).drewN n) (10 + wz) (.int .i64 (m.op o + 1)))
    have hid := idn_bound (s := F.sv) (o := o) ho.1 (show m.op o < 1152921504606846976 by omega)
    have PM' := fun (W : World) (hW : MR W x base F { m with op := updB m.op o (m.op o + 1) } lv) (hb : base ≤ W.heap.size) => putM x base F { m with op := updB m.op o (m.op o + 1) } lv (idn F.sv o (m.op o)) W hW (show m.L.length ≤ 4096 by omega) hb
    have K1 := fun (n : Nat) => (show (((w.alloc obZ).drewN n).setCell ⟨x, 10 + wz, none⟩ (.int .i64 (m.op o + 1))).heap[w.heap.size]? = some (.cells #[.int .i64 0, .int .i64 0, .int .i64 0, .slice none 0 0] 43 (0, 0)) from (bk_other (by have := (Array.getElem?_eq_some_iff.1 P.bk).1; omega) _ _).trans (heap_alloc_new _ _))
    have Z1 := fun (n : Nat) => (show base ≤ (((w.alloc obZ).drewN n).setCell ⟨x, 10 + wz, none⟩ (.int .i64 (m.op o + 1))).heap.size from Nat.le_trans hbase (by rw [setCell_sizeT]; exact hB.size))
    have HH : Hid _ := And.intro Wy (And.intro I (And.intro R1 (And.intro C1 (And.intro PM' (And.intro K1 Z1)))))
    unfold obZ at k10 k12 k0 f10 HH
    obtain ⟨id, eid⟩ : ∃ id, id = idn F.sv o (m.op o) := ⟨_, rfl⟩
    rw [← eid] at HH ⊢
    obtain ⟨my, emy⟩ : ∃ z, z = m.my o := ⟨_, rfl⟩
    obtain ⟨op, eop⟩ : ∃ z, z = m.op o := ⟨_, rfl⟩
    rw [← emy] at k12 a
    rw [← eop] at k10 a
    have hop : 0 ≤ op ∧ op < 1152921504606846976 := by omega
    have hda : decide (my ≤ op) = false := decide_eq_false a
    have HE : Hid _ := And.intro eop emy
    clear e P Wy ewi ewz PB hB hI I R1 C1 PM' K1 Z1 hid eid eop emy ho hm hlen TN
    rw [← HE.out.1] at HH
    go_enter Try.func27, Try.ntmps27
    go_wp2_with (first | (go_at_call 48; refine (HH.out.1 _).mono ?_; rintro e w1 ⟨rfl, hw1⟩; subst hw1))
    go_quiet (fail)
    go_wp2_with fail
    go_quiet (first | (go_at_call 49; exact (HH.out.2.1 _).mono fun _ _ h => ⟨h.1, _, h.2⟩))
    go_wp2_with fail
    go_region
    go_wp2_with (first | (go_at_call 50; refine (HH.out.2.2.2.2.1 _ (HH.out.2.2.1 _) (HH.out.2.2.2.2.2.2 _)).mono ?_; rintro e w1 ⟨rfl, hm, hc⟩; have C2 := (HH.out.2.2.2.1 _).trans hc; have K2 := hc.bk (HH.out.2.2.2.2.2.1 _) (by decide); have H2 : Hid _ := OM.mk (fv := .slice none 0 0) hm C2 K2 (framesM w1 _); clear hm hc C2 K2) | (refine wpList_store_row rfl 43 _ _ rfl w.heap.size #[.int .i64 0, .int .i64 id, .int .i64 0, .slice none 0 0] rfl rfl 43 _ H2.out.h1 infoFObsM rfl (by simp [Value.oneCell']) ?_))
    have T := H2.out.row (Nat.le_refl _) #[.int .i64 0, .int .i64 id, .int .i64 0, .slice none 0 0]
    try simp only [Exit.inBlock, Exit.then]
    refine bodyPost_ret (v := .agg #[.int .i64 0, .int .i64 id, .int .i64 0, .slice none 0 0]) ?_ rfl ?_
    · exact results_cell_row (t := 43) rfl _ _ (w.heap.size) _ (fr := (0, 0)) _ rfl T.h1 Try.underlying43 rfl infoFObsM
    · exact ⟨_, rfl, T.f, by rw [← HE.out.1]; exact T.P, T.C⟩
end Go.Proofs.Ytcoakpmfappnlaa
