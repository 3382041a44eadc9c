import Derived.Test.YtpdclbfjngmppaaDoorBkB
import Derived.Test.YtpdclbfjngmppaaDoorBkC
import Derived.Deep.LoopGhost
import Derived.Lib.MinMax
import Derived.BigQuiet
import Derived.Test.YtpdclbfjngmppaaDoorBkD
import Derived.Deep.RegionHeld3
import Derived.BigGuard
namespace Go.Proofs.YtpdclbfjngmppaaDoor
open Go.RowKit
set_option linter.unusedVariables false
set_option linter.unusedSimpArgs false

/-- The model's sending part, its cells. -/
def qB (w : World) (g : Nat) (st credit next fin : Int) (fb : Bool) (vd vh : Value) : Prop :=
  w.heap[g]? = some (.cells #[.int .i64 st, .int .i64 credit, .int .i64 next, .int .i64 fin, .bool fb, vd, vh] 44 (0, 0))
def hv (W : List Nat) : List Value := W.map fun (x : Nat) => Value.int .i64 (x : Int)
structure QA (w : World) (D : Nat → Prop) (g base : Nat) (B : List Int) (W : List Nat) (vd vh : Value) : Prop where
  od : w.ownsRow base 5 1 vd B.length (B.map (Value.int .u8))
  oh : w.ownsRow base 3 1 vh W.length (hv W)
  dg : D g
  dd : ∀ k, vd.ownBlock = some k → D k
  dh : ∀ k, vh.ownBlock = some k → D k
  lt : ∀ k, D k → k < w.heap.size
  gb : base ≤ g
def QRep (w : World) (D : Nat → Prop) (g base : Nat) (m : SS) : Prop :=
  ∃ vd vh, qB w g m.st m.credit m.next m.fin m.finish vd vh ∧ QA w D g base m.B m.W vd vh
theorem qB.lt {w : World} {g : Nat} {st credit next fin : Int} {fb : Bool} {vd vh : Value} (h : qB w g st credit next fin fb vd vh) : g < w.heap.size := (Array.getElem?_eq_some_iff.1 h).1
theorem QA.setG {w : World} {D : Nat → Prop} {g base : Nat} {B : List Int} {W : List Nat} {vd vh : Value} (hA : QA w D g base B W vd vh) (n1 : ∀ k, vh.ownBlock = some k → k ≠ g) (n2 : ∀ k, vd.ownBlock = some k → k ≠ g) (i : Nat) (u : Value) : QA (w.setCell ⟨g, i, none⟩ u) D g base B W vd vh :=
  ⟨(Only.setCell (w := w) ⟨g, i, none⟩ u).owns hA.od (fun k hk e => n2 k hk (Option.some.inj e)), (Only.setCell (w := w) ⟨g, i, none⟩ u).owns hA.oh (fun k hk e => n1 k hk (Option.some.inj e)), hA.dg, hA.dd, hA.dh, fun k hk => by rw [size_setC]; exact hA.lt k hk, hA.gb⟩
theorem QA.drewM {w : World} {D : Nat → Prop} {g base : Nat} {B : List Int} {W : List Nat} {vd vh : Value} (hA : QA w D g base B W vd vh) (n : Nat) : QA (w.drewN n) D g base B W vd vh := ⟨hA.od, hA.oh, hA.dg, hA.dd, hA.dh, hA.lt, hA.gb⟩
theorem QA.wide {w : World} {D D' : Nat → Prop} {g base : Nat} {B : List Int} {W : List Nat} {vd vh : Value} (hA : QA w D g base B W vd vh) (h1 : ∀ k, D k → D' k) (h2 : ∀ k, D' k → k < w.heap.size) : QA w D' g base B W vd vh := ⟨hA.od, hA.oh, h1 _ hA.dg, fun k hk => h1 k (hA.dd k hk), fun k hk => h1 k (hA.dh k hk), h2, hA.gb⟩
theorem QA.shape {w : World} {D : Nat → Prop} {g base : Nat} {B : List Int} {W : List Nat} {vd vh : Value} (h : QA w D g base B W vd vh) : (∃ da dc, vd = .slice da B.length dc) ∧ ∃ ta tc, vh = .slice ta W.length tc := by
  constructor
  · rcases h.od.2 with ⟨rfl, h1⟩ | ⟨g', cap, cur, rfl, _⟩
    · exact ⟨none, 0, by rw [h1]⟩
    · exact ⟨_, _, rfl⟩
  · rcases h.oh.2 with ⟨rfl, h1⟩ | ⟨g', cap, cur, rfl, _⟩
    · exact ⟨none, 0, by rw [h1]⟩
    · exact ⟨_, _, rfl⟩
theorem row_how {w : World} {base n : Nat} {vh : Value} {W : List Nat} (h : w.ownsRow base 3 1 vh n (hv W)) (hn : n = W.length) (p : Nat) (hp : p < n) : ∃ b cap, vh = .slice (some ⟨b, 0, none⟩) n cap ∧ w.cell? ⟨b, p, none⟩ = some (.int .i64 ((W.getD p 0 : Nat) : Int)) ∧ w.frozen? ⟨b, p, none⟩ = false := by
  obtain ⟨b, cap, rfl, _, _⟩ := owns_shape h (by omega)
  refine ⟨b, cap, rfl, ?_, h.frozenAt p⟩
  rw [h.cellAt p (by omega)]
  unfold hv
  rw [List.getElem?_map, List.getElem?_eq_getElem (by omega)]
  simp [List.getD, show p < W.length by omega]
set_option maxRecDepth 20000 in
set_option maxHeartbeats 2000000 in
theorem liveM (g : Nat) (st : Nat) (credit next fin : Int) (fb : Bool) (vd vh : Value) (w : World) (hb : qB w g st credit next fin fb vd vh) :
    Calls Tryd.prog 23 #[.pointer (some ⟨g, 0, none⟩)] w fun e w' => e = .returned (.bool (decide (st < 3))) ∧ w' = w := by
  have c0 : w.cell? ⟨g, 0, none⟩ = some (.int .i64 (st : Int)) := (bk_cell hb 0).trans rfl
  clear hb
  by_cases a0 : st = 0
  · subst a0
    go_enter Tryd.func23, Tryd.ntmps23
    go_wp2
    go_ret
    exact ⟨rfl, rfl⟩
  by_cases a1 : st = 1
  · subst a1
    go_enter Tryd.func23, Tryd.ntmps23
    go_wp2
    go_ret
    exact ⟨rfl, rfl⟩
  have s0 : ((st : Int) == 0) = false := by simp; omega
  have s1 : ((st : Int) == 1) = false := by simp; omega
  by_cases a2 : st = 2
  · subst a2
    go_enter Tryd.func23, Tryd.ntmps23
    go_wp2
    go_ret
    exact ⟨rfl, rfl⟩
  have s2 : ((st : Int) == 2) = false := by simp; omega
  have e : decide (st < 3) = false := by simp; omega
  rw [e]
  clear a0 a1 a2 e
  go_enter Tryd.func23, Tryd.ntmps23
  go_wp2
  go_ret
  exact ⟨rfl, rfl⟩
set_option maxRecDepth 20000 in
set_option maxHeartbeats 2000000 in
theorem endM (g base : Nat) (m : SS) (D : Nat → Prop) (w : World) (I : SI m) (hR : QRep w D g base m) :
    Calls Tryd.prog 20 #[.pointer (some ⟨g, 0, none⟩)] w fun e w' => e = .returned (.int .i64 (sfinish m).2) ∧ QRep w' D g base (sfinish m).1 ∧ Chg D w w' := by
  obtain ⟨vd, vh, hb, hA⟩ := id hR
  have c0 : w.cell? ⟨g, 0, none⟩ = some (.int .i64 (m.st : Int)) := (bk_cell hb 0).trans rfl
  have c4 : w.cell? ⟨g, 4, none⟩ = some (.bool m.finish) := (bk_cell hb 4).trans rfl
  have f4 := bk_free hb 4
  have hgl := hb.lt
  have n1 : ∀ k, vh.ownBlock = some k → k ≠ g := own_gt hA.oh hb (by decide)
  have n2 : ∀ k, vd.ownBlock = some k → k ≠ g := own_gt hA.od hb (by decide)
  have C := liveM g m.st m.credit m.next m.fin m.finish vd vh w hb
  have hl : m.live = decide (m.st < 3) := rfl
  rw [← hl] at C
  by_cases c : m.live = false ∨ m.finish = true
  · have e : sfinish m = (m, 7) := by unfold sfinish; rw [if_pos c]
    rw [e]
    have SB : m.live = false ∨ (m.live = true ∧ m.st = 2) ∨ (m.live = true ∧ ((m.st : Int) == 2) = false ∧ m.finish = true) := by
      by_cases a : m.live = false
      · exact Or.inl a
      · have a' : m.live = true := by simpa using a
        by_cases b : m.st = 2
        · exact Or.inr (Or.inl ⟨a', b⟩)
        · exact Or.inr (Or.inr ⟨a', by simp; omega, c.resolve_left a⟩)
    rcases SB with h1 | ⟨h1, h2⟩ | ⟨h1, h2, h3⟩
    · rw [h1] at C
      have H0 : Hid _ := And.intro C hR
      clear C hR hb hA n1 n2 c I h1
      go_enter Tryd.func20, Tryd.ntmps20
      go_wp2_with (go_at_call 23; refine H0.out.1.mono ?_; rintro e w' ⟨rfl, rfl⟩)
      go_ret
      exact ⟨rfl, H0.out.2, chg_of_eq _⟩
    · rw [h1] at C
      rw [h2] at c0
      have H0 : Hid _ := And.intro C hR
      clear C hR hb hA n1 n2 c I h1 h2
      go_enter Tryd.func20, Tryd.ntmps20
      go_wp2_with (go_at_call 23; refine H0.out.1.mono ?_; rintro e w' ⟨rfl, rfl⟩)
      go_ret
      exact ⟨rfl, H0.out.2, chg_of_eq _⟩
    · rw [h1] at C
      rw [h3] at c4
      have H0 : Hid _ := And.intro C hR
      clear C hR hb hA n1 n2 c I h1 h3
      go_enter Tryd.func20, Tryd.ntmps20
      go_wp2_with (go_at_call 23; refine H0.out.1.mono ?_; rintro e w' ⟨rfl, rfl⟩)
      go_ret
      exact ⟨rfl, H0.out.2, chg_of_eq _⟩
  have e : sfinish m = ({ m with finish := true }, 0) := by unfold sfinish; rw [if_neg c]
  rw [e]
  have h1 : m.live = true := by cases q : m.live; exact absurd (Or.inl q) c; rfl
  have h3 : m.finish = false := by cases q : m.finish; rfl; exact absurd (Or.inr q) c
  have s2 : ((m.st : Int) == 2) = false := by
    have : m.st ≠ 2 := fun q => by have := I.sent q; rw [h3] at this; exact absurd this (by decide)
    simp; omega
  rw [h1] at C
  rw [h3] at c4
  have hx : QRep (w.setCell ⟨g, 4, none⟩ (.bool true)) D g base { m with finish := true } := ⟨vd, vh, bk_set hb 4 _, hA.setG n1 n2 4 _⟩
  have hch : Chg D w (w.setCell ⟨g, 4, none⟩ (.bool true)) := (chg_of_eq w).setD g 4 _ (Or.inl hA.dg)
  have H0 : Hid _ := And.intro C (And.intro hx hch)
  clear C hR hb hA n1 n2 c I h1 h3 hx hch e
  go_enter Tryd.func20, Tryd.ntmps20
  go_wp2_with (go_at_call 23; refine H0.out.1.mono ?_; rintro e w' ⟨rfl, rfl⟩)
  go_ret
  exact ⟨rfl, H0.out.2.1, H0.out.2.2⟩
end Go.Proofs.YtpdclbfjngmppaaDoor

namespace Go.Proofs.YtpdclbfjngmppaaDoor
open Go.RowKit
set_option linter.unusedVariables false
set_option linter.unusedSimpArgs false

/-- Settled below k. -/
def stW (W : List Nat) (a b x k : Nat) : List Nat := setN W a (min b k) x
theorem stW_length (W : List Nat) (a b x k : Nat) : (stW W a b x k).length = W.length := setN_length _ _ _ _
theorem stW_zero (W : List Nat) (a b x : Nat) : stW W a b x 0 = W := listN_ext (stW_length _ _ _ _ _) fun i hi => by
  rw [stW_length] at hi
  unfold stW
  rw [setN_at _ _ _ _ _ hi, if_neg (by omega)]
theorem stW_full (W : List Nat) (a b x : Nat) (h : b ≤ W.length) : stW W a b x W.length = setN W a b x := by unfold stW; rw [Nat.min_eq_left h]
theorem stW_now (W : List Nat) (a b x k : Nat) (h : k < W.length) : (stW W a b x k).getD k 0 = W.getD k 0 := by unfold stW; rw [setN_at _ _ _ _ _ h, if_neg (by omega)]
theorem stW_next (W : List Nat) (a b x k : Nat) (h : k < W.length) (c : a ≤ k ∧ k < b ∧ W.getD k 0 ≠ 2) : stW W a b x (k + 1) = (stW W a b x k).set k x := by
  unfold stW
  rw [Nat.min_eq_right (by omega : k + 1 ≤ b), Nat.min_eq_right (by omega : k ≤ b), setN_next W a k x c.1 h, if_neg c.2.2]
theorem stW_same (W : List Nat) (a b x k : Nat) (h : k < W.length) (c : ¬ (a ≤ k ∧ k < b ∧ W.getD k 0 ≠ 2)) : stW W a b x (k + 1) = stW W a b x k := by
  refine listN_ext (by rw [stW_length, stW_length]) fun j hj => ?_
  rw [stW_length] at hj
  unfold stW
  rw [setN_at _ _ _ _ _ hj, setN_at _ _ _ _ _ hj]
  by_cases q : a ≤ j ∧ j < min b k ∧ W.getD j 0 ≠ 2
  · rw [if_pos q, if_pos ⟨q.1, by omega, q.2.2⟩]
  · rw [if_neg q, if_neg (fun z => ?_)]
    by_cases e : j = k
    · subst e; exact c ⟨z.1, by omega, z.2.2⟩
    · exact q ⟨z.1, by omega, z.2.2⟩
theorem setN_atN (W : List Nat) (a b x k : Nat) (h : k < W.length) (c : ¬ (a ≤ k ∧ k < b ∧ W.getD k 0 ≠ 2)) : (setN W a b x).getD k 0 = W.getD k 0 := by rw [setN_at _ _ _ _ _ h, if_neg c]
theorem setN_atY (W : List Nat) (a b x k : Nat) (h : k < W.length) (c : a ≤ k ∧ k < b ∧ W.getD k 0 ≠ 2) : (setN W a b x).getD k 0 = x := by rw [setN_at _ _ _ _ _ h, if_pos c]
def allK (W : List Nat) (f : Bool) (k : Nat) : Bool := f && (List.range k).all fun i => W.getD i 0 == 2
theorem allK_next (W : List Nat) (f : Bool) (k : Nat) : allK W f (k + 1) = (allK W f k && (W.getD k 0 == 2)) := by
  unfold allK
  rw [List.range_succ, List.all_append]
  simp [Bool.and_assoc]
theorem allK_full (W : List Nat) (f : Bool) : allK W f W.length = (f && W.all (· == 2)) := by
  unfold allK
  congr 1
  rw [Bool.eq_iff_iff, List.all_eq_true, List.all_eq_true]
  constructor
  · intro h x hx
    obtain ⟨i, hi, rfl⟩ := List.getElem_of_mem hx
    have := h i (List.mem_range.2 hi)
    simpa [List.getD, hi] using this
  · intro h i hi
    have hi' := List.mem_range.1 hi
    have := h W[i] (List.getElem_mem _)
    simpa [List.getD, hi'] using this
theorem hv_set (W : List Nat) (k x : Nat) : hv (W.set k x) = (hv W).set k (.int .i64 (x : Int)) := by unfold hv; rw [List.map_set]
theorem QA.put {w : World} {D : Nat → Prop} {g base tb l tc k x : Nat} {B : List Int} {W : List Nat} {vd : Value} (hA : QA w D g base B W vd (.slice (some ⟨tb, 0, none⟩) l tc)) (hl : W.length = l) :
    QA (w.setCell ⟨tb, k, none⟩ (.int .i64 (x : Int))) D g base B (W.set k x) vd (.slice (some ⟨tb, 0, none⟩) l tc) := by
  refine ⟨?_, ?_, hA.dg, hA.dd, hA.dh, fun t ht => by rw [size_setC]; exact hA.lt t ht, hA.gb⟩
  · exact (Only.setCell (w := w) ⟨tb, k, none⟩ (.int .i64 (x : Int))).owns hA.od (fun t ht e => own_two (by decide) hA.od hA.oh t ht e)
  · have oh := hA.oh
    rw [hl] at oh
    rw [List.length_set, hv_set, hl]
    exact (oh.stored k _).1
set_option maxRecDepth 20000 in
set_option maxHeartbeats 2000000 in
theorem heard_no (g : Nat) (st credit : Int) (next fin L how : Nat) (fin0 fb : Bool) (da : Option Addr) (dc : Nat) (vh : Value) (off n : Int) (w : World) (hb : qB w g st credit next fin fin0 (.slice da L dc) vh) (hn : next ≤ 1000000) (hL : L ≤ 1000000) (ho : off ≤ 9223372036854775807) (hnn : n ≤ 9223372036854775807)
    (h : off < 0 ∨ n < 0 ∨ (next : Int) - n < off ∨ (fb = true ∧ (fin = 0 ∨ off + n ≠ L))) :
    Calls Tryd.prog 22 #[.pointer (some ⟨g, 0, none⟩), .int .i64 off, .int .i64 n, .bool fb, .int .i64 (how : Int)] w fun e w' => e = .returned (.int .i64 1) ∧ w' = w := by
  have c2 : w.cell? ⟨g, 2, none⟩ = some (.int .i64 (next : Int)) := (bk_cell hb 2).trans rfl
  have c3 : w.cell? ⟨g, 3, none⟩ = some (.int .i64 (fin : Int)) := (bk_cell hb 3).trans rfl
  have c5 : w.cell? ⟨g, 5, none⟩ = some (.slice da L dc) := (bk_cell hb 5).trans rfl
  clear hb
  by_cases a1 : off < 0
  · clear h
    go_enter Tryd.func22, Tryd.ntmps22
    go_wp2
    go_ret
    exact ⟨rfl, rfl⟩
  by_cases a2 : n < 0
  · clear h
    go_enter Tryd.func22, Tryd.ntmps22
    go_wp2
    go_ret
    exact ⟨rfl, rfl⟩
  by_cases a3 : (next : Int) < off
  · clear h
    go_enter Tryd.func22, Tryd.ntmps22
    go_wp2
    go_ret
    exact ⟨rfl, rfl⟩
  by_cases a4 : (next : Int) - off < n
  · clear h
    go_enter Tryd.func22, Tryd.ntmps22
    go_wp2
    go_ret
    exact ⟨rfl, rfl⟩
  have a5 : fb = true ∧ (fin = 0 ∨ off + n ≠ L) := by
    rcases h with h | h | h | h
    · exact absurd h a1
    · exact absurd h a2
    · omega
    · exact h
  obtain ⟨rfl, h5⟩ := a5
  clear h
  by_cases b1 : fin = 0
  · subst b1
    clear h5
    go_enter Tryd.func22, Tryd.ntmps22
    go_wp2
    go_ret
    exact ⟨rfl, rfl⟩
  · have b2 : ((fin : Int) == 0) = false := by simp; omega
    have b3 : (off + n != (L : Int)) = true := by simpa using h5.resolve_left b1
    clear h5 b1
    go_enter Tryd.func22, Tryd.ntmps22
    go_wp2
    go_ret
    exact ⟨rfl, rfl⟩
set_option maxRecDepth 20000 in
set_option maxHeartbeats 2000000 in
theorem heard_dead (g : Nat) (st : Nat) (credit : Int) (next fin L how : Nat) (fin0 fb : Bool) (da : Option Addr) (dc : Nat) (vh : Value) (off n : Int) (w : World) (hb : qB w g st credit next fin fin0 (.slice da L dc) vh) (hn : next ≤ 1000000) (hL : L ≤ 1000000)
    (h1 : 0 ≤ off) (h2 : 0 ≤ n) (h3 : off ≤ (next : Int) - n) (h4 : fb = true → fin ≠ 0 ∧ off + n = L) (h5 : ¬ st < 3) :
    Calls Tryd.prog 22 #[.pointer (some ⟨g, 0, none⟩), .int .i64 off, .int .i64 n, .bool fb, .int .i64 (how : Int)] w fun e w' => e = .returned (.int .i64 0) ∧ w' = w := by
  have c2 : w.cell? ⟨g, 2, none⟩ = some (.int .i64 (next : Int)) := (bk_cell hb 2).trans rfl
  have c3 : w.cell? ⟨g, 3, none⟩ = some (.int .i64 (fin : Int)) := (bk_cell hb 3).trans rfl
  have c5 : w.cell? ⟨g, 5, none⟩ = some (.slice da L dc) := (bk_cell hb 5).trans rfl
  have C := liveM g st credit next fin fin0 (.slice da L dc) vh w hb
  rw [decide_eq_false h5] at C
  have H0 : Hid _ := And.intro C True.intro
  have a4 : n ≤ (next : Int) - off := by omega
  clear hb C h5
  cases fb
  · clear h4
    go_enter Tryd.func22, Tryd.ntmps22
    go_wp2_with (go_at_call 23; refine H0.out.1.mono ?_; rintro e w' ⟨rfl, rfl⟩)
    go_ret
    exact ⟨rfl, rfl⟩
  · have b2 : ((fin : Int) == 0) = false := by have := (h4 rfl).1; simp; omega
    have b3 : (off + n != (L : Int)) = false := by simpa using (h4 rfl).2
    clear h4
    go_enter Tryd.func22, Tryd.ntmps22
    go_wp2_with (go_at_call 23; refine H0.out.1.mono ?_; rintro e w' ⟨rfl, rfl⟩)
    go_ret
    exact ⟨rfl, rfl⟩
end Go.Proofs.YtpdclbfjngmppaaDoor

namespace Go.Proofs.YtpdclbfjngmppaaDoor
open Go.RowKit
set_option linter.unusedVariables false
set_option linter.unusedSimpArgs false

theorem beqN2 (v : Nat) : ((v : Int) == 2) = (v == 2) := by
  by_cases h : v = 2
  · simp [h]
  · have h1 : ((v : Int) == 2) = false := by simp; omega
    have h2 : (v == 2) = false := by simpa using h
    rw [h1, h2]
set_option maxRecDepth 20000 in
set_option maxHeartbeats 4000000 in
theorem heard_do (g base : Nat) (st : Nat) (credit : Int) (next fin L how o n : Nat) (f0 fb : Bool) (B : List Int) (W : List Nat) (vd vh : Value) (D : Nat → Prop) (w : World) (hb : qB w g st credit next fin f0 vd vh) (hA : QA w D g base B W vd vh) (eL : W.length = L) (eB : B.length = L) (hL : L ≤ 1000000) (hnx : next ≤ L)
    (h3 : o + n ≤ next) (h4 : fb = true → fin ≠ 0 ∧ o + n = L) (h5 : st < 3) (hF : fin ≠ 0 → f0 = true) (hf3 : fin ≤ 3) (hh : how ≤ 3) :
    Calls Tryd.prog 22 #[.pointer (some ⟨g, 0, none⟩), .int .i64 (o : Int), .int .i64 (n : Int), .bool fb, .int .i64 (how : Int)] w fun e w' => e = .returned (.int .i64 0) ∧ Chg D w w' ∧ QA w' D g base B (setN W o (o + n) how) vd vh ∧
      qB w' g (if (if fb = true ∧ fin ≠ 2 then how else fin) = 2 ∧ (setN W o (o + n) how).all (· == 2) then 3 else st : Nat) credit next (if fb = true ∧ fin ≠ 2 then how else fin : Nat) f0 vd vh := by
  obtain ⟨W2, eW2⟩ : ∃ W2, W2 = setN W o (o + n) how := ⟨_, rfl⟩
  obtain ⟨F2, eF2⟩ : ∃ F2, F2 = (if fb = true ∧ fin ≠ 2 then how else fin : Nat) := ⟨_, rfl⟩
  obtain ⟨S2, eS2⟩ : ∃ S2, S2 = (if F2 = 2 ∧ W2.all (· == 2) then 3 else st : Nat) := ⟨_, rfl⟩
  rw [← eF2, ← eW2, ← eS2]
  obtain ⟨⟨da, dc, ed⟩, ⟨ta, tc, et⟩⟩ := hA.shape
  rw [eB] at ed
  rw [eL] at et
  subst ed et
  have c2 : w.cell? ⟨g, 2, none⟩ = some (.int .i64 (next : Int)) := (bk_cell hb 2).trans rfl
  have c3 : w.cell? ⟨g, 3, none⟩ = some (.int .i64 (fin : Int)) := (bk_cell hb 3).trans rfl
  have c4 : w.cell? ⟨g, 4, none⟩ = some (.bool f0) := (bk_cell hb 4).trans rfl
  have c5 : w.cell? ⟨g, 5, none⟩ = some (.slice da L dc) := (bk_cell hb 5).trans rfl
  have C := liveM g st credit next fin f0 (.slice da L dc) (.slice ta L tc) w hb
  rw [decide_eq_true h5] at C
  have a4 : (n : Int) ≤ (next : Int) - (o : Int) := by omega
  have n1 : ∀ t, (Value.slice ta L tc).ownBlock = some t → t ≠ g := own_gt hA.oh hb (by decide)
  have n2 : ∀ t, (Value.slice da L dc).ownBlock = some t → t ≠ g := own_gt hA.od hb (by decide)
  have H0 : Hid _ := And.intro C (And.intro hb (And.intro hA (And.intro eL (And.intro eB (And.intro h4 (And.intro n1 (And.intro n2 (And.intro eW2 (And.intro eF2 (And.intro eS2 hF))))))))))
  clear hb C h5 hA eL eB h4 n1 n2 eW2 eF2 eS2 hF
  go_enter Tryd.func22, Tryd.ntmps22
  go_upto_region 1 with fail
  go_cut [57] from 13 to 57 (fun cv wx => cv = .bool false ∧ wx = w)
  case first =>
    have h4 := H0.out.2.2.2.2.2.1
    cases fb
    · clear h4
      go_wp2_with fail
      go_meet
      exact ⟨by rw [decide_eq_false (by omega), decide_eq_false (by omega), decide_eq_false (by omega), decide_eq_false (by omega)]; rfl, rfl⟩
    · have b2 : ((fin : Int) == 0) = false := by have := (h4 rfl).1; simp; omega
      have b3 : ((o : Int) + (n : Int) != (L : Int)) = false := by have := (h4 rfl).2; simp; omega
      clear h4
      go_wp2_with fail
      go_meet
      exact ⟨by rw [decide_eq_false (by omega), decide_eq_false (by omega), decide_eq_false (by omega), decide_eq_false (by omega)]; rfl, rfl⟩
  case rest =>
  obtain ⟨rfl, hw⟩ := hcut
  subst wc
  go_wp2_with (go_at_call 23; refine H0.out.1.mono ?_; rintro e w' ⟨rfl, hw⟩; subst w')
  go_loopg [11, 12] L (fun q av i wr => ∃ k : Nat, k ≤ L ∧ q = L - k ∧ i = .int .i64 (k : Int) ∧ av = .bool (allK W2 f0 k) ∧ qB wr g st credit next fin f0 (.slice da L dc) (.slice ta L tc) ∧ QA wr D g base B (stW W o (o + n) how k) (.slice da L dc) (.slice ta L tc) ∧ Chg D w wr)
  case atStart => exact ⟨0, by omega, by omega, rfl, by simp [allK], H0.out.2.1, by rw [stW_zero]; exact H0.out.2.2.1, chg_of_eq w⟩
  case round =>
    obtain ⟨k, hk, hq, rfl, rfl, hb, hA, hc⟩ := hrel
    have d6 : wr.cell? ⟨g, 6, none⟩ = some (.slice ta L tc) := (bk_cell hb 6).trans rfl
    have hgl := hb.lt
    have eL := H0.out.2.2.2.1
    have eW2 := H0.out.2.2.2.2.2.2.2.2.1
    by_cases hlt : k < L
    · have hkL : (k : Int) < (L : Int) := by omega
      have hkW : k < W.length := by omega
      have hsl : (stW W o (o + n) how k).length = L := by rw [stW_length]; exact eL
      have oh := hA.oh
      rw [hsl] at oh
      obtain ⟨tb, tcap, e1, tcell, tfro⟩ := row_how oh hsl.symm k hlt
      simp only [Value.slice.injEq] at e1
      obtain ⟨rfl, -, rfl⟩ := e1
      rw [stW_now _ _ _ _ _ hkW] at tcell
      have hal := allK_next W2 f0 k
      have ntg : tb ≠ g := own_gt oh hb (by decide) tb rfl
      by_cases cc : o ≤ k ∧ k < o + n ∧ W.getD k 0 ≠ 2
      · have e2 : W2.getD k 0 = how := by rw [eW2]; exact setN_atY _ _ _ _ _ hkW cc
        have e3 := stW_next W o (o + n) how k hkW cc
        rw [e2, ← beqN2] at hal
        obtain ⟨cc1, cc2, cc3⟩ := cc
        have cc4 : (((W.getD k 0 : Nat) : Int) != 2) = true := by
          show (!(((W.getD k 0 : Nat) : Int) == 2)) = true
          rw [beqN2]; simpa using cc3
        generalize ((W.getD k 0 : Nat) : Int) = v at tcell cc4
        have hput := hA.put (k := k) (x := how) hsl
        rw [← e3] at hput
        have hbp : qB (wr.setCell ⟨tb, k, none⟩ (.int .i64 (how : Int))) g st credit next fin f0 (.slice da L dc) (.slice (some ⟨tb, 0, none⟩) L tc) := (bk_other (fun e => ntg e.symm) k _).trans hb
        have hcp : Chg D w (wr.setCell ⟨tb, k, none⟩ (.int .i64 (how : Int))) := hc.setD tb k _ (Or.inl (hA.dh tb rfl))
        have tlt : tb < wr.heap.size := (oh.lt tb rfl).2
        have H2 : Hid _ := And.intro hput (And.intro hbp (And.intro hcp hal))
        clear hb hA hc oh cc3 e2 e3 hput hbp hcp hal eW2 eL hsl hkW
        cases ab : allK W2 f0 k
        · go_wp2_with fail
          go_roundg (L - (k + 1))
          case measure => omega
          case rel => exact ⟨k + 1, by omega, rfl, by go_num, by rw [H2.out.2.2.2, ab]; rfl, H2.out.2.1, H2.out.1, H2.out.2.2.1⟩
        · go_wp2_with fail
          go_roundg (L - (k + 1))
          case measure => omega
          case rel => exact ⟨k + 1, by omega, rfl, by go_num, by rw [H2.out.2.2.2, ab]; rfl, H2.out.2.1, H2.out.1, H2.out.2.2.1⟩
      · have e2 : W2.getD k 0 = W.getD k 0 := by rw [eW2]; exact setN_atN _ _ _ _ _ hkW cc
        have e3 := stW_same W o (o + n) how k hkW cc
        rw [e2, ← beqN2] at hal
        rw [← e3] at hA
        have s3 : ¬ ((o : Int) ≤ (k : Int)) ∨ (((o : Int) ≤ (k : Int)) ∧ ¬ ((k : Int) < (o : Int) + (n : Int))) ∨ (((o : Int) ≤ (k : Int)) ∧ ((k : Int) < (o : Int) + (n : Int)) ∧ (((W.getD k 0 : Nat) : Int) != 2) = false) := by
          by_cases z1 : o ≤ k
          · by_cases z2 : k < o + n
            · have z3 : W.getD k 0 = 2 := Classical.byContradiction fun z => cc ⟨z1, z2, z⟩
              exact Or.inr (Or.inr ⟨by omega, by omega, by rw [z3]; rfl⟩)
            · exact Or.inr (Or.inl ⟨by omega, by omega⟩)
          · exact Or.inl (by omega)
        generalize ((W.getD k 0 : Nat) : Int) = v at tcell s3 hal
        have H2 : Hid _ := And.intro hA (And.intro hb (And.intro hc hal))
        clear hb hA hc oh cc e2 e3 hal eW2 eL hsl hkW
        rcases s3 with z | ⟨z1, z2⟩ | ⟨z1, z2, z3⟩ <;> cases ab : allK W2 f0 k
        all_goals
          go_wp2_with fail
          go_roundg (L - (k + 1))
          case measure => omega
          case rel => exact ⟨k + 1, by omega, rfl, by go_num, by rw [H2.out.2.2.2, ab]; rfl, H2.out.2.1, H2.out.1, H2.out.2.2.1⟩
    · obtain rfl : k = L := by omega
      have hfull : stW W o (o + n) how k = W2 := by rw [eW2, ← eL]; exact stW_full _ _ _ _ (by omega)
      rw [hfull] at hA
      have hW2 : W2.length = k := by rw [eW2, setN_length]; exact eL
      have eal : allK W2 f0 k = (f0 && W2.all (· == 2)) := by rw [← hW2]; exact allK_full _ _
      have d3 : wr.cell? ⟨g, 3, none⟩ = some (.int .i64 (fin : Int)) := (bk_cell hb 3).trans rfl
      have d0 : wr.cell? ⟨g, 0, none⟩ = some (.int .i64 (st : Int)) := (bk_cell hb 0).trans rfl
      have f0' := bk_free hb 0
      have f3' := bk_free hb 3
      have n1 := H0.out.2.2.2.2.2.2.1
      have n2 := H0.out.2.2.2.2.2.2.2.1
      have H2 : Hid _ := And.intro hb (And.intro hA (And.intro hc (And.intro eal (And.intro n1 n2))))
      obtain ⟨all, eall⟩ : ∃ all, all = allK W2 f0 k := ⟨_, rfl⟩
      rw [← eall]
      have E : Hid _ := And.intro eall (And.intro H0.out.2.2.2.2.2.2.2.2.2.1 (And.intro H0.out.2.2.2.2.2.2.2.2.2.2.1 (And.intro H0.out.2.2.2.2.2.1 H0.out.2.2.2.2.2.2.2.2.2.2.2)))
      clear hb hA hc n1 n2 eal eW2 eL hfull hW2 eall
      have key : Hid (∀ (F : Nat), F2 = F → (F = 2 → f0 = true) → S2 = if F = 2 ∧ all = true then 3 else st) := fun F e1 e2 => by
        rw [E.out.2.2.1, e1, E.out.1, H2.out.2.2.2.1]
        by_cases z : F = 2
        · rw [e2 z]; simp [z]
        · rw [if_neg (fun q => z q.1), if_neg (fun q => z q.1)]
      by_cases x1 : fb = true ∧ fin ≠ 2
      · have eF : F2 = how := by rw [E.out.2.1, if_pos x1]
        have eS := key.out how eF (fun _ => E.out.2.2.2.2 ((E.out.2.2.2.1 x1.1).1))
        obtain ⟨rfl, x2⟩ := x1
        have x3 : ((fin : Int) != 2) = true := by simp; omega
        have HS : Hid _ := And.intro eF eS
        clear x2 eF eS
        by_cases y : how = 2
        · subst y
          cases all
          · go_wp2_with fail
            go_ret
            refine ⟨rfl, H2.out.2.2.1.setD g 3 _ (Or.inl H2.out.2.1.dg), H2.out.2.1.setG H2.out.2.2.2.2.1 H2.out.2.2.2.2.2 3 _, ?_⟩
            rw [HS.out.1, HS.out.2, if_neg (by simp)]
            exact bk_set H2.out.1 3 _
          · go_wp2_with fail
            go_ret
            refine ⟨rfl, (H2.out.2.2.1.setD g 3 _ (Or.inl H2.out.2.1.dg)).setD g 0 _ (Or.inl H2.out.2.1.dg), (H2.out.2.1.setG H2.out.2.2.2.2.1 H2.out.2.2.2.2.2 3 _).setG H2.out.2.2.2.2.1 H2.out.2.2.2.2.2 0 _, ?_⟩
            rw [HS.out.1, HS.out.2, if_pos (by simp)]
            exact bk_set (bk_set H2.out.1 3 _) 0 _
        · have y2 : ((how : Int) == 2) = false := by simp; omega
          cases all
          all_goals
            go_wp2_with fail
            go_ret
            refine ⟨rfl, H2.out.2.2.1.setD g 3 _ (Or.inl H2.out.2.1.dg), H2.out.2.1.setG H2.out.2.2.2.2.1 H2.out.2.2.2.2.2 3 _, ?_⟩
            rw [HS.out.1, HS.out.2, if_neg (fun q => y q.1)]
            exact bk_set H2.out.1 3 _
      · have eF : F2 = fin := by rw [E.out.2.1, if_neg x1]
        have eS := key.out fin eF (fun z => E.out.2.2.2.2 (by omega))
        have HS : Hid _ := And.intro eF eS
        clear eF eS
        have x3 : fb = false ∨ (fb = true ∧ fin = 2) := by
          cases fb
          · exact Or.inl rfl
          · exact Or.inr ⟨rfl, Classical.byContradiction fun z => x1 ⟨rfl, z⟩⟩
        clear x1
        rcases x3 with rfl | ⟨rfl, rfl⟩
        · by_cases y : fin = 2
          · subst y
            cases all
            · go_wp2_with fail
              go_ret
              refine ⟨rfl, H2.out.2.2.1, H2.out.2.1, ?_⟩
              rw [HS.out.1, HS.out.2, if_neg (by simp)]
              exact H2.out.1
            · go_wp2_with fail
              go_ret
              refine ⟨rfl, H2.out.2.2.1.setD g 0 _ (Or.inl H2.out.2.1.dg), H2.out.2.1.setG H2.out.2.2.2.2.1 H2.out.2.2.2.2.2 0 _, ?_⟩
              rw [HS.out.1, HS.out.2, if_pos (by simp)]
              exact bk_set H2.out.1 0 _
          · have y2 : ((fin : Int) == 2) = false := by simp; omega
            cases all
            all_goals
              go_wp2_with fail
              go_ret
              refine ⟨rfl, H2.out.2.2.1, H2.out.2.1, ?_⟩
              rw [HS.out.1, HS.out.2, if_neg (fun q => y q.1)]
              exact H2.out.1
        · cases all
          · go_wp2_with fail
            go_ret
            refine ⟨rfl, H2.out.2.2.1, H2.out.2.1, ?_⟩
            rw [HS.out.1, HS.out.2, if_neg (by simp)]
            exact H2.out.1
          · go_wp2_with fail
            go_ret
            refine ⟨rfl, H2.out.2.2.1.setD g 0 _ (Or.inl H2.out.2.1.dg), H2.out.2.1.setG H2.out.2.2.2.2.1 H2.out.2.2.2.2.2 0 _, ?_⟩
            rw [HS.out.1, HS.out.2, if_pos (by simp)]
            exact bk_set H2.out.1 0 _
end Go.Proofs.YtpdclbfjngmppaaDoor

namespace Go.Proofs.YtpdclbfjngmppaaDoor
open Go.RowKit
set_option linter.unusedVariables false
set_option linter.unusedSimpArgs false

theorem heardM (g base : Nat) (m : SS) (off n : Int) (fb : Bool) (how : Nat) (hh : how ≤ 3) (D : Nat → Prop) (w : World) (I : SI m) (hR : QRep w D g base m) (ho : off ≤ 9223372036854775807) (hn : n ≤ 9223372036854775807) :
    Calls Tryd.prog 22 #[.pointer (some ⟨g, 0, none⟩), .int .i64 off, .int .i64 n, .bool fb, .int .i64 (how : Int)] w fun e w' => e = .returned (.int .i64 (shear m off n fb how).2) ∧ QRep w' D g base (shear m off n fb how).1 ∧ Chg D w w' := by
  obtain ⟨vd, vh, hb, hA⟩ := id hR
  have hlen := I.len
  have hbig := I.big
  have hnx := I.nx
  obtain ⟨⟨da, dc, ed⟩, ⟨ta, tc, et⟩⟩ := hA.shape
  by_cases c : off < 0 ∨ n < 0 ∨ (m.next : Int) - n < off ∨ (fb = true ∧ (m.fin = 0 ∨ off + n ≠ m.B.length))
  · have e : shear m off n fb how = (m, 1) := by unfold shear; rw [if_pos c]
    rw [e]
    rw [ed] at hb
    refine (heard_no g m.st m.credit m.next m.fin m.B.length how m.finish fb da dc vh off n w hb (by omega) (by omega) ho hn c).mono ?_
    rintro e w' ⟨rfl, hw⟩
    subst hw
    exact ⟨rfl, hR, chg_of_eq _⟩
  have h1 : 0 ≤ off := by omega
  have h2 : 0 ≤ n := by omega
  have h3 : off ≤ (m.next : Int) - n := by omega
  have h4 : fb = true → m.fin ≠ 0 ∧ off + n = m.B.length := fun q => by
    constructor
    · exact fun z => c (Or.inr (Or.inr (Or.inr ⟨q, Or.inl z⟩)))
    · exact Classical.byContradiction fun z => c (Or.inr (Or.inr (Or.inr ⟨q, Or.inr z⟩)))
  by_cases d : m.live = false
  · have e : shear m off n fb how = (m, 0) := by unfold shear; rw [if_neg c, if_pos d]
    rw [e]
    rw [ed] at hb
    have h5 : ¬ m.st < 3 := by simpa [SS.live] using d
    refine (heard_dead g m.st m.credit m.next m.fin m.B.length how m.finish fb da dc vh off n w hb (by omega) (by omega) h1 h2 h3 h4 h5).mono ?_
    rintro e w' ⟨rfl, hw⟩
    subst hw
    exact ⟨rfl, hR, chg_of_eq _⟩
  obtain ⟨o, rfl⟩ : ∃ o : Nat, off = (o : Int) := ⟨off.toNat, by omega⟩
  obtain ⟨k, rfl⟩ : ∃ k : Nat, n = (k : Int) := ⟨n.toNat, by omega⟩
  have h5 : m.st < 3 := by
    have : m.live = true := by simpa using d
    simpa [SS.live] using this
  have e1 : ((o : Int) + (k : Int)).toNat = o + k := by omega
  have e : shear m o k fb how = ({ m with W := setN m.W o (o + k) how, fin := if fb = true ∧ m.fin ≠ 2 then how else m.fin, st := if (if fb = true ∧ m.fin ≠ 2 then how else m.fin) = 2 ∧ (setN m.W o (o + k) how).all (· == 2) then 3 else m.st }, 0) := by
    unfold shear; rw [if_neg c, if_neg d]; simp only [e1, Int.toNat_natCast]
  rw [e]
  refine (heard_do g base m.st m.credit m.next m.fin m.B.length how o k m.finish fb m.B m.W vd vh D w hb hA hlen rfl (by omega) hnx (by omega) (fun q => ⟨(h4 q).1, by have := (h4 q).2; omega⟩) h5 (fun q => (I.finF q).1) I.fin3 hh).mono ?_
  rintro e w' ⟨rfl, q1, q2, q3⟩
  exact ⟨rfl, ⟨vd, vh, q3, q2⟩, q1⟩
theorem run_append_noT (w : World) (base : Nat) (t ty e : TypeId) (i : TypeInfo) (size c : Nat) (ht : Tryd.prog.underlying t = some (.slice e)) (hi : Tryd.prog.info? e = some i)
    (v : Value) (n : Nat) (xs : List Value) (hown : w.ownsRow base e size v n xs) :
    (Builtin.append_ #[t, t] ty #[v, .slice none 0 c]).run Tryd.prog w = .ok v w := by
  rcases hown.2 with ⟨rfl, rfl⟩ | ⟨g, cap, cur, rfl, _, _, hnc, _⟩
  · simp [Builtin.append_, run_underlying ht, sizeOf, typeInfo, hi, Builtin.lenOf, Builtin.firstCells]
  · simp [Builtin.append_, run_underlying ht, sizeOf, typeInfo, hi, Builtin.lenOf, Builtin.firstCells, hnc, storeCells]
/-- 'append(own, xs...)' of bytes that came in. -/
theorem wpList_append_rowT {w : World} {ops : Array Oper} {rest : List Oper} {o : Oper} {a : Act} {Q : Exit → Act → World → Prop} (hgd : o.guard = none) (p q : Operand)
    (ho : o.op = .call { callee := .builtin .append, args := #[p, q], argTypes := #[22, 22] })
    (base : Nat) (v : Value) (n : Nat) (ys : List Value) (hp : a.eval p = v) (hown : w.ownsRow base 5 1 v n ys) (av : Value) (X : List Int) (hq : a.eval q = av) (hrow : Row w .u8 av X) (h63 : n + X.length ≤ 1099511627776) (hbase : base ≤ w.heap.size)
    (h : ∀ v' w', w'.ownsRow base 5 1 v' (n + X.length) (ys ++ X.map (Value.int .u8)) → w.grownBy w' v.ownBlock → (v'.ownBlock = v.ownBlock ∨ v'.ownBlock = some w.heap.size) → wpList Tryd.prog ops Q rest (a.put o.dst v') w') :
    wpList Tryd.prog ops Q (o :: rest) a w := by
  obtain ⟨i0, hi, hz0, hz1, hz2⟩ := info_parts infoU8
  rcases hrow with ⟨rfl, ao, cap, rfl⟩ | ⟨b, off, cap, rfl, hlt, hcap, hc⟩
  · cases ao with
    | none =>
      refine wpList_plain hgd fun K hK => ?_
      have hrun := run_append_noT w base 22 o.type 5 i0 1 cap Tryd.underlying22 hi v n ys hown
      unfold Oper.wp
      simp [execOp, ho, resolve, invoke, builtin, hp, hq, hrun, Result.andThen]
      exact hK _ _ (h v w (by simpa using hown) ⟨rfl, rfl, rfl, Nat.le_refl _, fun _ _ _ => rfl⟩ (Or.inl rfl))
    | some ad =>
      refine wpList_append_own_at w hgd p q 22 ho base 5 i0 _ 1 1 Tryd.underlying22 hi hz0 hz1 hz2 rfl (by decide) v n ys hp hown ad 0 cap [] hq rfl (by simp) (by simp) (by unfold maxLen; omega) (by omega) hbase ?_
      intro v' w' o1 g1 _ at1
      exact h v' w' (by simpa using o1) g1 at1
  · refine wpList_append_own_at w hgd p q 22 ho base 5 i0 _ 1 1 Tryd.underlying22 hi hz0 hz1 hz2 rfl (by decide) v n ys hp hown ⟨b, off, none⟩ X.length cap (X.map (Value.int .u8)) hq (by simp) ?_ ?_ (by unfold maxLen; omega) (by omega) hbase ?_
    · intro j u hj
      rw [Go.WideShapes.add_plain]
      have hl : j < X.length := by have := (List.getElem?_eq_some_iff.1 hj).1; simpa using this
      rw [hc j hl, ← hj]
      simp [List.getD, hl]
    · intro u hu
      obtain ⟨x, _, rfl⟩ := List.mem_map.1 hu
      rfl
    · intro v' w' o1 g1 _ at1
      exact h v' w' o1 g1 at1
theorem infoIn : (Tryd.prog.info? 3).map (fun i => (i.zero, i.size, i.bytes)) = some (some (.int .i64 0), 1, 8) := by kernel_rfl
theorem QA.self {D : Nat → Prop} {w : World} {g base : Nat} {B : List Int} {W : List Nat} {vd vh : Value} (h : QA w D g base B W vd vh) : QA w (DU D w w) g base B W vd vh := by rw [DU.self]; exact h
/-- The data grown. -/
theorem QA.growD {w w1 : World} {D : Nat → Prop} {g base n : Nat} {st credit next fin : Int} {fb : Bool} {B X : List Int} {W : List Nat} {vd vd' vh : Value} (hb : qB w g st credit next fin fb vd vh) (hA : QA w D g base B W vd vh)
    (o1 : w1.ownsRow base 5 1 vd' n (B.map (Value.int .u8) ++ X.map (Value.int .u8))) (hn : n = B.length + X.length) (c1 : Chg (fun k => some k = vd.ownBlock) w w1) (a1 : vd'.ownBlock = vd.ownBlock ∨ ∃ k, vd'.ownBlock = some k ∧ w.heap.size ≤ k) :
    qB (w1.setCell ⟨g, 5, none⟩ vd') g st credit next fin fb vd' vh ∧ QA (w1.setCell ⟨g, 5, none⟩ vd') (DU D w (w1.setCell ⟨g, 5, none⟩ vd')) g base (B ++ X) W vd' vh ∧ Chg D w (w1.setCell ⟨g, 5, none⟩ vd') := by
  have hgl := hb.lt
  have n1 : ∀ k, vh.ownBlock = some k → k ≠ g := own_gt hA.oh hb (by decide)
  have n2 : ∀ k, vd.ownBlock = some k → k ≠ g := own_gt hA.od hb (by decide)
  have b1 : qB w1 g st credit next fin fb vd vh := (c1.block g hgl (fun e => n2 g e.symm rfl)).trans hb
  have z1 := c1.size
  have m2 : ∀ k, vd'.ownBlock = some k → k ≠ g := own_gt o1 b1 (by decide)
  have oh1 : w1.ownsRow base 3 1 vh W.length (hv W) := ownsChg c1 hA.oh (fun k hk e => own_two (by decide) hA.oh hA.od k hk e)
  refine ⟨bk_set b1 5 vd', ⟨?_, ?_, Or.inl hA.dg, fun k hk => ?_, fun k hk => Or.inl (hA.dh k hk), fun k hk => ?_, hA.gb⟩, ?_⟩
  · rw [List.length_append, List.map_append, ← hn]
    exact (Only.setCell (w := w1) ⟨g, 5, none⟩ vd').owns o1 (fun k hk e => m2 k hk (Option.some.inj e))
  · exact (Only.setCell (w := w1) ⟨g, 5, none⟩ vd').owns oh1 (fun k hk e => n1 k hk (Option.some.inj e))
  · rcases a1 with e | ⟨k', e, hk'⟩
    · exact Or.inl (hA.dd k (by rw [← e]; exact hk))
    · have : k = k' := Option.some.inj (hk.symm.trans e)
      subst this
      exact Or.inr ⟨hk', by rw [size_setC]; exact (o1.lt k hk).2⟩
  · rcases hk with h | h
    · have := hA.lt k h; rw [size_setC]; omega
    · exact h.2
  · exact Chg.setD (c1.mono' (fun k hk e => hA.dd k e.symm)) g 5 _ (Or.inl hA.dg)
/-- How they stand, grown. -/
theorem QA.growH {w wr w1 : World} {D : Nat → Prop} {g base n : Nat} {st credit next fin : Int} {fb : Bool} {B : List Int} {W : List Nat} {vd vh vh' : Value} (hb : qB wr g st credit next fin fb vd vh) (hA : QA wr (DU D w wr) g base B W vd vh) (hc : Chg D w wr)
    (o1 : w1.ownsRow base 3 1 vh' n (hv W ++ [.int .i64 0])) (hn : n = W.length + 1) (c1 : Chg (fun k => some k = vh.ownBlock) wr w1) (a1 : vh'.ownBlock = vh.ownBlock ∨ ∃ k, vh'.ownBlock = some k ∧ wr.heap.size ≤ k) :
    qB (w1.setCell ⟨g, 6, none⟩ vh') g st credit next fin fb vd vh' ∧ QA (w1.setCell ⟨g, 6, none⟩ vh') (DU D w (w1.setCell ⟨g, 6, none⟩ vh')) g base B (W ++ [0]) vd vh' ∧ Chg D w (w1.setCell ⟨g, 6, none⟩ vh') := by
  have hgl := hb.lt
  have n1 : ∀ k, vh.ownBlock = some k → k ≠ g := own_gt hA.oh hb (by decide)
  have n2 : ∀ k, vd.ownBlock = some k → k ≠ g := own_gt hA.od hb (by decide)
  have b1 : qB w1 g st credit next fin fb vd vh := (c1.block g hgl (fun e => n1 g e.symm rfl)).trans hb
  have z1 := c1.size
  have zc := hc.size
  have zz : (w1.setCell ⟨g, 6, none⟩ vh').heap.size = w1.heap.size := size_setC _ _ _
  have m2 : ∀ k, vh'.ownBlock = some k → k ≠ g := own_gt o1 b1 (by decide)
  have od1 : w1.ownsRow base 5 1 vd B.length (B.map (Value.int .u8)) := ownsChg c1 hA.od (fun k hk e => own_two (by decide) hA.od hA.oh k hk e)
  have DUm : ∀ k, DU D w wr k → DU D w (w1.setCell ⟨g, 6, none⟩ vh') k := fun k hk => hk.imp id (fun h => ⟨h.1, by omega⟩)
  refine ⟨bk_set b1 6 vh', ⟨?_, ?_, DUm g hA.dg, fun k hk => DUm k (hA.dd k hk), fun k hk => ?_, fun k hk => ?_, hA.gb⟩, ?_⟩
  · exact (Only.setCell (w := w1) ⟨g, 6, none⟩ vh').owns od1 (fun k hk e => n2 k hk (Option.some.inj e))
  · have e : hv (W ++ [0]) = hv W ++ [.int .i64 0] := by simp [hv]
    rw [List.length_append, e]
    exact (Only.setCell (w := w1) ⟨g, 6, none⟩ vh').owns (by rw [hn] at o1; exact o1) (fun k hk e => m2 k hk (Option.some.inj e))
  · rcases a1 with e | ⟨k', e, hk'⟩
    · exact DUm k (hA.dh k (by rw [← e]; exact hk))
    · have : k = k' := Option.some.inj (hk.symm.trans e)
      subst this
      exact Or.inr ⟨by omega, by rw [zz]; exact (o1.lt k hk).2⟩
  · rcases hk with h | h
    · have := hA.lt k (Or.inl h); omega
    · exact h.2
  · have h2 : Chg (DU D w wr) wr (w1.setCell ⟨g, 6, none⟩ vh') := Chg.setD (c1.mono' (fun k hk e => hA.dh k e.symm)) g 6 _ (Or.inl hA.dg)
    exact hc.trDU h2
end Go.Proofs.YtpdclbfjngmppaaDoor

namespace Go.Proofs.YtpdclbfjngmppaaDoor
open Go.RowKit
set_option linter.unusedVariables false
set_option linter.unusedSimpArgs false

/-- What the loop of write keeps. -/
def QI (w wr : World) (D : Nat → Prop) (g base j : Nat) (st credit next fin : Int) (fb : Bool) (B : List Int) (W : List Nat) (vd : Value) : Prop :=
  ∃ vh, qB wr g st credit next fin fb vd vh ∧ QA wr (DU D w wr) g base B (W ++ List.replicate j 0) vd vh ∧ Chg D w wr
theorem qB.drewM {w : World} {g : Nat} {st credit next fin : Int} {fb : Bool} {vd vh : Value} (h : qB w g st credit next fin fb vd vh) (n : Nat) : qB (w.drewN n) g st credit next fin fb vd vh := h
theorem QI.drewM {w wr : World} {D : Nat → Prop} {g base j : Nat} {st credit next fin : Int} {fb : Bool} {B : List Int} {W : List Nat} {vd : Value} (h : QI w wr D g base j st credit next fin fb B W vd) (n : Nat) : QI w (wr.drewN n) D g base j st credit next fin fb B W vd := by
  obtain ⟨vh, h1, h2, h3⟩ := h
  exact ⟨vh, h1.drewM n, h2.drewM n, h3.drewD n⟩
set_option maxRecDepth 20000 in
set_option maxHeartbeats 2000000 in
theorem write_no (g : Nat) (st L : Nat) (credit next fin : Int) (f0 : Bool) (da : Option Addr) (dc : Nat) (vh : Value) (aa : Option Addr) (n ac : Nat) (w : World) (hb : qB w g st credit next fin f0 (.slice da L dc) vh) (hL : L ≤ 1000000) (hn : n ≤ 140737488355328) (hs : st = 2 → f0 = true)
    (h : (¬ st < 3 ∨ f0 = true) ∨ 65536 < L + n) :
    Calls Tryd.prog 19 #[.pointer (some ⟨g, 0, none⟩), .slice aa n ac] w fun e w' => e = .returned (.int .i64 (if ¬ st < 3 ∨ f0 = true then 7 else 4)) ∧ w' = w := by
  have c0 : w.cell? ⟨g, 0, none⟩ = some (.int .i64 (st : Int)) := (bk_cell hb 0).trans rfl
  have c4 : w.cell? ⟨g, 4, none⟩ = some (.bool f0) := (bk_cell hb 4).trans rfl
  have c5 : w.cell? ⟨g, 5, none⟩ = some (.slice da L dc) := (bk_cell hb 5).trans rfl
  have C := liveM g st credit next fin f0 (.slice da L dc) vh w hb
  by_cases c : ¬ st < 3 ∨ f0 = true
  · rw [if_pos c]
    have SB : ¬ st < 3 ∨ (st < 3 ∧ st = 2) ∨ (st < 3 ∧ ((st : Int) == 2) = false ∧ f0 = true) := by
      by_cases a : st < 3
      · by_cases b : st = 2
        · exact Or.inr (Or.inl ⟨a, b⟩)
        · exact Or.inr (Or.inr ⟨a, by simp; omega, c.resolve_left (fun q => q a)⟩)
      · exact Or.inl a
    rcases SB with h1 | ⟨h1, h2⟩ | ⟨h1, h2, h3⟩
    · rw [decide_eq_false h1] at C
      have H0 : Hid _ := And.intro C True.intro
      clear C hb c h h1 hs
      go_enter Tryd.func19, Tryd.ntmps19
      go_wp2_with (go_at_call 23; refine H0.out.1.mono ?_; rintro e w' ⟨rfl, rfl⟩)
      go_ret
      exact ⟨rfl, rfl⟩
    · rw [decide_eq_true h1] at C
      subst h2
      have H0 : Hid _ := And.intro C True.intro
      clear C hb c h h1 hs
      go_enter Tryd.func19, Tryd.ntmps19
      go_wp2_with (go_at_call 23; refine H0.out.1.mono ?_; rintro e w' ⟨rfl, rfl⟩)
      go_ret
      exact ⟨rfl, rfl⟩
    · rw [decide_eq_true h1] at C
      subst h3
      have H0 : Hid _ := And.intro C True.intro
      clear C hb c h h1 hs
      go_enter Tryd.func19, Tryd.ntmps19
      go_wp2_with (go_at_call 23; refine H0.out.1.mono ?_; rintro e w' ⟨rfl, rfl⟩)
      go_ret
      exact ⟨rfl, rfl⟩
  rw [if_neg c]
  have h1 : st < 3 := Classical.byContradiction fun q => c (Or.inl q)
  obtain rfl : f0 = false := by cases q : f0; rfl; exact absurd (Or.inr q) c
  have s2 : ((st : Int) == 2) = false := by
    have : st ≠ 2 := fun q => absurd (hs q) (by decide)
    simp; omega
  have b4 : (65536 : Int) < (L : Int) + (n : Int) := by have := h.resolve_left c; omega
  rw [decide_eq_true h1] at C
  have H0 : Hid _ := And.intro C True.intro
  clear C hb c h h1 hs
  go_enter Tryd.func19, Tryd.ntmps19
  go_wp2_with (go_at_call 23; refine H0.out.1.mono ?_; rintro e w' ⟨rfl, rfl⟩)
  go_ret
  exact ⟨rfl, rfl⟩
set_option maxRecDepth 20000 in
set_option maxHeartbeats 4000000 in
theorem write_do (g base : Nat) (st L : Nat) (credit next fin : Int) (B X : List Int) (W : List Nat) (vd vh av : Value) (D : Nat → Prop) (w : World) (hb : qB w g st credit next fin false vd vh) (hA : QA w D g base B W vd vh) (eB : B.length = L) (eW : W.length = L) (hL : L + X.length ≤ 65536) (h1 : st < 2)
    (hrow : Row w .u8 av X) (hbase : base ≤ w.heap.size) :
    Calls Tryd.prog 19 #[.pointer (some ⟨g, 0, none⟩), av] w fun e w' => e = .returned (.int .i64 0) ∧ Chg D w w' ∧ ∃ vd vh, qB w' g st credit next fin false vd vh ∧ QA w' (DU D w w') g base (B ++ X) (W ++ List.replicate X.length 0) vd vh := by
  obtain ⟨⟨da, dc, ed⟩, ⟨ta, tc, et⟩⟩ := hA.shape
  rw [eB] at ed
  rw [eW] at et
  subst ed et
  obtain ⟨aa, ac, ev⟩ := hrow.form
  obtain ⟨n, en⟩ : ∃ n, n = X.length := ⟨_, rfl⟩
  rw [← en] at ev hL
  subst ev
  have c0 : w.cell? ⟨g, 0, none⟩ = some (.int .i64 (st : Int)) := (bk_cell hb 0).trans rfl
  have c4 : w.cell? ⟨g, 4, none⟩ = some (.bool false) := (bk_cell hb 4).trans rfl
  have c5 : w.cell? ⟨g, 5, none⟩ = some (.slice da L dc) := (bk_cell hb 5).trans rfl
  have C := liveM g st credit next fin false (.slice da L dc) (.slice ta L tc) w hb
  rw [decide_eq_true (by omega)] at C
  have s2 : ((st : Int) == 2) = false := by simp; omega
  have hgl := hb.lt
  have od := hA.od
  rw [eB] at od
  have n2 : ∀ t, (Value.slice da L dc).ownBlock = some t → t ≠ g := own_gt hA.od hb (by decide)
  have H0 : Hid _ := And.intro C (And.intro hb (And.intro hA (And.intro eB (And.intro eW (And.intro hrow (And.intro en (And.intro od n2)))))))
  have hlm : L + n ≤ 1099511627776 := by omega
  clear hb C h1 hA eB eW hrow od n2 en
  go_enter Tryd.func19, Tryd.ntmps19
  go_wp2_with (first
    | (go_at_call 23; refine H0.out.1.mono ?_; rintro e w' ⟨rfl, hw⟩; subst w')
    | (at_builtin; refine wpList_append_rowT rfl (.tmp 34) (.tmp 35) rfl base (.slice da L dc) L (B.map (Value.int .u8)) rfl H0.out.2.2.2.2.2.2.2.1 (.slice aa n ac) X rfl H0.out.2.2.2.2.2.1 (by rw [← H0.out.2.2.2.2.2.2.1]; exact hlm) hbase ?_; intro vd' w1 o1 g1 at1; rw [← H0.out.2.2.2.2.2.2.1] at o1; obtain ⟨da', dc', ed'⟩ := own_form o1; have C1 : Chg (fun k => some k = (Value.slice da L dc).ownBlock) w w1 := grown_chg g1; have b1 : qB w1 g st credit next fin false (.slice da L dc) (.slice ta L tc) := (C1.block g hgl (fun e => H0.out.2.2.2.2.2.2.2.2 g e.symm rfl)).trans H0.out.2.1; have e5 : w1.cell? ⟨g, 5, none⟩ = some (.slice da L dc) := (bk_cell b1 5).trans rfl; have f5 : w1.frozen? ⟨g, 5, none⟩ = false := bk_free b1 5; have z1 := C1.size; have H1 : Hid _ := And.intro C1 (And.intro o1 at1); subst ed'; clear C1 b1 o1 g1 at1))
  have HS : Hid (QI w (w1.setCell ⟨g, 5, none⟩ (.slice da' (L + n) dc')) D g base 0 st credit next fin false (B ++ X) W (.slice da' (L + n) dc')) := by
    obtain ⟨q1, q2, q3⟩ := QA.growD H0.out.2.1 H0.out.2.2.1 H1.out.2.1 (by rw [H0.out.2.2.2.1, ← H0.out.2.2.2.2.2.2.1]) H1.out.1 (H1.out.2.2.imp id (fun e => ⟨_, e, Nat.le_refl _⟩))
    exact ⟨_, q1, by simpa using q2, q3⟩
  go_loopg [] n (fun q wr => ∃ j : Nat, j ≤ n ∧ q = n - j ∧ QI w wr D g base j st credit next fin false (B ++ X) W (.slice da' (L + n) dc'))
  case atStart => exact ⟨0, by omega, by omega, HS.out⟩
  case round =>
    obtain ⟨j, hj, hq, hI⟩ := hrel
    have hI' : Hid _ := And.intro hI True.intro
    obtain ⟨vh, hb, hA, hc⟩ := hI
    have hWl : (W ++ List.replicate j 0).length = L + j := by simp [H0.out.2.2.2.2.1]
    have oh := hA.oh
    rw [hWl] at oh
    obtain ⟨ha, hcp, eh⟩ := own_form oh
    subst eh
    have d5 : wr.cell? ⟨g, 5, none⟩ = some (.slice da' (L + n) dc') := (bk_cell hb 5).trans rfl
    have d6 : wr.cell? ⟨g, 6, none⟩ = some (.slice ha (L + j) hcp) := (bk_cell hb 6).trans rfl
    have hgl := hb.lt
    clear hb hA hc oh hWl
    go_upto_region 6 with fail
    go_cut [49] from 39 to 49 (fun cv wx => cv = .bool (decide (j < n)) ∧ ∃ nn, wx = wr.drewN nn)
    case first =>
      go_quiet (fail)
      go_wp2_with fail
      go_meet
      exact ⟨by congr 1, _, rfl⟩
    case rest =>
    obtain ⟨rfl, nn, hw⟩ := hcut
    have hI2 := hI'.out.1.drewM nn
    rw [← hw] at hI2
    clear hw d5 d6 hgl hI'
    obtain ⟨vh, hb, hA, hc⟩ := hI2
    have hWl : (W ++ List.replicate j 0).length = L + j := by simp [H0.out.2.2.2.2.1]
    have oh := hA.oh
    rw [hWl] at oh
    obtain ⟨ha, hcp, eh⟩ := own_form oh
    have d6 : wc.cell? ⟨g, 6, none⟩ = some vh := (bk_cell hb 6).trans rfl
    have hgl := hb.lt
    have n1 : ∀ t, vh.ownBlock = some t → t ≠ g := own_gt hA.oh hb (by decide)
    have zb : base ≤ wc.heap.size := by have := hc.size; omega
    have H2 : Hid _ := And.intro hb (And.intro hA (And.intro hc (And.intro oh (And.intro hWl (And.intro n1 True.intro)))))
    clear hb hA hc oh hWl n1
    by_cases hlt : j < n
    · rw [decide_eq_true hlt]
      have hjm : L + j + 1 ≤ 1099511627776 := by omega
      subst eh
      go_wp2_with (at_builtin; refine wpList_append_one rfl (.tmp 54) (.tmp 55) 38 3 (.int .i64 0) 8 rfl (by decide) rfl Tryd.underlying38 infoIn base (.slice ha (L + j) hcp) (L + j) (hv (W ++ List.replicate j 0)) rfl (alloc_owns H2.out.2.2.2.1 _) wc.heap.size (.int .i64 0) rfl rfl (lit1 wc _ _) hjm (by simp; omega) ?_; intro vh' w2 o2 g2 at2; obtain ⟨ha', hcp', eh'⟩ := own_form o2; have C2 : Chg (fun k => some k = (Value.slice ha (L + j) hcp).ownBlock) wc w2 := (alloc_chg wc _).trans (grown_chg g2); have b2 : qB w2 g st credit next fin false (.slice da' (L + n) dc') (.slice ha (L + j) hcp) := (C2.block g hgl (fun e => H2.out.2.2.2.2.2.1 g e.symm rfl)).trans H2.out.1; have e6 : w2.cell? ⟨g, 6, none⟩ = some (.slice ha (L + j) hcp) := (bk_cell b2 6).trans rfl; have f6 : w2.frozen? ⟨g, 6, none⟩ = false := bk_free b2 6; have z2 := C2.size; have H3 : Hid _ := And.intro C2 (And.intro o2 at2); subst eh'; clear C2 b2 o2 g2 at2)
      go_roundg (n - (j + 1))
      case measure => omega
      case rel =>
        refine ⟨j + 1, by omega, rfl, ?_⟩
        obtain ⟨q1, q2, q3⟩ := QA.growH H2.out.1 H2.out.2.1 H2.out.2.2.1 H3.out.2.1 (by rw [H2.out.2.2.2.2.1]) H3.out.1 (H3.out.2.2.imp id (fun e => ⟨_, e, by simp⟩))
        rw [List.append_assoc, ← List.replicate_succ'] at q2
        exact ⟨_, q1, q2, q3⟩
    · obtain rfl : j = n := by omega
      rw [decide_eq_false hlt]
      go_wp2_with fail
      go_ret
      rw [← H0.out.2.2.2.2.2.2.1]
      exact ⟨rfl, H2.out.2.2.1, _, _, H2.out.1, H2.out.2.1⟩
end Go.Proofs.YtpdclbfjngmppaaDoor

namespace Go.Proofs.YtpdclbfjngmppaaDoor
open Go.RowKit
set_option linter.unusedVariables false

theorem writeM (g base : Nat) (m : SS) (av : Value) (X : List Int) (D : Nat → Prop) (w : World) (I : SI m) (hR : QRep w D g base m) (hrow : Row w .u8 av X) (hX : X.length ≤ 1048576) (hbase : base ≤ w.heap.size) :
    Calls Tryd.prog 19 #[.pointer (some ⟨g, 0, none⟩), av] w fun e w' => e = .returned (.int .i64 (swrite m X).2) ∧ QRep w' (DU D w w') g base (swrite m X).1 ∧ Chg D w w' := by
  obtain ⟨vd, vh, hb, hA⟩ := id hR
  have hbig := I.big
  have hl : m.live = decide (m.st < 3) := rfl
  have no : ((¬ m.st < 3 ∨ m.finish = true) ∨ 65536 < m.B.length + X.length) → Calls Tryd.prog 19 #[.pointer (some ⟨g, 0, none⟩), av] w fun e w' => e = .returned (.int .i64 (if ¬ m.st < 3 ∨ m.finish = true then 7 else 4)) ∧ w' = w := by
    intro h
    obtain ⟨⟨da, dc, ed⟩, _⟩ := hA.shape
    obtain ⟨aa, ac, ev⟩ := hrow.form
    subst ed ev
    exact write_no g m.st m.B.length m.credit m.next m.fin m.finish da dc vh aa X.length ac w hb (by omega) (by omega) I.sent h
  have same : QRep w (DU D w w) g base m := by rw [DU.self]; exact hR
  by_cases c : m.live = false ∨ m.finish = true
  · have c' : ¬ m.st < 3 ∨ m.finish = true := by rw [hl] at c; simpa using c
    have e : swrite m X = (m, 7) := by unfold swrite; rw [if_pos c]
    rw [e]
    refine (no (Or.inl c')).mono ?_
    rintro e w' ⟨rfl, hw⟩
    subst w'
    exact ⟨by rw [if_pos c'], same, chg_of_eq _⟩
  · have c' : ¬ (¬ m.st < 3 ∨ m.finish = true) := fun q => c (by rw [hl]; simpa using q)
    by_cases d : 65536 < m.B.length + X.length
    · have e : swrite m X = (m, 4) := by unfold swrite; rw [if_neg c, if_pos d]
      rw [e]
      refine (no (Or.inr d)).mono ?_
      rintro e w' ⟨rfl, hw⟩
      subst w'
      exact ⟨by rw [if_neg c'], same, chg_of_eq _⟩
    · have e : swrite m X = ({ m with B := m.B ++ X, W := m.W ++ List.replicate X.length 0 }, 0) := by unfold swrite; rw [if_neg c, if_neg d]
      rw [e]
      have hf : m.finish = false := by cases q : m.finish; rfl; exact absurd (Or.inr q) c
      have hs : m.st < 2 := by
        have h2 : m.st ≠ 2 := fun q => by have := I.sent q; rw [hf] at this; exact absurd this (by decide)
        have : m.st < 3 := Classical.byContradiction fun q => c' (Or.inl q)
        omega
      rw [hf] at hb
      refine (write_do g base m.st m.B.length m.credit m.next m.fin m.B X m.W vd vh av D w hb hA rfl I.len (by omega) hs hrow hbase).mono ?_
      rintro e w' ⟨rfl, hc, vd', vh', q1, q2⟩
      exact ⟨rfl, ⟨vd', vh', by rw [← hf] at q1; exact q1, q2⟩, hc⟩
end Go.Proofs.YtpdclbfjngmppaaDoor

namespace Go.Proofs.YtpdclbfjngmppaaDoor
open Go.RowKit
set_option linter.unusedVariables false

set_option maxRecDepth 20000 in
set_option maxHeartbeats 2000000 in
theorem piece_dead (g : Nat) (st : Nat) (credit next fin : Int) (f0 : Bool) (vd vh : Value) (n : Int) (w : World) (hb : qB w g st credit next fin f0 vd vh) (h : ¬ st < 3) :
    Calls Tryd.prog 31 #[.pointer (some ⟨g, 0, none⟩), .int .i64 n] w fun e w' => e = .returned (.tuple #[.int .i64 0, .int .i64 0, .bool false]) ∧ w' = w := by
  have C := liveM g st credit next fin f0 vd vh w hb
  rw [decide_eq_false h] at C
  have H0 : Hid _ := And.intro C True.intro
  clear C hb h
  go_enter Tryd.func31, Tryd.ntmps31
  go_wp2_with (go_at_call 23; refine H0.out.1.mono ?_; rintro e w' ⟨rfl, hw⟩; subst w')
  go_ret3
  exact ⟨rfl, rfl⟩
set_option maxRecDepth 20000 in
set_option maxHeartbeats 4000000 in
theorem piece_lost (g base st L N A K n : Nat) (credit fin : Int) (f0 : Bool) (vd : Value) (b cap : Nat) (W : List Nat) (w : World) (hb : qB w g st credit N fin f0 vd (.slice (some ⟨b, 0, none⟩) L cap)) (hs : st < 3)
    (hc : ∀ p, p < L → w.cell? ⟨b, p, none⟩ = some (.int .i64 ((W.getD p 0 : Nat) : Int))) (hNL : N ≤ L) (hL : L ≤ 65536) (hA : A < N) (h1 : ∀ p, p < A → W.getD p 0 ≠ 3) (h2 : W.getD A 0 = 3)
    (hK : K ≤ n) (hn : n ≤ 1500) (h3 : ∀ i, i < K → W.getD (A + i) 0 = 3) (h4 : K = n ∨ W.getD (A + K) 0 ≠ 3) (h5 : A + K ≤ N) :
    Calls Tryd.prog 31 #[.pointer (some ⟨g, 0, none⟩), .int .i64 n] w fun e w' => e = .returned (.tuple #[.int .i64 A, .int .i64 ((A + K : Nat) : Int), .bool true]) ∧ w' = w := by
  have C := liveM g st credit N fin f0 vd _ w hb
  rw [decide_eq_true hs] at C
  have c2 : w.cell? ⟨g, 2, none⟩ = some (.int .i64 (N : Int)) := (bk_cell hb 2).trans rfl
  have c6 : w.cell? ⟨g, 6, none⟩ = some (.slice (some ⟨b, 0, none⟩) L cap) := (bk_cell hb 6).trans rfl
  have H0 : Hid _ := And.intro C (And.intro hc (And.intro h1 (And.intro h2 (And.intro h3 h4))))
  clear C hb hs hc h1 h2 h3 h4
  go_enter Tryd.func31, Tryd.ntmps31
  go_wp2_with (go_at_call 23; refine H0.out.1.mono ?_; rintro e w' ⟨rfl, hw⟩; subst w')
  go_loop [7] (fun i => ∃ k : Nat, k ≤ A ∧ i = .int .i64 k) (fun i => A + 1 - (intOf i).toNat)
  case atStart => exact ⟨0, Nat.zero_le _, rfl⟩
  case round =>
    obtain ⟨k, hk, rfl⟩ := hrel
    by_cases hkA : k = A
    · subst hkA
      have ck : w.cell? ⟨b, k, none⟩ = some (.int .i64 3) := by rw [H0.out.2.1 k (by omega), H0.out.2.2.2.1]; rfl
      go_wp2
      go_loop [8] (fun q => ∃ j : Nat, j ≤ K ∧ q = .int .i64 ((k + j : Nat) : Int)) (fun q => k + K + 1 - (intOf q).toNat)
      case atStart => exact ⟨0, Nat.zero_le _, rfl⟩
      case round =>
        obtain ⟨j, hj, rfl⟩ := hrel
        clear ck
        by_cases hjK : j < K
        · have cj : w.cell? ⟨b, k + j, none⟩ = some (.int .i64 3) := by rw [H0.out.2.1 (k + j) (by omega), H0.out.2.2.2.2.1 j hjK]; rfl
          go_wp2
          go_round
          case rel => exact ⟨j + 1, by omega, by go_num⟩
          case measure => simp [intOf]; omega
        · obtain rfl : j = K := by omega
          by_cases e1 : k + j < N
          · by_cases e2 : j < n
            · have e3 : W.getD (k + j) 0 ≠ 3 := H0.out.2.2.2.2.2.resolve_left (by omega)
              have cj := H0.out.2.1 (k + j) (by omega)
              have ne : (((W.getD (k + j) 0 : Nat) : Int) == 3) = false := by rw [beq_eq_false_iff_ne]; intro q; exact e3 (by omega)
              obtain ⟨x, ex⟩ : ∃ x : Int, x = ((W.getD (k + j) 0 : Nat) : Int) := ⟨_, rfl⟩
              rw [← ex] at cj ne
              clear ex e3
              go_wp2
              go_ret3
              exact ⟨rfl, rfl⟩
            · go_wp2
              go_ret3
              exact ⟨rfl, rfl⟩
          · go_wp2
            go_ret3
            exact ⟨rfl, rfl⟩
    · have cj := H0.out.2.1 k (by omega)
      have e3 := H0.out.2.2.1 k (by omega)
      have ne : (((W.getD k 0 : Nat) : Int) == 3) = false := by rw [beq_eq_false_iff_ne]; intro q; exact e3 (by omega)
      obtain ⟨x, ex⟩ : ∃ x : Int, x = ((W.getD k 0 : Nat) : Int) := ⟨_, rfl⟩
      rw [← ex] at cj ne
      clear ex e3
      go_wp2
      go_round
      case rel => exact ⟨k + 1, by omega, by go_num⟩
      case measure => simp [intOf]; omega
theorem drews1 {w : World} : ∃ q, w.drew = w.drewN q := ⟨1, rfl⟩
theorem drews2 {w : World} : ∃ q, w.drew.drew = w.drewN q := ⟨2, rfl⟩
theorem drewsN {w : World} (n m : Nat) : ∃ q, (w.drewN n).drewN m = w.drewN q := ⟨n + m, by induction m with
  | zero => rfl
  | succ m ih => show ((w.drewN n).drewN m).drew = (w.drewN (n + m)).drew; rw [ih]⟩
/-- Where none is lost: all of the loop is passed by, then the rest. Which way it goes is told by two tests. -/
theorem cell7 {w : World} {g : Nat} {st credit next fin : Int} {fb : Bool} {vd vh : Value} (hb : qB w g st credit next fin fb vd vh) : w.cell? ⟨g, 1, none⟩ = some (.int .i64 credit) ∧ w.cell? ⟨g, 2, none⟩ = some (.int .i64 next) ∧ w.cell? ⟨g, 3, none⟩ = some (.int .i64 fin) ∧ w.cell? ⟨g, 4, none⟩ = some (.bool fb) ∧ w.cell? ⟨g, 5, none⟩ = some vd ∧ w.cell? ⟨g, 6, none⟩ = some vh :=
  ⟨(bk_cell hb 1).trans rfl, (bk_cell hb 2).trans rfl, (bk_cell hb 3).trans rfl, (bk_cell hb 4).trans rfl, (bk_cell hb 5).trans rfl, (bk_cell hb 6).trans rfl⟩
set_option maxRecDepth 20000 in
set_option maxHeartbeats 4000000 in
theorem piece_new (g st L N n : Nat) (credit fin : Int) (f0 : Bool) (da : Option Addr) (dc : Nat) (ta : Option Addr) (tc : Nat) (W : List Nat) (w : World) (hb : qB w g st credit N fin f0 (.slice da L dc) (.slice ta L tc)) (hs : st < 3)
    (hc : ∀ p, p < L → ∃ b, ta = some ⟨b, 0, none⟩ ∧ w.cell? ⟨b, p, none⟩ = some (.int .i64 ((W.getD p 0 : Nat) : Int))) (hNL : N ≤ L) (hL : L ≤ 65536) (h1 : ∀ p, W.getD p 0 ≠ 3) (hn : n ≤ 1500) (c0 : 0 ≤ credit) (c1 : credit ≤ 9223372036854775807) (hnew : (N : Int) < min credit L) :
    Calls Tryd.prog 31 #[.pointer (some ⟨g, 0, none⟩), .int .i64 n] w fun e w' => e = .returned (.tuple #[.int .i64 N, .int .i64 (min (min credit L) ((N + n : Nat) : Int)), .bool true]) ∧ ∃ q, w' = w.drewN q := by
  have C := liveM g st credit N fin f0 _ _ w hb
  rw [decide_eq_true hs] at C
  obtain ⟨k1, k2, k3, k4, k5, k6⟩ := cell7 hb
  have hgl := hb.lt
  have H0 : Hid _ := And.intro C (And.intro hc h1)
  clear C hb hs hc h1 k3 k4
  go_enter Tryd.func31, Tryd.ntmps31
  go_wp2_with (go_at_call 23; refine H0.out.1.mono ?_; rintro e w' ⟨rfl, hw⟩; subst w')
  go_loop [7] (fun i => ∃ k : Nat, k ≤ N ∧ i = .int .i64 k) (fun i => N + 1 - (intOf i).toNat)
  case atStart => exact ⟨0, Nat.zero_le _, rfl⟩
  case round =>
    obtain ⟨k, hk, rfl⟩ := hrel
    by_cases hkA : k < N
    · obtain ⟨b, rfl, cj⟩ := H0.out.2.1 k (by omega)
      have e3 := H0.out.2.2 k
      have ne : (((W.getD k 0 : Nat) : Int) == 3) = false := by rw [beq_eq_false_iff_ne]; intro q; exact e3 (by omega)
      obtain ⟨x, ex⟩ : ∃ x : Int, x = ((W.getD k 0 : Nat) : Int) := ⟨_, rfl⟩
      rw [← ex] at cj ne
      clear ex e3 hnew
      go_wp2
      go_round
      case rel => exact ⟨k + 1, by omega, by go_num⟩
      case measure => simp [intOf]; omega
    · obtain rfl : k = N := by omega
      go_upto_region 11 with fail
      go_region
      go_upto_region 13 with fail
      go_region
      go_wp2
      go_ret3
      exact ⟨rfl, drews2⟩
set_option maxRecDepth 20000 in
set_option maxHeartbeats 4000000 in
theorem piece_end (g st L N n : Nat) (credit fin : Int) (f0 : Bool) (da : Option Addr) (dc : Nat) (ta : Option Addr) (tc : Nat) (W : List Nat) (w : World) (hb : qB w g st credit N fin f0 (.slice da L dc) (.slice ta L tc)) (hs : st < 3)
    (hc : ∀ p, p < L → ∃ b, ta = some ⟨b, 0, none⟩ ∧ w.cell? ⟨b, p, none⟩ = some (.int .i64 ((W.getD p 0 : Nat) : Int))) (hNL : N ≤ L) (hL : L ≤ 65536) (h1 : ∀ p, W.getD p 0 ≠ 3) (hn : n ≤ 1500) (c0 : 0 ≤ credit) (c1 : credit ≤ 9223372036854775807) (hnew : min credit L ≤ (N : Int)) (hf3 : 0 ≤ fin ∧ fin ≤ 3) :
    Calls Tryd.prog 31 #[.pointer (some ⟨g, 0, none⟩), .int .i64 n] w fun e w' => e = .returned (if f0 = true ∧ N = L ∧ (fin = 0 ∨ fin = 3) then .tuple #[.int .i64 N, .int .i64 N, .bool true] else .tuple #[.int .i64 0, .int .i64 0, .bool false]) ∧ ∃ q, w' = w.drewN q := by
  have C := liveM g st credit N fin f0 _ _ w hb
  rw [decide_eq_true hs] at C
  obtain ⟨k1, k2, k3, k4, k5, k6⟩ := cell7 hb
  have hgl := hb.lt
  have H0 : Hid _ := And.intro C (And.intro hc h1)
  clear C hb hs hc h1
  obtain ⟨R, eR⟩ : ∃ R, R = (if f0 = true ∧ N = L ∧ (fin = 0 ∨ fin = 3) then Value.tuple #[.int .i64 N, .int .i64 N, .bool true] else .tuple #[.int .i64 0, .int .i64 0, .bool false]) := ⟨_, rfl⟩
  rw [← eR]
  have ER : Hid _ := And.intro eR True.intro
  clear eR
  go_enter Tryd.func31, Tryd.ntmps31
  go_wp2_with (go_at_call 23; refine H0.out.1.mono ?_; rintro e w' ⟨rfl, hw⟩; subst w')
  go_loop [7] (fun i => ∃ k : Nat, k ≤ N ∧ i = .int .i64 k) (fun i => N + 1 - (intOf i).toNat)
  case atStart => exact ⟨0, Nat.zero_le _, rfl⟩
  case round =>
    obtain ⟨k, hk, rfl⟩ := hrel
    by_cases hkA : k < N
    · obtain ⟨b, rfl, cj⟩ := H0.out.2.1 k (by omega)
      have e3 := H0.out.2.2 k
      have ne : (((W.getD k 0 : Nat) : Int) == 3) = false := by rw [beq_eq_false_iff_ne]; intro q; exact e3 (by omega)
      obtain ⟨x, ex⟩ : ∃ x : Int, x = ((W.getD k 0 : Nat) : Int) := ⟨_, rfl⟩
      rw [← ex] at cj ne
      clear ex e3 hnew
      go_wp2
      go_round
      case rel => exact ⟨k + 1, by omega, by go_num⟩
      case measure => simp [intOf]; omega
    · obtain rfl : k = N := by omega
      by_cases hF : f0 = true ∧ k = L ∧ (fin = 0 ∨ fin = 3)
      · have eR := ER.out.1
        rw [if_pos hF] at eR
        have EP : Hid _ := And.intro eR True.intro
        obtain ⟨rfl, rfl, hff⟩ := hF
        clear ER eR
        rcases hff with rfl | rfl
        all_goals (
          go_upto_region 11 with fail
          go_region
          go_upto_region 14 with fail
          go_quiet (fail)
          go_wp2_with fail
          go_upto_region 15 with fail
          go_region
          go_wp2
          go_ret3
          exact ⟨by rw [EP.out.1]; rfl, by first | exact drews1 | exact drews2 | exact ⟨3, rfl⟩ | exact ⟨_, rfl⟩ | exact drewsN _ _⟩)
      · have eR := ER.out.1
        rw [if_neg hF] at eR
        have EP : Hid _ := And.intro eR True.intro
        clear ER eR
        by_cases e1 : f0 = true
        · subst e1
          by_cases e2 : k = L
          · have e3 : (fin == 0) = false := by rw [beq_eq_false_iff_ne]; exact fun q => hF ⟨rfl, e2, Or.inl q⟩
            have e4 : (fin == 3) = false := by rw [beq_eq_false_iff_ne]; exact fun q => hF ⟨rfl, e2, Or.inr q⟩
            subst e2
            clear hF
            go_upto_region 11 with fail
            go_region
            go_upto_region 14 with fail
            go_quiet (fail)
            go_wp2
            go_ret3
            exact ⟨by rw [EP.out.1]; rfl, by first | exact drews1 | exact drews2 | exact ⟨3, rfl⟩ | exact ⟨_, rfl⟩ | exact drewsN _ _⟩
          · have e3 : ((k : Int) == (L : Int)) = false := by rw [beq_eq_false_iff_ne]; omega
            clear hF e2
            go_upto_region 11 with fail
            go_region
            go_upto_region 14 with fail
            go_quiet (fail)
            go_wp2
            go_ret3
            exact ⟨by rw [EP.out.1]; rfl, by first | exact drews1 | exact drews2 | exact ⟨3, rfl⟩ | exact ⟨_, rfl⟩ | exact drewsN _ _⟩
        · obtain rfl : f0 = false := by simpa using e1
          clear hF e1
          go_upto_region 11 with fail
          go_region
          go_upto_region 14 with fail
          go_quiet (fail)
          go_wp2
          go_ret3
          exact ⟨by rw [EP.out.1]; rfl, by first | exact drews1 | exact drews2 | exact ⟨3, rfl⟩ | exact ⟨_, rfl⟩ | exact drewsN _ _⟩
end Go.Proofs.YtpdclbfjngmppaaDoor

namespace Go.Proofs.YtpdclbfjngmppaaDoor
open Go.RowKit
set_option linter.unusedVariables false

/-- What piece answers. -/
def pV : Option (Nat × Nat) → Value
  | none => .tuple #[.int .i64 0, .int .i64 0, .bool false]
  | some z => .tuple #[.int .i64 (z.1 : Int), .int .i64 (z.2 : Int), .bool true]
def spV (m : SS) (n : Nat) : Option (Nat × Nat) := if m.live = false then none else spiece m n
theorem pieceM (g base : Nat) (m : SS) (n : Nat) (D : Nat → Prop) (w : World) (I : SI m) (hR : QRep w D g base m) (hn : n ≤ 1500) (hcr : m.credit ≤ 9223372036854775807) :
    Calls Tryd.prog 31 #[.pointer (some ⟨g, 0, none⟩), .int .i64 (n : Int)] w fun e w' => e = .returned (pV (spV m n)) ∧ ∃ q, w' = w.drewN q := by
  obtain ⟨vd, vh, hb, hA⟩ := id hR
  have hbig := I.big
  have hlen := I.len
  have hnx := I.nx
  by_cases hl : m.st < 3
  · have hl' : m.live = true := by show decide (m.st < 3) = true; simpa using hl
    have e0 : spV m n = spiece m n := by unfold spV; rw [if_neg (by rw [hl']; decide)]
    rw [e0]
    unfold spiece
    by_cases c : fst3 m.W < m.W.length
    · rw [if_pos c]
      have h3 := fst3_lost m.W c
      have hA0 := I.lost_lt h3
      obtain ⟨b, cap, ev, _, _⟩ := row_how hA.oh rfl (fst3 m.W) c
      rw [hlen] at ev
      subst ev
      have hc : ∀ p, p < m.B.length → w.cell? ⟨b, p, none⟩ = some (.int .i64 ((m.W.getD p 0 : Nat) : Int)) := fun p hp => by
        obtain ⟨b', cap', e', h', _⟩ := row_how hA.oh rfl p (by omega)
        rw [hlen] at e'
        cases e'
        exact h'
      have hall : ∀ i, i < rdk (L3 m.W) (fst3 m.W) n → m.W.getD (fst3 m.W + i) 0 = 3 := fun i hi => by
        have := rdk_all _ _ _ i hi; rw [L3_g] at this; simpa using this
      have hend : rdk (L3 m.W) (fst3 m.W) n = n ∨ m.W.getD (fst3 m.W + rdk (L3 m.W) (fst3 m.W) n) 0 ≠ 3 := by
        rcases rdk_end (L3 m.W) (fst3 m.W) n with h | h
        · exact Or.inl h
        · right; rw [L3_g] at h; simpa using h
      have hK : fst3 m.W + rdk (L3 m.W) (fst3 m.W) n ≤ m.next := by
        by_cases z : rdk (L3 m.W) (fst3 m.W) n = 0
        · omega
        · have := I.lost_lt (hall (rdk (L3 m.W) (fst3 m.W) n - 1) (by omega)); omega
      refine (piece_lost g base m.st m.B.length m.next (fst3 m.W) (rdk (L3 m.W) (fst3 m.W) n) n m.credit m.fin m.finish vd b cap m.W w hb hl hc hnx hbig hA0 (fun p hp => fst3_first m.W p hp) h3 (rdk_le _ _ _) hn hall hend hK).mono ?_
      rintro e w' ⟨rfl, hw⟩
      exact ⟨rfl, 0, by rw [hw]; rfl⟩
    · rw [if_neg c]
      obtain ⟨⟨da, dc, ed⟩, ta, tc, et⟩ := hA.shape
      rw [hlen] at et
      subst ed et
      have hno := fst3_none m.W c
      have hc : ∀ p, p < m.B.length → ∃ b, ta = some ⟨b, 0, none⟩ ∧ w.cell? ⟨b, p, none⟩ = some (.int .i64 ((m.W.getD p 0 : Nat) : Int)) := fun p hp => by
        obtain ⟨b', cap', e', h', _⟩ := row_how hA.oh rfl p (by omega)
        rw [hlen] at e'
        cases e'
        exact ⟨b', rfl, h'⟩
      by_cases d : (m.next : Int) < min m.credit m.B.length
      · rw [if_pos d]
        refine (piece_new g m.st m.B.length m.next n m.credit m.fin m.finish da dc ta tc m.W w hb hl hc hnx hbig hno hn I.cr hcr d).mono ?_
        rintro e w' ⟨rfl, hq⟩
        refine ⟨?_, hq⟩
        have : 0 ≤ min (min m.credit m.B.length) ((m.next + n : Nat) : Int) := by have := I.cr; omega
        show _ = Ending.returned (Value.tuple #[_, .int .i64 (((min (min m.credit m.B.length) ((m.next + n : Nat) : Int)).toNat : Nat) : Int), _])
        rw [Int.toNat_of_nonneg this]
      · rw [if_neg d]
        have h3 := I.fin3
        refine (piece_end g m.st m.B.length m.next n m.credit m.fin m.finish da dc ta tc m.W w hb hl hc hnx hbig hno hn I.cr hcr (by omega) ⟨by omega, by omega⟩).mono ?_
        rintro e w' ⟨rfl, hq⟩
        refine ⟨?_, hq⟩
        by_cases f : m.finish = true ∧ m.next = m.B.length ∧ (m.fin = 0 ∨ m.fin = 3)
        · rw [if_pos f, if_pos ⟨f.1, f.2.1, by omega⟩]; rfl
        · rw [if_neg f, if_neg (fun q => f ⟨q.1, q.2.1, by omega⟩)]; rfl
  · have hl' : m.live = false := by show decide (m.st < 3) = false; simpa using hl
    have e0 : spV m n = none := by unfold spV; rw [if_pos hl']
    rw [e0]
    refine (piece_dead g m.st m.credit m.next m.fin m.finish vd vh n w hb hl).mono ?_
    rintro e w' ⟨rfl, hw⟩
    exact ⟨rfl, 0, by rw [hw]; rfl⟩
end Go.Proofs.YtpdclbfjngmppaaDoor

namespace Go.Proofs.YtpdclbfjngmppaaDoor
open Go.RowKit
set_option linter.unusedVariables false
set_option linter.unusedSimpArgs false

theorem infoSObs : (Tryd.prog.info? 30).map (·.size) = some 7 := by kernel_rfl
/-- An observation in its block. -/
abbrev so7 (off : Int) (vd : Value) (s f b : Bool) : Obj := .cells #[.int .i64 0, .int .i64 0, .int .i64 off, vd, .bool s, .bool f, .bool b] 30
theorem QA.belowQ {w w' : World} {D : Nat → Prop} {g base : Nat} {B : List Int} {W : List Nat} {vd vh : Value} (h : QA w D g base B W vd vh) (hb : Below w.heap.size w w') : QA w' D g base B W vd vh :=
  ⟨owns_below h.od hb, owns_below h.oh hb, h.dg, h.dd, h.dh, fun k hk => Nat.lt_of_lt_of_le (h.lt k hk) hb.size, h.gb⟩
theorem qB.belowQ {w w' : World} {g : Nat} {st credit next fin : Int} {fb : Bool} {vd vh : Value} (h : qB w g st credit next fin fb vd vh) (hb : Below w.heap.size w w') : qB w' g st credit next fin fb vd vh := (hb.block g h.lt).trans h
theorem QRep.belowQ {w w' : World} {D : Nat → Prop} {g base : Nat} {m : SS} (h : QRep w D g base m) (hb : Below w.heap.size w w') : QRep w' D g base m := by
  obtain ⟨vd, vh, h1, h2⟩ := h
  exact ⟨vd, vh, h1.belowQ hb, h2.belowQ hb⟩
theorem cell_offT {w : World} {o g i j : Nat} {u v : Value} (h : w.drew.cell? ⟨g, i, none⟩ = some v) (hne : ¬ (g = o)) : (w.setCell ⟨o, j, none⟩ u).drew.cell? ⟨g, i, none⟩ = some v :=
  (World.cell?_of_block (w := w) (a := ⟨g, i, none⟩) (bk_other hne j u)).trans h
/-- What pull answers, where the run stands behind it. -/
def PullP (g base : Nat) (m : SS) (n : Nat) (D : Nat → Prop) (w : World) (e : Ending) (w' : World) : Prop :=
  ∃ vd, e = .returned (.agg #[.int .i64 0, .int .i64 0, .int .i64 ((spull m n).2.1 : Int), vd, .bool (spull m n).2.2.2.1, .bool (spull m n).2.2.2.2.1, .bool (spull m n).2.2.2.2.2]) ∧ w'.ownsRow w.heap.size 5 1 vd (spull m n).2.2.1.length ((spull m n).2.2.1.map (Value.int .u8)) ∧ QRep w' D g base (spull m n).1 ∧ Chg D w w'
end Go.Proofs.YtpdclbfjngmppaaDoor
