import Derived.Test.YtpdclbfjngmppaaDoorStP
import Derived.Deep.LoopGhost
import Derived.Deep.QuietTactic
import Derived.BigQuiet
import Derived.Laws.CopyRow
import Derived.Laws.CopyOwn
import Derived.Deep.RegionLaw
import Derived.Deep.RegionHeld3
import Derived.Deep.CutRange
namespace Go.Proofs.YtpdclbfjngmppaaDoor
open Go.RowKit
set_option linter.unusedVariables false

theorem Chg.set' {S : Nat → Prop} {w w' : World} (h : Chg S w w') (g i : Nat) (u : Value) (hg : S g) : Chg S w (w'.setCell ⟨g, i, none⟩ u) :=
  ⟨h.os, h.tape, h.output, by have := h.size; simpa [World.setCell] using this, fun k hk hs => (bk_other (k := k) (g := g) (fun e => hs (by rw [e]; exact hg)) i u).trans (h.block k hk hs)⟩
set_option maxRecDepth 20000 in
/-- The state may turn. -/
theorem turnI (g p s x : Nat) (cs : Array Value) (t : TypeId) (hp : p < 2) (hs : s < 6) (h1 : 1 ≤ x) (h5 : x ≤ 5) (w : World) (ht : TabF w) (h0 : 0 < w.heap.size)
    (hb : w.heap[g]? = some (.cells cs t (0, 0))) (c0 : cs[0]? = some (.int .i64 (p : Int))) (c1 : cs[1]? = some (.int .i64 (s : Int))) :
    Calls Tryd.prog 36 #[.pointer (some ⟨g, 0, none⟩), .int .i64 (x : Int)] w fun e w' => e = .returned (.bool (mtV p s x)) ∧
      w'.heap[g]? = some (.cells (if mtV p s x then cs.setIfInBounds 1 (.int .i64 (x : Int)) else cs) t (0, 0)) ∧ Chg (· = g) w w' := by
  have d0 : w.cell? ⟨g, 0, none⟩ = some (.int .i64 (p : Int)) := (bk_cell hb 0).trans c0
  have d1 : w.cell? ⟨g, 1, none⟩ = some (.int .i64 (s : Int)) := (bk_cell hb 1).trans c1
  have C := mayTurnI p s x hp hs h1 h5 w ht h0
  have hgl : g < w.heap.size := (Array.getElem?_eq_some_iff.1 hb).1
  have HB : Hid _ := And.intro hb (And.intro hgl c1)
  generalize mtV p s x = b at C ⊢
  clear hb c0 c1 ht h0
  go_enter Tryd.func36, Tryd.ntmps36
  go_wp2_with fail
  go_at_call 39
  refine C.mono ?_
  rintro e w1 ⟨rfl, b1⟩
  have hb1 := (b1.block g HB.out.2.1).trans HB.out.1
  have e1 : w1.cell? ⟨g, 1, none⟩ = some (.int .i64 (s : Int)) := (bk_cell hb1 1).trans HB.out.2.2
  have f1 := bk_free hb1 1
  have H1 : Hid _ := And.intro hb1 (And.intro (Chg.of_below (S := (· = g)) b1) True.intro)
  clear b1 hb1 C
  cases b
  · go_wp2
    go_ret
    exact ⟨rfl, H1.out.1, H1.out.2.1⟩
  · go_wp2
    go_ret
    exact ⟨rfl, bk_set H1.out.1 1 _, H1.out.2.1.set' g 1 _ rfl⟩

end Go.Proofs.YtpdclbfjngmppaaDoor

namespace Go.Proofs.YtpdclbfjngmppaaDoor
open Go.RowKit
set_option linter.unusedVariables false

end Go.Proofs.YtpdclbfjngmppaaDoor

namespace Go.Proofs.YtpdclbfjngmppaaDoor
open Go.RowKit
set_option linter.unusedVariables false

/-- The ring's cells. -/
def rc : List (Bool × Int) → List Value
  | [] => []
  | x :: r => .bool x.1 :: .int .u8 x.2 :: rc r
theorem rc_length : ∀ L, (rc L).length = 2 * L.length
  | [] => rfl
  | x :: r => by simp [rc, rc_length r]; omega
theorem rc_get0 : ∀ (L : List (Bool × Int)) (j : Nat), j < L.length → (rc L)[j * 2]? = some (.bool (L.getD j (false, 0)).1)
  | [], j, h => by simp at h
  | x :: r, 0, h => by simp [rc]
  | x :: r, j + 1, h => by
    have := rc_get0 r j (by simpa using h)
    rw [show (j + 1) * 2 = j * 2 + 1 + 1 by omega]
    simpa [rc] using this
theorem rc_get1 : ∀ (L : List (Bool × Int)) (j : Nat), j < L.length → (rc L)[j * 2 + 1]? = some (.int .u8 (L.getD j (false, 0)).2)
  | [], j, h => by simp at h
  | x :: r, 0, h => by simp [rc]
  | x :: r, j + 1, h => by
    have := rc_get1 r j (by simpa using h)
    rw [show (j + 1) * 2 + 1 = j * 2 + 1 + 1 + 1 by omega]
    simpa [rc] using this
theorem rc_set : ∀ (L : List (Bool × Int)) (j : Nat) (b : Bool) (v : Int), ((rc L).set (j * 2) (.bool b)).set (j * 2 + 1) (.int .u8 v) = rc (L.set j (b, v))
  | [], j, b, v => by simp [rc]
  | x :: r, 0, b, v => by simp [rc]
  | x :: r, j + 1, b, v => by
    have := rc_set r j b v
    rw [show (j + 1) * 2 = j * 2 + 1 + 1 by omega]
    simpa [rc] using this
/-- One byte that comes: what is in the ring, how many have come. -/
def kst (first win : Nat) (S : List (Bool × Int) × Nat) (pl : Nat) (v : Int) : List (Bool × Int) × Nat :=
  if pl < first then S else if (S.1.getD (pl % win) (false, 0)).1 then S else (S.1.set (pl % win) (true, v), S.2 + 1)
def kfo (first win off : Nat) (D : List Int) (S : List (Bool × Int) × Nat) : Nat → List (Bool × Int) × Nat
  | 0 => S
  | i + 1 => kst first win (kfo first win off D S i) (off + i) (D.getD i 0)
theorem kst_length (first win : Nat) (S : List (Bool × Int) × Nat) (pl : Nat) (v : Int) : (kst first win S pl v).1.length = S.1.length := by
  unfold kst
  split
  · rfl
  · split
    · rfl
    · simp
theorem kfo_length (first win off : Nat) (D : List Int) (S : List (Bool × Int) × Nat) : ∀ i, (kfo first win off D S i).1.length = S.1.length
  | 0 => rfl
  | i + 1 => by unfold kfo; rw [kst_length]; exact kfo_length first win off D S i
theorem kst_came (first win : Nat) (S : List (Bool × Int) × Nat) (pl : Nat) (v : Int) : (kst first win S pl v).2 ≤ S.2 + 1 := by
  unfold kst
  split
  · omega
  · split <;> simp
theorem kfo_came (first win off : Nat) (D : List Int) (S : List (Bool × Int) × Nat) : ∀ i, (kfo first win off D S i).2 ≤ S.2 + i
  | 0 => Nat.le_refl _
  | i + 1 => by
    have h1 := kfo_came first win off D S i
    have h2 := kst_came first win (kfo first win off D S i) (off + i) (D.getD i 0)
    show (kst first win (kfo first win off D S i) (off + i) (D.getD i 0)).2 ≤ _
    omega
end Go.Proofs.YtpdclbfjngmppaaDoor

namespace Go.Proofs.YtpdclbfjngmppaaDoor
open Go.RowKit
set_option linter.unusedVariables false

def K2 (g c : Nat) : Nat → Prop := fun k => k = g ∨ k = c
end Go.Proofs.YtpdclbfjngmppaaDoor

namespace Go.Proofs.YtpdclbfjngmppaaDoor
open Go.RowKit
set_option linter.unusedVariables false

end Go.Proofs.YtpdclbfjngmppaaDoor

namespace Go.Proofs.YtpdclbfjngmppaaDoor
open Go.RowKit
set_option linter.unusedVariables false

theorem mt4 (st : Nat) (hs : st < 6) : mtV 0 st 4 = decide (st < 2) := by
  have : st = 0 ∨ st = 1 ∨ st = 2 ∨ st = 3 ∨ st = 4 ∨ st = 5 := by omega
  rcases this with rfl | rfl | rfl | rfl | rfl | rfl <;> rfl
/-- What a reset does: the code, the state, the final size. -/
def rsV (st : Nat) (gr fin told n : Int) : Int × Nat × Int :=
  if n < 0 ∨ 4611686018427387903 < n then (1, st, fin) else if told < n then (8, st, fin) else if ¬ (gr ≤ n ∧ (fin = -1 ∨ n = fin)) then (10, st, fin) else (0, (if st < 2 then 4 else st), n)
end Go.Proofs.YtpdclbfjngmppaaDoor

namespace Go.Proofs.YtpdclbfjngmppaaDoor
open Go.RowKit
set_option linter.unusedVariables false

theorem TabF.chg {w w' : World} {S : Nat → Prop} (h : TabF w) (hc : Chg S w w') (h0 : 0 < w.heap.size) (hs : ¬ S 0) : TabF w' := by
  have hb := hc.block _ h0 hs
  have hcell : ∀ j, w'.cell? ⟨0, j, none⟩ = w.cell? ⟨0, j, none⟩ := fun j => by simp only [World.cell?, hb]
  exact ⟨(hcell 0).trans h.c0, (hcell 1).trans h.c1, (hcell 2).trans h.c2, (hcell 3).trans h.c3, (hcell 4).trans h.c4, (hcell 5).trans h.c5, (hcell 6).trans h.c6, (hcell 7).trans h.c7, (hcell 8).trans h.c8, (hcell 9).trans h.c9, (hcell 10).trans h.c10, (hcell 11).trans h.c11⟩
theorem mt1 (st : Nat) (hs : st < 6) : mtV 0 st 1 = decide (st = 0) := by
  have : st = 0 ∨ st = 1 ∨ st = 2 ∨ st = 3 ∨ st = 4 ∨ st = 5 := by omega
  rcases this with rfl | rfl | rfl | rfl | rfl | rfl <;> rfl
theorem mt2 (st : Nat) (hs : st < 6) : mtV 0 st 2 = decide (st = 1) := by
  have : st = 0 ∨ st = 1 ∨ st = 2 ∨ st = 3 ∨ st = 4 ∨ st = 5 := by omega
  rcases this with rfl | rfl | rfl | rfl | rfl | rfl <;> rfl
end Go.Proofs.YtpdclbfjngmppaaDoor

namespace Go.Proofs.YtpdclbfjngmppaaDoor
open Go.RowKit
set_option linter.unusedVariables false

/-- Where data is refused: the code, 0 where it is not. -/
def dtE (gr : Nat) (fin told : Int) (n : Nat) (off : Int) (fb : Bool) : Int :=
  if 1500 < n ∨ off < 0 ∨ 4611686018427387903 - (n : Int) < off then 1
  else if told < off + n then 8
  else if (fin ≠ -1 ∧ fin < off + n) ∨ (fb = true ∧ ¬ ((gr : Int) ≤ off + n ∧ (fin = -1 ∨ off + n = fin))) then 10 else 0
theorem chg_of_eq {S : Nat → Prop} (w : World) : Chg S w w := ⟨rfl, rfl, rfl, Nat.le_refl _, fun _ _ _ => rfl⟩
end Go.Proofs.YtpdclbfjngmppaaDoor

namespace Go.Proofs.YtpdclbfjngmppaaDoor
open Go.RowKit
set_option linter.unusedVariables false

end Go.Proofs.YtpdclbfjngmppaaDoor

namespace Go.Proofs.YtpdclbfjngmppaaDoor
open Go.RowKit
set_option linter.unusedVariables false

theorem Chg.k2 {g c : Nat} {w w' : World} (h : Chg (· = g) w w') : Chg (K2 g c) w w' := ⟨h.os, h.tape, h.output, h.size, fun k hk hs => h.block k hk (fun e => hs (Or.inl e))⟩

end Go.Proofs.YtpdclbfjngmppaaDoor

namespace Go.Proofs.YtpdclbfjngmppaaDoor
open Go.RowKit
set_option linter.unusedVariables false

theorem run_copy2 {P : Program} (w : World) (dT sT ty elem : TypeId) (g o dLen dCap : Nat) (a : Addr) (sLen sCap : Nat) (cur : Array Value) (t : TypeId) (cs : List Value)
    (hu : P.underlying dT = some (.slice elem)) (hs : (P.info? elem).map (·.size) = some 2)
    (hg : w.heap[g]? = some (.cells cur t (0, 0))) (hn : cs.length = Nat.min sLen dLen * 2)
    (hsrc : ∀ j v, cs[j]? = some v → w.cell? (a.add j) = some v) (hfit : o + cs.length ≤ cur.size) (h1 : ∀ v ∈ cs, v.oneCell' = true) :
    (Builtin.copy_ #[dT, sT] ty #[.slice (some ⟨g, o, none⟩) dLen dCap, .slice (some a) sLen sCap]).run P w =
      .ok (goInt (Nat.min sLen dLen)) (w.setRow g (cur.toList.take o ++ cs ++ cur.toList.drop (o + cs.length)).toArray) := by
  have hl := run_loadCells_list (P := P) w a cs hsrc
  have hst := run_storeCells_at P g o t cs 0 cur w hg (by simpa using hfit) h1
  cases hq : P.info? elem with
  | none => simp [hq] at hs
  | some i =>
    have hi : i.size = 2 := by simpa [hq] using hs
    rw [hn] at hl
    simp [Builtin.copy_, run_underlying hu, Builtin.lenOf, Builtin.firstCells, sizeOf, typeInfo, hq, hi, hl, hst]
theorem zeros2 (n : Nat) : (Builtin.zeroCells #[Value.bool false, Value.int .u8 0] n).toList = rc (List.replicate n (false, 0)) := by
  apply List.ext_getElem?
  intro i
  simp only [Builtin.zeroCells, Array.toList_map, Array.toList_range]
  by_cases h : i < n * 2
  · obtain ⟨j, hj⟩ : ∃ j, i = j * 2 ∨ i = j * 2 + 1 := ⟨i / 2, by omega⟩
    rcases hj with rfl | rfl
    · rw [rc_get0 _ j (by simp; omega)]
      simp [show j * 2 < n * 2 by omega, show j < n by omega]
    · rw [rc_get1 _ j (by simp; omega)]
      simp [show j * 2 + 1 < n * 2 by omega, show j < n by omega, show (j * 2 + 1) % 2 = 1 by omega]
  · rw [List.getElem?_eq_none (by simp; omega), List.getElem?_eq_none (by rw [rc_length]; simp; omega)]
theorem run_clear2 {P : Program} (w : World) (T ty elem : TypeId) (g o n cap : Nat) (cur : Array Value) (t : TypeId) (h0 : 0 < n)
    (hu : P.underlying T = some (.slice elem)) (hz : (P.info? elem).map (·.zero) = some (some (.agg #[.bool false, .int .u8 0])))
    (hg : w.heap[g]? = some (.cells cur t (0, 0))) (hfit : o + n * 2 ≤ cur.size) :
    (Builtin.clear_ #[T] ty #[.slice (some ⟨g, o, none⟩) n cap]).run P w = .ok (.tuple #[]) (w.setRow g (cur.toList.take o ++ rc (List.replicate n (false, 0)) ++ cur.toList.drop (o + n * 2)).toArray) := by
  have hlen : (rc (List.replicate n (false, (0 : Int)))).length = n * 2 := by rw [rc_length]; simp; omega
  have hone : ∀ v ∈ rc (List.replicate n (false, (0 : Int))), v.oneCell' = true := by
    intro v hv
    obtain ⟨i, hi, e⟩ := List.getElem_of_mem hv
    have hg' := List.getElem?_eq_getElem hi
    rw [e] at hg'
    obtain ⟨j, hj⟩ : ∃ j, i = j * 2 ∨ i = j * 2 + 1 := ⟨i / 2, by omega⟩
    rcases hj with rfl | rfl
    · rw [rc_get0 _ j (by simp; omega)] at hg'; cases hg'; rfl
    · rw [rc_get1 _ j (by simp; omega)] at hg'; cases hg'; rfl
  have hst := run_storeCells_at P g o t (rc (List.replicate n (false, 0))) 0 cur w hg (by rw [hlen]; simpa using hfit) hone
  rw [hlen] at hst
  cases hq : P.info? elem with
  | none => simp [hq] at hz
  | some i =>
    have hi : i.zero = some (.agg #[.bool false, .int .u8 0]) := by simpa [hq] using hz
    have hc : (Value.agg #[.bool false, .int .u8 0]).cells = #[.bool false, .int .u8 0] := rfl
    obtain ⟨m, rfl⟩ : ∃ m, n = m + 1 := ⟨n - 1, by omega⟩
    simp [Builtin.clear_, run_underlying hu, zeroValue, typeInfo, hq, hi, hc, zeros2, hst]
end Go.Proofs.YtpdclbfjngmppaaDoor

namespace Go.Proofs.YtpdclbfjngmppaaDoor
open Go.RowKit
set_option linter.unusedVariables false

theorem rc_append : ∀ A B : List (Bool × Int), rc (A ++ B) = rc A ++ rc B
  | [], B => rfl
  | x :: r, B => by simp [rc, rc_append r B]
theorem rc_take : ∀ (L : List (Bool × Int)) (k : Nat), (rc L).take (k * 2) = rc (L.take k)
  | [], k => by simp [rc]
  | x :: r, 0 => by simp [rc]
  | x :: r, k + 1 => by
    rw [show (k + 1) * 2 = k * 2 + 1 + 1 by omega]
    simp [rc, rc_take r k]
theorem rc_drop : ∀ (L : List (Bool × Int)) (k : Nat), (rc L).drop (k * 2) = rc (L.drop k)
  | [], k => by simp [rc]
  | x :: r, 0 => by simp [rc]
  | x :: r, k + 1 => by
    rw [show (k + 1) * 2 = k * 2 + 1 + 1 by omega]
    simp [rc, rc_drop r k]
theorem rc_one (L : List (Bool × Int)) : ∀ v ∈ rc L, v.oneCell' = true := by
  induction L with
  | nil => simp [rc]
  | cons x r ih =>
    intro v hv
    simp only [rc, List.mem_cons] at hv
    rcases hv with rfl | rfl | hv
    · rfl
    · rfl
    · exact ih v hv
theorem only_setRowS (w : World) (g : Nat) (cs : Array Value) : Only (some g) w (w.setRow g cs) :=
  ⟨rfl, rfl, rfl, by simp [World.setRow], fun k hk => setRow_other w g k cs (by simpa using hk)⟩
theorem run_copy_none2 {P : Program} (w : World) (dT sT ty elem : TypeId) (d a : Option Addr) (dLen dCap sLen sCap : Nat) (hu : P.underlying dT = some (.slice elem)) (hs : (P.info? elem).map (·.size) = some 2) (hn : Nat.min sLen dLen = 0) :
    (Builtin.copy_ #[dT, sT] ty #[.slice d dLen dCap, .slice a sLen sCap]).run P w = .ok (goInt 0) w := by
  cases hq : P.info? elem with
  | none => simp [hq] at hs
  | some i =>
    have hl : ∀ (x : Addr), (loadCells x 0).run P w = .ok #[] w := fun x => by simpa using run_loadCells_list (P := P) w x [] (by simp)
    cases d <;> cases a <;> simp [Builtin.copy_, run_underlying hu, Builtin.lenOf, Builtin.firstCells, sizeOf, typeInfo, hq, hn, storeCells, hl]
/-- What a copy from the ring L, from r on, into the row O, from q on, leaves there. -/
def cpL (O L : List (Bool × Int)) (q r m : Nat) : List (Bool × Int) := O.take q ++ ((L.drop r).take m ++ O.drop (q + m))
/-- What a clearing of m places from r on leaves. -/
def clL (L : List (Bool × Int)) (r m : Nat) : List (Bool × Int) := L.take r ++ (List.replicate m (false, 0) ++ L.drop (r + m))
end Go.Proofs.YtpdclbfjngmppaaDoor

namespace Go.Proofs.YtpdclbfjngmppaaDoor
open Go.RowKit
set_option linter.unusedVariables false

theorem made_ar (n : Nat) : madeCells #[Value.bool false, Value.int .u8 0] (n * 2) = (rc (List.replicate n (false, 0))).toArray := by
  have := zeros2 n
  apply Array.toList_inj.1
  rw [List.toList_toArray, ← this]
  rfl
end Go.Proofs.YtpdclbfjngmppaaDoor

namespace Go.Proofs.YtpdclbfjngmppaaDoor
open Go.RowKit
set_option linter.unusedVariables false

/-- What is given of the ring, and what is left. -/
def shO (L : List (Bool × Int)) (r n ah : Nat) : List (Bool × Int) := cpL (cpL (List.replicate n (false, 0)) L 0 r ah) L ah 0 (n - ah)
def shL (L : List (Bool × Int)) (r n ah : Nat) : List (Bool × Int) := clL (clL L r ah) 0 (n - ah)
theorem cpL_length (O L : List (Bool × Int)) (q r m : Nat) (hr : r + m ≤ L.length) (hq : q + m ≤ O.length) : (cpL O L q r m).length = O.length := by
  unfold cpL
  simp only [List.length_append, List.length_take, List.length_drop]
  omega
theorem clL_length (L : List (Bool × Int)) (r m : Nat) (hr : r + m ≤ L.length) : (clL L r m).length = L.length := by
  unfold clL
  simp only [List.length_append, List.length_take, List.length_drop, List.length_replicate]
  omega
theorem Only.cellS {g : Nat} {w w' : World} (h : Only (some g) w w') {b : Nat} (hb : b ≠ g) (o : Nat) : w'.cell? ⟨b, o, none⟩ = w.cell? ⟨b, o, none⟩ := by
  have := h.5 b (by simpa using hb)
  simp only [World.cell?, this]
theorem Only.belowS {g : Nat} {w w' : World} (h : Only (some g) w w') {B : Nat} (hB : B ≤ g) : Below B w w' :=
  ⟨h.1, h.2, h.3, by have := h.4; omega, fun k hk => h.5 k (by simp; omega)⟩
end Go.Proofs.YtpdclbfjngmppaaDoor
