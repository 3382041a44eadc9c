import Derived.Test.YtdoglkjhmaiknaaMem
import Derived.Test.YtdoglkjhmaiknaaKeys
import Derived.Test.YtdoglkjhmaiknaaBlocks
import Derived.Deep.QuietTactic
import Derived.BigQuiet
import Derived.Deep.LoopGhost
import Derived.Laws.CopyRow
import Derived.Laws.CopyOwn
import Derived.Deep.RegionLaw
import Derived.Deep.RegionHeld3
import Derived.Deep.CutRange
import Derived.Test.YtdoglkjhmaiknaaFlatB
namespace Go.Proofs.Ytdoglkjhmaiknaa
open Go.RowKit
set_option linter.unusedVariables false

def mtV (p s x : Nat) : Bool := ([18, 20, 8, 0, 32, 0, 22, 20, 24, 0, 32, 0].getD (p * 6 + s) 0 >>> x) % 2 == 1
end Go.Proofs.Ytdoglkjhmaiknaa

namespace Go.Proofs.Ytdoglkjhmaiknaa
open Go.RowKit
set_option linter.unusedVariables false

theorem Chg.set' {S : Nat → Prop} {w w' : World} (h : Chg S w w') (g i : Nat) (u : Value) (hg : S g) : Chg S w (w'.setCell ⟨g, i, none⟩ u) :=
  ⟨h.os, h.tape, h.output, by have := h.size; simpa [World.setCell] using this, fun k hk hs => (bk_other (k := k) (g := g) (fun e => hs (by rw [e]; exact hg)) i u).trans (h.block k hk hs)⟩
end Go.Proofs.Ytdoglkjhmaiknaa

namespace Go.Proofs.Ytdoglkjhmaiknaa
open Go.RowKit
set_option linter.unusedVariables false

end Go.Proofs.Ytdoglkjhmaiknaa

namespace Go.Proofs.Ytdoglkjhmaiknaa
open Go.RowKit
set_option linter.unusedVariables false

/-- The ring's cells. -/
def rc : List (Bool × Int) → List Value
  | [] => []
  | x :: r => .bool x.1 :: .int .u8 x.2 :: rc r
theorem rc_length : ∀ L, (rc L).length = 2 * L.length
  | [] => rfl
  | x :: r => by simp [rc, rc_length r]; omega
theorem rc_get0 : ∀ (L : List (Bool × Int)) (j : Nat), j < L.length → (rc L)[j * 2]? = some (.bool (L.getD j (false, 0)).1)
  | [], j, h => by simp at h
  | x :: r, 0, h => by simp [rc]
  | x :: r, j + 1, h => by
    have := rc_get0 r j (by simpa using h)
    rw [show (j + 1) * 2 = j * 2 + 1 + 1 by omega]
    simpa [rc] using this
theorem rc_get1 : ∀ (L : List (Bool × Int)) (j : Nat), j < L.length → (rc L)[j * 2 + 1]? = some (.int .u8 (L.getD j (false, 0)).2)
  | [], j, h => by simp at h
  | x :: r, 0, h => by simp [rc]
  | x :: r, j + 1, h => by
    have := rc_get1 r j (by simpa using h)
    rw [show (j + 1) * 2 + 1 = j * 2 + 1 + 1 + 1 by omega]
    simpa [rc] using this
theorem rc_set : ∀ (L : List (Bool × Int)) (j : Nat) (b : Bool) (v : Int), ((rc L).set (j * 2) (.bool b)).set (j * 2 + 1) (.int .u8 v) = rc (L.set j (b, v))
  | [], j, b, v => by simp [rc]
  | x :: r, 0, b, v => by simp [rc]
  | x :: r, j + 1, b, v => by
    have := rc_set r j b v
    rw [show (j + 1) * 2 = j * 2 + 1 + 1 by omega]
    simpa [rc] using this
/-- One byte that comes: what is in the ring, how many have come. -/
def kst (first win : Nat) (S : List (Bool × Int) × Nat) (pl : Nat) (v : Int) : List (Bool × Int) × Nat :=
  if pl < first then S else if (S.1.getD (pl % win) (false, 0)).1 then S else (S.1.set (pl % win) (true, v), S.2 + 1)
def kfo (first win off : Nat) (D : List Int) (S : List (Bool × Int) × Nat) : Nat → List (Bool × Int) × Nat
  | 0 => S
  | i + 1 => kst first win (kfo first win off D S i) (off + i) (D.getD i 0)
theorem kst_length (first win : Nat) (S : List (Bool × Int) × Nat) (pl : Nat) (v : Int) : (kst first win S pl v).1.length = S.1.length := by
  unfold kst
  split
  · rfl
  · split
    · rfl
    · simp
theorem kfo_length (first win off : Nat) (D : List Int) (S : List (Bool × Int) × Nat) : ∀ i, (kfo first win off D S i).1.length = S.1.length
  | 0 => rfl
  | i + 1 => by unfold kfo; rw [kst_length]; exact kfo_length first win off D S i
theorem kst_came (first win : Nat) (S : List (Bool × Int) × Nat) (pl : Nat) (v : Int) : (kst first win S pl v).2 ≤ S.2 + 1 := by
  unfold kst
  split
  · omega
  · split <;> simp
theorem kfo_came (first win off : Nat) (D : List Int) (S : List (Bool × Int) × Nat) : ∀ i, (kfo first win off D S i).2 ≤ S.2 + i
  | 0 => Nat.le_refl _
  | i + 1 => by
    have h1 := kfo_came first win off D S i
    have h2 := kst_came first win (kfo first win off D S i) (off + i) (D.getD i 0)
    show (kst first win (kfo first win off D S i) (off + i) (D.getD i 0)).2 ≤ _
    omega
end Go.Proofs.Ytdoglkjhmaiknaa

namespace Go.Proofs.Ytdoglkjhmaiknaa
open Go.RowKit
set_option linter.unusedVariables false

def K2 (g c : Nat) : Nat → Prop := fun k => k = g ∨ k = c
end Go.Proofs.Ytdoglkjhmaiknaa

namespace Go.Proofs.Ytdoglkjhmaiknaa
open Go.RowKit
set_option linter.unusedVariables false

end Go.Proofs.Ytdoglkjhmaiknaa

namespace Go.Proofs.Ytdoglkjhmaiknaa
open Go.RowKit
set_option linter.unusedVariables false

theorem mt4 (st : Nat) (hs : st < 6) : mtV 0 st 4 = decide (st < 2) := by
  have : st = 0 ∨ st = 1 ∨ st = 2 ∨ st = 3 ∨ st = 4 ∨ st = 5 := by omega
  rcases this with rfl | rfl | rfl | rfl | rfl | rfl <;> rfl
/-- What a reset does: the code, the state, the final size. -/
def rsV (st : Nat) (gr fin told n : Int) : Int × Nat × Int :=
  if n < 0 ∨ 4611686018427387903 < n then (1, st, fin) else if told < n then (8, st, fin) else if ¬ (gr ≤ n ∧ (fin = -1 ∨ n = fin)) then (10, st, fin) else (0, (if st < 2 then 4 else st), n)
end Go.Proofs.Ytdoglkjhmaiknaa

namespace Go.Proofs.Ytdoglkjhmaiknaa
open Go.RowKit
set_option linter.unusedVariables false

theorem mt1 (st : Nat) (hs : st < 6) : mtV 0 st 1 = decide (st = 0) := by
  have : st = 0 ∨ st = 1 ∨ st = 2 ∨ st = 3 ∨ st = 4 ∨ st = 5 := by omega
  rcases this with rfl | rfl | rfl | rfl | rfl | rfl <;> rfl
theorem mt2 (st : Nat) (hs : st < 6) : mtV 0 st 2 = decide (st = 1) := by
  have : st = 0 ∨ st = 1 ∨ st = 2 ∨ st = 3 ∨ st = 4 ∨ st = 5 := by omega
  rcases this with rfl | rfl | rfl | rfl | rfl | rfl <;> rfl
end Go.Proofs.Ytdoglkjhmaiknaa

namespace Go.Proofs.Ytdoglkjhmaiknaa
open Go.RowKit
set_option linter.unusedVariables false

/-- Where data is refused: the code, 0 where it is not. -/
def dtE (gr : Nat) (fin told : Int) (n : Nat) (off : Int) (fb : Bool) : Int :=
  if 1500 < n ∨ off < 0 ∨ 4611686018427387903 - (n : Int) < off then 1
  else if told < off + n then 8
  else if (fin ≠ -1 ∧ fin < off + n) ∨ (fb = true ∧ ¬ ((gr : Int) ≤ off + n ∧ (fin = -1 ∨ off + n = fin))) then 10 else 0
theorem chg_of_eq {S : Nat → Prop} (w : World) : Chg S w w := ⟨rfl, rfl, rfl, Nat.le_refl _, fun _ _ _ => rfl⟩
end Go.Proofs.Ytdoglkjhmaiknaa

namespace Go.Proofs.Ytdoglkjhmaiknaa
open Go.RowKit
set_option linter.unusedVariables false

end Go.Proofs.Ytdoglkjhmaiknaa

namespace Go.Proofs.Ytdoglkjhmaiknaa
open Go.RowKit
set_option linter.unusedVariables false

theorem Chg.k2 {g c : Nat} {w w' : World} (h : Chg (· = g) w w') : Chg (K2 g c) w w' := ⟨h.os, h.tape, h.output, h.size, fun k hk hs => h.block k hk (fun e => hs (Or.inl e))⟩

end Go.Proofs.Ytdoglkjhmaiknaa

namespace Go.Proofs.Ytdoglkjhmaiknaa
open Go.RowKit
set_option linter.unusedVariables false

theorem run_copy2 {P : Program} (w : World) (dT sT ty elem : TypeId) (g o dLen dCap : Nat) (a : Addr) (sLen sCap : Nat) (cur : Array Value) (t : TypeId) (cs : List Value)
    (hu : P.underlying dT = some (.slice elem)) (hs : (P.info? elem).map (·.size) = some 2)
    (hg : w.heap[g]? = some (.cells cur t (0, 0))) (hn : cs.length = Nat.min sLen dLen * 2)
    (hsrc : ∀ j v, cs[j]? = some v → w.cell? (a.add j) = some v) (hfit : o + cs.length ≤ cur.size) (h1 : ∀ v ∈ cs, v.oneCell' = true) :
    (Builtin.copy_ #[dT, sT] ty #[.slice (some ⟨g, o, none⟩) dLen dCap, .slice (some a) sLen sCap]).run P w =
      .ok (goInt (Nat.min sLen dLen)) (w.setRow g (cur.toList.take o ++ cs ++ cur.toList.drop (o + cs.length)).toArray) := by
  have hl := run_loadCells_list (P := P) w a cs hsrc
  have hst := run_storeCells_at P g o t cs 0 cur w hg (by simpa using hfit) h1
  cases hq : P.info? elem with
  | none => simp [hq] at hs
  | some i =>
    have hi : i.size = 2 := by simpa [hq] using hs
    rw [hn] at hl
    simp [Builtin.copy_, run_underlying hu, Builtin.lenOf, Builtin.firstCells, sizeOf, typeInfo, hq, hi, hl, hst]
theorem zeros2 (n : Nat) : (Builtin.zeroCells #[Value.bool false, Value.int .u8 0] n).toList = rc (List.replicate n (false, 0)) := by
  apply List.ext_getElem?
  intro i
  simp only [Builtin.zeroCells, Array.toList_map, Array.toList_range]
  by_cases h : i < n * 2
  · obtain ⟨j, hj⟩ : ∃ j, i = j * 2 ∨ i = j * 2 + 1 := ⟨i / 2, by omega⟩
    rcases hj with rfl | rfl
    · rw [rc_get0 _ j (by simp; omega)]
      simp [show j * 2 < n * 2 by omega, show j < n by omega]
    · rw [rc_get1 _ j (by simp; omega)]
      simp [show j * 2 + 1 < n * 2 by omega, show j < n by omega, show (j * 2 + 1) % 2 = 1 by omega]
  · rw [List.getElem?_eq_none (by simp; omega), List.getElem?_eq_none (by rw [rc_length]; simp; omega)]
theorem run_clear2 {P : Program} (w : World) (T ty elem : TypeId) (g o n cap : Nat) (cur : Array Value) (t : TypeId) (h0 : 0 < n)
    (hu : P.underlying T = some (.slice elem)) (hz : (P.info? elem).map (·.zero) = some (some (.agg #[.bool false, .int .u8 0])))
    (hg : w.heap[g]? = some (.cells cur t (0, 0))) (hfit : o + n * 2 ≤ cur.size) :
    (Builtin.clear_ #[T] ty #[.slice (some ⟨g, o, none⟩) n cap]).run P w = .ok (.tuple #[]) (w.setRow g (cur.toList.take o ++ rc (List.replicate n (false, 0)) ++ cur.toList.drop (o + n * 2)).toArray) := by
  have hlen : (rc (List.replicate n (false, (0 : Int)))).length = n * 2 := by rw [rc_length]; simp; omega
  have hone : ∀ v ∈ rc (List.replicate n (false, (0 : Int))), v.oneCell' = true := by
    intro v hv
    obtain ⟨i, hi, e⟩ := List.getElem_of_mem hv
    have hg' := List.getElem?_eq_getElem hi
    rw [e] at hg'
    obtain ⟨j, hj⟩ : ∃ j, i = j * 2 ∨ i = j * 2 + 1 := ⟨i / 2, by omega⟩
    rcases hj with rfl | rfl
    · rw [rc_get0 _ j (by simp; omega)] at hg'; cases hg'; rfl
    · rw [rc_get1 _ j (by simp; omega)] at hg'; cases hg'; rfl
  have hst := run_storeCells_at P g o t (rc (List.replicate n (false, 0))) 0 cur w hg (by rw [hlen]; simpa using hfit) hone
  rw [hlen] at hst
  cases hq : P.info? elem with
  | none => simp [hq] at hz
  | some i =>
    have hi : i.zero = some (.agg #[.bool false, .int .u8 0]) := by simpa [hq] using hz
    have hc : (Value.agg #[.bool false, .int .u8 0]).cells = #[.bool false, .int .u8 0] := rfl
    obtain ⟨m, rfl⟩ : ∃ m, n = m + 1 := ⟨n - 1, by omega⟩
    simp [Builtin.clear_, run_underlying hu, zeroValue, typeInfo, hq, hi, hc, zeros2, hst]
end Go.Proofs.Ytdoglkjhmaiknaa

namespace Go.Proofs.Ytdoglkjhmaiknaa
open Go.RowKit
set_option linter.unusedVariables false

theorem rc_append : ∀ A B : List (Bool × Int), rc (A ++ B) = rc A ++ rc B
  | [], B => rfl
  | x :: r, B => by simp [rc, rc_append r B]
theorem rc_take : ∀ (L : List (Bool × Int)) (k : Nat), (rc L).take (k * 2) = rc (L.take k)
  | [], k => by simp [rc]
  | x :: r, 0 => by simp [rc]
  | x :: r, k + 1 => by
    rw [show (k + 1) * 2 = k * 2 + 1 + 1 by omega]
    simp [rc, rc_take r k]
theorem rc_drop : ∀ (L : List (Bool × Int)) (k : Nat), (rc L).drop (k * 2) = rc (L.drop k)
  | [], k => by simp [rc]
  | x :: r, 0 => by simp [rc]
  | x :: r, k + 1 => by
    rw [show (k + 1) * 2 = k * 2 + 1 + 1 by omega]
    simp [rc, rc_drop r k]
theorem rc_one (L : List (Bool × Int)) : ∀ v ∈ rc L, v.oneCell' = true := by
  induction L with
  | nil => simp [rc]
  | cons x r ih =>
    intro v hv
    simp only [rc, List.mem_cons] at hv
    rcases hv with rfl | rfl | hv
    · rfl
    · rfl
    · exact ih v hv
theorem only_setRowS (w : World) (g : Nat) (cs : Array Value) : Only (some g) w (w.setRow g cs) :=
  ⟨rfl, rfl, rfl, by simp [World.setRow], fun k hk => setRow_other w g k cs (by simpa using hk)⟩
theorem run_copy_none2 {P : Program} (w : World) (dT sT ty elem : TypeId) (d a : Option Addr) (dLen dCap sLen sCap : Nat) (hu : P.underlying dT = some (.slice elem)) (hs : (P.info? elem).map (·.size) = some 2) (hn : Nat.min sLen dLen = 0) :
    (Builtin.copy_ #[dT, sT] ty #[.slice d dLen dCap, .slice a sLen sCap]).run P w = .ok (goInt 0) w := by
  cases hq : P.info? elem with
  | none => simp [hq] at hs
  | some i =>
    have hl : ∀ (x : Addr), (loadCells x 0).run P w = .ok #[] w := fun x => by simpa using run_loadCells_list (P := P) w x [] (by simp)
    cases d <;> cases a <;> simp [Builtin.copy_, run_underlying hu, Builtin.lenOf, Builtin.firstCells, sizeOf, typeInfo, hq, hn, storeCells, hl]
/-- What a copy from the ring L, from r on, into the row O, from q on, leaves there. -/
def cpL (O L : List (Bool × Int)) (q r m : Nat) : List (Bool × Int) := O.take q ++ ((L.drop r).take m ++ O.drop (q + m))
/-- What a clearing of m places from r on leaves. -/
def clL (L : List (Bool × Int)) (r m : Nat) : List (Bool × Int) := L.take r ++ (List.replicate m (false, 0) ++ L.drop (r + m))
end Go.Proofs.Ytdoglkjhmaiknaa

namespace Go.Proofs.Ytdoglkjhmaiknaa
open Go.RowKit
set_option linter.unusedVariables false

theorem made_ar (n : Nat) : madeCells #[Value.bool false, Value.int .u8 0] (n * 2) = (rc (List.replicate n (false, 0))).toArray := by
  have := zeros2 n
  apply Array.toList_inj.1
  rw [List.toList_toArray, ← this]
  rfl
end Go.Proofs.Ytdoglkjhmaiknaa

namespace Go.Proofs.Ytdoglkjhmaiknaa
open Go.RowKit
set_option linter.unusedVariables false

/-- What is given of the ring, and what is left. -/
def shO (L : List (Bool × Int)) (r n ah : Nat) : List (Bool × Int) := cpL (cpL (List.replicate n (false, 0)) L 0 r ah) L ah 0 (n - ah)
def shL (L : List (Bool × Int)) (r n ah : Nat) : List (Bool × Int) := clL (clL L r ah) 0 (n - ah)
theorem cpL_length (O L : List (Bool × Int)) (q r m : Nat) (hr : r + m ≤ L.length) (hq : q + m ≤ O.length) : (cpL O L q r m).length = O.length := by
  unfold cpL
  simp only [List.length_append, List.length_take, List.length_drop]
  omega
theorem clL_length (L : List (Bool × Int)) (r m : Nat) (hr : r + m ≤ L.length) : (clL L r m).length = L.length := by
  unfold clL
  simp only [List.length_append, List.length_take, List.length_drop, List.length_replicate]
  omega
theorem Only.cellS {g : Nat} {w w' : World} (h : Only (some g) w w') {b : Nat} (hb : b ≠ g) (o : Nat) : w'.cell? ⟨b, o, none⟩ = w.cell? ⟨b, o, none⟩ := by
  have := h.5 b (by simpa using hb)
  simp only [World.cell?, this]
theorem Only.belowS {g : Nat} {w w' : World} (h : Only (some g) w w') {B : Nat} (hB : B ≤ g) : Below B w w' :=
  ⟨h.1, h.2, h.3, by have := h.4; omega, fun k hk => h.5 k (by simp; omega)⟩
end Go.Proofs.Ytdoglkjhmaiknaa

namespace Go.Proofs.Ytdoglkjhmaiknaa
open Go.RowKit
set_option linter.unusedVariables false

def cnV (r w t : Int) : Int := if r < 0 ∨ 4611686018427371519 < r ∨ t < 0 ∨ 4611686018427371519 < t ∨ w < 1 ∨ 16384 < w then -1 else if (w + 1) / 2 ≤ r + w - t then r + w else t

end Go.Proofs.Ytdoglkjhmaiknaa

namespace Go.Proofs.Ytdoglkjhmaiknaa
open Go.RowKit
set_option linter.unusedVariables false

/-- The places of a stream, which have come and what. -/
abbrev PL := List (Bool × Int)
abbrev PL.g (T : PL) (p : Nat) : Bool × Int := T.getD p (false, 0)
def pad (T : PL) (e : Nat) : PL := T ++ List.replicate (e - T.length) (false, 0)
def put1 (T : PL) (p : Nat) (v : Int) : PL := if (PL.g T p).1 then T else T.set p (true, v)
def putF (T : PL) (off : Nat) (D : List Int) : Nat → PL
  | 0 => T
  | i + 1 => put1 (putF T off D i) (off + i) (D.getD i 0)
abbrev cnt (T : PL) : Nat := T.countP (·.1)
theorem g_out (T : PL) (p : Nat) (h : T.length ≤ p) : PL.g T p = (false, 0) := by simp [PL.g, List.getD, List.getElem?_eq_none h]
theorem g_in (T : PL) (p : Nat) (h : p < T.length) : PL.g T p = T[p] := by simp [PL.g, List.getD, h]
theorem g_set (T : PL) (p q : Nat) (x : Bool × Int) (h : p < T.length) : PL.g (T.set p x) q = if q = p then x else PL.g T q := by
  simp only [PL.g, List.getD, List.getElem?_set]
  by_cases e : p = q
  · subst e; simp [h]
  · rw [if_neg e, if_neg (fun x => e x.symm)]
theorem pad_length (T : PL) (e : Nat) : (pad T e).length = max T.length e := by simp [pad]; omega
theorem pad_g (T : PL) (e p : Nat) : PL.g (pad T e) p = PL.g T p := by
  by_cases h : p < T.length
  · simp [PL.g, pad, List.getD, List.getElem?_append_left h]
  · rw [g_out T p (by omega)]
    simp only [PL.g, pad, List.getD, List.getElem?_append_right (show T.length ≤ p by omega), List.getElem?_replicate]
    split <;> rfl
theorem pad_cnt (T : PL) (e : Nat) : cnt (pad T e) = cnt T := by simp [cnt, pad, List.countP_append, List.countP_replicate]
theorem put1_length (T : PL) (p : Nat) (v : Int) : (put1 T p v).length = T.length := by unfold put1; split <;> simp
theorem putF_length (T : PL) (off : Nat) (D : List Int) : ∀ i, (putF T off D i).length = T.length
  | 0 => rfl
  | i + 1 => by unfold putF; rw [put1_length, putF_length T off D i]
theorem put1_cnt (T : PL) (p : Nat) (v : Int) (h : p < T.length) (h2 : (PL.g T p).1 = false) : cnt (put1 T p v) = cnt T + 1 := by
  unfold put1 cnt
  rw [h2, if_neg (by simp), List.countP_set h]
  rw [g_in T p h] at h2
  simp [h2]
theorem put1_le (T : PL) (p : Nat) (v : Int) : cnt (put1 T p v) ≤ cnt T + 1 := by
  by_cases h2 : (PL.g T p).1 = true
  · unfold put1; rw [if_pos h2]; omega
  · have h2' : (PL.g T p).1 = false := by simpa using h2
    by_cases h : p < T.length
    · rw [put1_cnt T p v h h2']; omega
    · unfold put1; rw [if_neg h2, List.set_eq_of_length_le (by omega)]; omega
theorem putF_le (T : PL) (off : Nat) (D : List Int) : ∀ i, cnt (putF T off D i) ≤ cnt T + i
  | 0 => Nat.le_refl _
  | i + 1 => by
    have h1 := putF_le T off D i
    have h2 := put1_le (putF T off D i) (off + i) (D.getD i 0)
    show cnt (put1 (putF T off D i) (off + i) (D.getD i 0)) ≤ _
    omega
theorem put1_keeps (T : PL) (p q : Nat) (v : Int) (h : (PL.g T q).1 = true) : PL.g (put1 T p v) q = PL.g T q := by
  unfold put1
  by_cases e : (PL.g T p).1 = true
  · rw [if_pos e]
  · rw [if_neg e]
    by_cases hp : p < T.length
    · rw [g_set T p q _ hp, if_neg (fun x => e (by rw [← x]; exact h))]
    · rw [List.set_eq_of_length_le (by omega)]
theorem putF_keeps (T : PL) (off : Nat) (D : List Int) (q : Nat) (h : (PL.g T q).1 = true) : ∀ i, PL.g (putF T off D i) q = PL.g T q
  | 0 => rfl
  | i + 1 => by
    have h1 := putF_keeps T off D q h i
    show PL.g (put1 (putF T off D i) (off + i) (D.getD i 0)) q = _
    rw [put1_keeps _ _ _ _ (by rw [h1]; exact h), h1]
/-- The ring holds the places of the window. -/
def RR (win first : Nat) (L T : PL) : Prop :=
  L.length = win ∧ ∀ p, first ≤ p → p < first + win → (PL.g L (p % win)).1 = (PL.g T p).1 ∧ ((PL.g T p).1 = true → (PL.g L (p % win)).2 = (PL.g T p).2)
theorem mod_ne {p q first win : Nat} (hw : 0 < win) (hp : first ≤ p) (hp2 : p < first + win) (hq : first ≤ q) (hq2 : q < first + win) (h : p ≠ q) : p % win ≠ q % win := by
  intro e
  have h1 := Nat.div_add_mod p win
  have h2 := Nat.div_add_mod q win
  rw [e] at h1
  rcases Nat.lt_trichotomy (p / win) (q / win) with h3 | h3 | h3
  · have := Nat.mul_le_mul_left win (show p / win + 1 ≤ q / win from h3)
    rw [Nat.mul_add, Nat.mul_one] at this
    omega
  · rw [h3] at h1; omega
  · have := Nat.mul_le_mul_left win (show q / win + 1 ≤ p / win from h3)
    rw [Nat.mul_add, Nat.mul_one] at this
    omega
theorem keep_one (win first : Nat) (L T : PL) (pl : Nat) (v : Int) (hw : 0 < win) (h : RR win first L T) (hlow : ∀ p, p < first → (PL.g T p).1 = true) (hpl : pl < first + win) (hT : pl < T.length) :
    (kst first win (L, cnt T) pl v).2 = cnt (put1 T pl v) ∧ RR win first (kst first win (L, cnt T) pl v).1 (put1 T pl v) := by
  unfold kst
  by_cases h1 : pl < first
  · rw [if_pos h1]
    have : put1 T pl v = T := by unfold put1; rw [if_pos (hlow pl h1)]
    rw [this]; exact ⟨rfl, h⟩
  · rw [if_neg h1]
    have hr := h.2 pl (by omega) hpl
    by_cases h2 : (PL.g T pl).1 = true
    · have e : ((L, cnt T).1.getD (pl % win) (false, 0)).1 = true := by show (PL.g L (pl % win)).1 = true; rw [hr.1]; exact h2
      rw [if_pos e]
      have : put1 T pl v = T := by unfold put1; rw [if_pos h2]
      rw [this]; exact ⟨rfl, h⟩
    · have h2' : (PL.g T pl).1 = false := by simpa using h2
      have e : ¬ ((L, cnt T).1.getD (pl % win) (false, 0)).1 = true := by show ¬ (PL.g L (pl % win)).1 = true; rw [hr.1]; exact h2
      rw [if_neg e]
      refine ⟨(put1_cnt T pl v hT h2').symm, by simp [h.1], fun p hp hp2 => ?_⟩
      have hm : pl % win < L.length := by rw [h.1]; exact Nat.mod_lt _ hw
      have e2 : put1 T pl v = T.set pl (true, v) := by unfold put1; rw [if_neg h2]
      rw [e2, g_set T pl p _ hT]
      show (PL.g (L.set (pl % win) (true, v)) (p % win)).1 = _ ∧ _
      rw [g_set L _ _ _ hm]
      by_cases e3 : p = pl
      · subst e3; rw [if_pos rfl, if_pos rfl]; exact ⟨rfl, fun _ => rfl⟩
      · rw [if_neg e3, if_neg (mod_ne hw hp hp2 (by omega) hpl e3)]
        exact h.2 p hp hp2
theorem keep_all (win first off n : Nat) (D : List Int) (L T : PL) (hw : 0 < win) (h : RR win first L T) (hlow : ∀ p, p < first → (PL.g T p).1 = true) (hpl : off + n ≤ first + win) (hT : off + n ≤ T.length) : ∀ i, i ≤ n →
    (kfo first win off D (L, cnt T) i).2 = cnt (putF T off D i) ∧ RR win first (kfo first win off D (L, cnt T) i).1 (putF T off D i)
  | 0, _ => ⟨rfl, h⟩
  | i + 1, hi => by
    obtain ⟨h1, h2⟩ := keep_all win first off n D L T hw h hlow hpl hT i (by omega)
    have e : kfo first win off D (L, cnt T) i = ((kfo first win off D (L, cnt T) i).1, cnt (putF T off D i)) := by rw [← h1]
    have := keep_one win first _ _ (off + i) (D.getD i 0) hw h2 (fun p hp => by rw [putF_keeps T off D p (hlow p hp) i]; exact hlow p hp) (by omega) (by rw [putF_length]; omega)
    show (kst first win (kfo first win off D (L, cnt T) i) (off + i) (D.getD i 0)).2 = _ ∧ RR win first (kst first win (kfo first win off D (L, cnt T) i) (off + i) (D.getD i 0)).1 _
    rw [e]
    exact this
theorem RR.pad {win first : Nat} {L T : PL} (h : RR win first L T) (e : Nat) : RR win first L (pad T e) := ⟨h.1, fun p hp hp2 => by rw [pad_g]; exact h.2 p hp hp2⟩
/-- How many places lie ready from a on, at most n of them. -/
def rdk (T : PL) (a : Nat) : Nat → Nat
  | 0 => 0
  | n + 1 => if (PL.g T (a + rdk T a n)).1 = true ∧ rdk T a n = n then n + 1 else rdk T a n
theorem rdk_le (T : PL) (a : Nat) : ∀ n, rdk T a n ≤ n
  | 0 => Nat.le_refl _
  | n + 1 => by unfold rdk; have := rdk_le T a n; split <;> omega
theorem rdk_all (T : PL) (a : Nat) : ∀ n i, i < rdk T a n → (PL.g T (a + i)).1 = true
  | 0, i, h => by simp [rdk] at h
  | n + 1, i, h => by
    unfold rdk at h
    split at h
    · rename_i h2
      by_cases e : i = n
      · subst e; rw [← h2.2]; rw [h2.2]; have := h2.1; rw [h2.2] at this; exact this
      · exact rdk_all T a n i (by have := h2.2; omega)
    · exact rdk_all T a n i h
theorem rdk_end (T : PL) (a : Nat) : ∀ n, rdk T a n = n ∨ (PL.g T (a + rdk T a n)).1 = false
  | 0 => Or.inl rfl
  | n + 1 => by
    unfold rdk
    by_cases h : (PL.g T (a + rdk T a n)).1 = true ∧ rdk T a n = n
    · rw [if_pos h]; exact Or.inl rfl
    · rw [if_neg h]
      rcases rdk_end T a n with h1 | h1
      · right
        by_cases h2 : (PL.g T (a + rdk T a n)).1 = true
        · exact absurd ⟨h2, h1⟩ h
        · simpa using h2
      · exact Or.inr h1
theorem rdk_uniq (T : PL) (a n k : Nat) (h1 : k ≤ n) (h2 : ∀ i, i < k → (PL.g T (a + i)).1 = true) (h3 : k = n ∨ (PL.g T (a + k)).1 = false) : k = rdk T a n := by
  have a1 := rdk_le T a n
  have a2 := rdk_all T a n
  have a3 := rdk_end T a n
  rcases Nat.lt_trichotomy k (rdk T a n) with h | h | h
  · rcases h3 with e | e
    · omega
    · have := a2 k h; rw [e] at this; cases this
  · exact h
  · rcases a3 with e | e
    · omega
    · have := h2 _ h; rw [e] at this; cases this
end Go.Proofs.Ytdoglkjhmaiknaa

namespace Go.Proofs.Ytdoglkjhmaiknaa
open Go.RowKit
set_option linter.unusedVariables false

/-- RecvOp: its numbers and bytes. -/
structure SRecvOp where
  f0 : Int
  f1 : Int
  f2 : Int
  f3 : List Int
  f4 : Bool
instance : Inhabited SRecvOp := ⟨⟨0, 0, 0, [], false⟩⟩
def SRecvOp.c (e : SRecvOp) (u : Value) : List Value := [.int .i64 e.f0, .int .i64 e.f1, .int .i64 e.f2, u, .bool e.f4]
abbrev SRecvOp.d (e : SRecvOp) : List Int := e.f3
end Go.Proofs.Ytdoglkjhmaiknaa

namespace Go.Proofs.Ytdoglkjhmaiknaa
open Go.RowKit
set_option linter.unusedVariables false

/-- RecvObs: its numbers and bytes. -/
structure SRecvObs where
  f0 : Int
  f1 : Int
  f2 : Int
  f3 : List Int
  f4 : Bool
instance : Inhabited SRecvObs := ⟨⟨0, 0, 0, [], false⟩⟩
def SRecvObs.c (e : SRecvObs) (u : Value) : List Value := [.int .i64 e.f0, .int .i64 e.f1, .int .i64 e.f2, u, .bool e.f4]
abbrev SRecvObs.d (e : SRecvObs) : List Int := e.f3
end Go.Proofs.Ytdoglkjhmaiknaa

namespace Go.Proofs.Ytdoglkjhmaiknaa
open Go.RowKit
set_option linter.unusedVariables false

theorem g_append (A B : PL) (i : Nat) : PL.g (A ++ B) i = if i < A.length then PL.g A i else PL.g B (i - A.length) := by
  by_cases h : i < A.length
  · rw [if_pos h]; simp [PL.g, List.getD, List.getElem?_append_left h]
  · rw [if_neg h]; simp [PL.g, List.getD, List.getElem?_append_right (show A.length ≤ i by omega)]
theorem g_take (A : PL) (n i : Nat) : PL.g (A.take n) i = if i < n then PL.g A i else (false, 0) := by
  by_cases h : i < n
  · rw [if_pos h]; simp [PL.g, List.getD, List.getElem?_take_of_lt h]
  · rw [if_neg h]; exact g_out _ _ (by simp; omega)
theorem g_drop (A : PL) (n i : Nat) : PL.g (A.drop n) i = PL.g A (n + i) := by simp [PL.g, List.getD]
theorem g_rep (n i : Nat) : PL.g (List.replicate n (false, 0)) i = (false, 0) := by
  simp only [PL.g, List.getD, List.getElem?_replicate]; split <;> rfl
theorem cpL_g (O L : PL) (q r m i : Nat) (hr : r + m ≤ L.length) (hq : q + m ≤ O.length) : PL.g (cpL O L q r m) i = if q ≤ i ∧ i < q + m then PL.g L (r + (i - q)) else PL.g O i := by
  unfold cpL
  rw [g_append, g_append, g_take, g_take, g_drop, g_drop]
  simp only [List.length_take, List.length_drop]
  by_cases h1 : i < q
  · rw [if_pos (by omega), if_pos h1, if_neg (by omega)]
  · rw [if_neg (by omega)]
    by_cases h2 : i < q + m
    · rw [if_pos (by omega), if_pos (by omega), if_pos (by omega)]
      congr 1; omega
    · rw [if_neg (by omega), if_neg (by omega)]
      congr 1; omega
theorem clL_g (L : PL) (r m i : Nat) (hr : r + m ≤ L.length) : PL.g (clL L r m) i = if r ≤ i ∧ i < r + m then (false, 0) else PL.g L i := by
  unfold clL
  rw [g_append, g_append, g_take, g_drop, g_rep]
  simp only [List.length_take, List.length_replicate]
  by_cases h1 : i < r
  · rw [if_pos (by omega), if_pos h1, if_neg (by omega)]
  · rw [if_neg (by omega)]
    by_cases h2 : i < r + m
    · rw [if_pos (by omega), if_pos (by omega)]
    · rw [if_neg (by omega), if_neg (by omega)]
      congr 1; omega
theorem shO_g (L : PL) (win first k i : Nat) (hL : L.length = win) (hw : 0 < win) (hk : k ≤ win) (hi : i < k) : PL.g (shO L (first % win) k (min k (win - first % win))) i = PL.g L ((first + i) % win) := by
  have hm := Nat.mod_lt first hw
  unfold shO
  rw [cpL_g _ _ _ _ _ _ (by omega) (by rw [cpL_length _ _ _ _ _ (by omega) (by simp; omega)]; simp; omega), cpL_g _ _ _ _ _ _ (by omega) (by simp; omega)]
  have e : (first + i) % win = (first % win + i) % win := (Nat.mod_add_mod first win i).symm
  by_cases h : i < min k (win - first % win)
  · rw [if_neg (by omega), if_pos (by omega), e, Nat.mod_eq_of_lt (show first % win + i < win by omega)]
    congr 1
  · rw [if_pos (by omega), e, Nat.mod_eq_sub_mod (show win ≤ first % win + i by omega), Nat.mod_eq_of_lt (show first % win + i - win < win by omega)]
    congr 1; omega
theorem shL_g (L : PL) (win first k q : Nat) (hL : L.length = win) (hw : 0 < win) (hk : k ≤ win) (hq : q < win) : PL.g (shL L (first % win) k (min k (win - first % win))) q = if (∃ i, i < k ∧ (first + i) % win = q) then (false, 0) else PL.g L q := by
  have hm := Nat.mod_lt first hw
  unfold shL
  rw [clL_g _ _ _ _ (by rw [clL_length _ _ _ (by omega)]; omega), clL_g _ _ _ _ (by omega)]
  have e : ∀ i, (first + i) % win = (first % win + i) % win := fun i => (Nat.mod_add_mod first win i).symm
  by_cases h1 : q < k - min k (win - first % win)
  · rw [if_pos (by omega), if_pos ⟨win - first % win + q, by omega, by rw [e, Nat.mod_eq_sub_mod (show win ≤ first % win + (win - first % win + q) by omega), Nat.mod_eq_of_lt (show first % win + (win - first % win + q) - win < win by omega)]; omega⟩]
  · rw [if_neg (by omega)]
    by_cases h2 : first % win ≤ q ∧ q < first % win + min k (win - first % win)
    · rw [if_pos h2, if_pos ⟨q - first % win, by omega, by rw [e, Nat.mod_eq_of_lt (show first % win + (q - first % win) < win by omega)]; omega⟩]
    · rw [if_neg h2, if_neg]
      rintro ⟨i, hi, he⟩
      rw [e] at he
      by_cases h3 : first % win + i < win
      · rw [Nat.mod_eq_of_lt h3] at he; omega
      · rw [Nat.mod_eq_sub_mod (show win ≤ first % win + i by omega), Nat.mod_eq_of_lt (show first % win + i - win < win by omega)] at he; omega
theorem shL_length (L : PL) (win first k : Nat) (hL : L.length = win) (hw : 0 < win) (hk : k ≤ win) : (shL L (first % win) k (min k (win - first % win))).length = win := by
  have hm := Nat.mod_lt first hw
  unfold shL
  rw [clL_length _ _ _ (by rw [clL_length _ _ _ (by omega)]; omega), clL_length _ _ _ (by omega), hL]
theorem RR.shift {win first k : Nat} {L T : PL} (h : RR win first L T) (hw : 0 < win) (hk : k ≤ win) (hT : T.length ≤ first + win) : RR win (first + k) (shL L (first % win) k (min k (win - first % win))) T := by
  refine ⟨shL_length L win first k h.1 hw hk, fun p hp hp2 => ?_⟩
  rw [shL_g L win first k (p % win) h.1 hw hk (Nat.mod_lt _ hw)]
  by_cases hlo : p < first + win
  · rw [if_neg]
    · exact h.2 p (by omega) hlo
    · rintro ⟨i, hi, he⟩
      exact mod_ne hw (show first ≤ first + i by omega) (by omega) (show first ≤ p by omega) hlo (by omega) he
  · rw [if_pos ⟨p - first - win, by omega, by rw [show p = (first + (p - first - win)) + win by omega, Nat.add_mod_right]; congr 1; omega⟩, g_out T p (by omega)]
    exact ⟨rfl, fun _ => rfl⟩
theorem shO_out {win first k : Nat} {L T : PL} (h : RR win first L T) (hw : 0 < win) (hk : k ≤ win) (hall : ∀ i, i < k → (PL.g T (first + i)).1 = true) (hkT : first + k ≤ T.length) :
    (shO L (first % win) k (min k (win - first % win))).map (·.2) = ((T.drop first).take k).map (·.2) := by
  have hm := Nat.mod_lt first hw
  have hl : (shO L (first % win) k (min k (win - first % win))).length = k := by
    unfold shO
    rw [cpL_length _ _ _ _ _ (by rw [h.1]; omega) (by rw [cpL_length _ _ _ _ _ (by rw [h.1]; omega) (by simp; omega)]; simp; omega), cpL_length _ _ _ _ _ (by rw [h.1]; omega) (by simp; omega)]
    simp
  apply List.ext_getElem (by simp [hl]; omega)
  intro i h1 h2
  simp only [List.getElem_map]
  rw [List.length_map, hl] at h1
  have e1 := shO_g L win first k i h.1 hw hk h1
  rw [g_in _ _ (by rw [hl]; exact h1)] at e1
  have e2 := (h.2 (first + i) (by omega) (by omega)).2 (hall i h1)
  rw [e1, e2, g_in T _ (by omega)]
  simp
theorem rdy_rdk {win first k : Nat} {L T : PL} {n : Int} (h : RR win first L T) (hT : T.length ≤ first + win) (hn : 1 ≤ n) (h1 : (k : Int) ≤ n) (h2 : k ≤ win) (h3 : ∀ i, i < k → (PL.g L ((first + i) % win)).1 = true) (h4 : (k : Int) = n ∨ k = win ∨ (PL.g L ((first + k) % win)).1 = false) : k = rdk T first n.toNat := by
  have h3' : ∀ i, i < k → (PL.g T (first + i)).1 = true := fun i hi => by rw [← (h.2 (first + i) (by omega) (by omega)).1]; exact h3 i hi
  refine rdk_uniq T first n.toNat k (by omega) h3' ?_
  by_cases hkn : (k : Int) = n
  · exact Or.inl (by omega)
  · right
    by_cases hkw : k = win
    · rw [g_out T _ (by omega)]
    · have := h4.resolve_left hkn |>.resolve_left hkw
      rw [← (h.2 (first + k) (by omega) (by omega)).1]; exact this
/-- The receiving part, by the document. -/
structure MS where
  st : Nat
  told : Int
  read : Nat
  sized : Bool
  final : Int
  T : PL
def wholeM (sized : Bool) (final : Int) (T : PL) : Bool := sized && decide (final ≤ (T.length : Int)) && (List.range final.toNat).all (fun i => (PL.g T i).1)
/-- What data does. -/
def mdata (m : MS) (off : Int) (D : List Int) (fb : Bool) : MS × Int :=
  if 1500 < D.length ∨ off < 0 ∨ 4611686018427387903 - (D.length : Int) < off then (m, 1)
  else if m.told < off + D.length then (m, 8)
  else if (m.sized = true ∧ (m.final < off + D.length ∨ (fb = true ∧ off + D.length ≠ m.final))) ∨ (fb = true ∧ off + D.length < m.T.length) then (m, 10)
  else if ¬ m.st < 2 then (m, 0)
  else
    let T2 := putF (pad m.T (off.toNat + D.length)) off.toNat D D.length
    let s2 := m.sized || fb
    let f2 := if fb then off + D.length else m.final
    ({ m with st := if wholeM s2 f2 T2 then 2 else if fb then 1 else m.st, sized := s2, final := f2, T := T2 }, 0)
def mreset (m : MS) (n : Int) : MS × Int :=
  if n < 0 ∨ 4611686018427387903 < n then (m, 1)
  else if m.told < n then (m, 8)
  else if (m.sized = true ∧ n ≠ m.final) ∨ n < m.T.length then (m, 10)
  else ({ m with st := if m.st < 2 then 4 else m.st, sized := true, final := n }, 0)
/-- The bytes that are read, the code, what is left. -/
def mread (win : Nat) (m : MS) (n : Int) : MS × List Int × Int :=
  if n < 1 then (m, [], 1)
  else if 4 ≤ m.st then ({ m with st := 5 }, [], 23)
  else
    let k := rdk m.T m.read n.toNat
    let s2 := if m.st = 2 ∧ ((m.read + k : Nat) : Int) = m.final then 3 else m.st
    ({ m with st := s2, read := m.read + k, told := if s2 = 0 then cnV ((m.read + k : Nat) : Int) win m.told else m.told }, ((m.T.drop m.read).take k).map (·.2), 0)
def mstep (win : Nat) (m : MS) (o : SRecvOp) : MS × SRecvObs :=
  if o.f0 = 1 then let r := mdata m o.f1 o.f3 o.f4; (r.1, ⟨r.2, r.1.st, r.1.told, [], false⟩)
  else if o.f0 = 2 then let r := mreset m o.f2; (r.1, ⟨r.2, r.1.st, r.1.told, [], false⟩)
  else if o.f0 = 3 then let r := mread win m o.f2; (r.1, ⟨r.2.2, r.1.st, r.1.told, r.2.1, decide (r.2.2 = 0 ∧ r.1.st = 3)⟩)
  else (m, ⟨1, m.st, m.told, [], false⟩)
def mrun (win : Nat) (ops : List SRecvOp) : Nat → MS × List SRecvObs
  | 0 => (⟨0, win, 0, false, 0, []⟩, [])
  | i + 1 => let r := mrun win ops i; let s := mstep win r.1 (ops.getD i default); (s.1, r.2 ++ [s.2])
/-- What holds of it behind i operations. -/
structure MI (win i : Nat) (m : MS) : Prop where
  st : m.st < 6
  toldT : (m.T.length : Int) ≤ m.told
  low : ∀ p, p < m.read → (PL.g m.T p).1 = true
  told : m.told ≤ (m.read : Int) + win
  cnt : cnt m.T ≤ 1500 * i
  szd : m.sized = decide (m.st ≠ 0)
  fin : m.sized = true → (m.T.length : Int) ≤ m.final ∧ m.final ≤ m.told
  fz : m.sized = false → m.final = 0
theorem low_cnt (T : PL) : ∀ a, (∀ p, p < a → (PL.g T p).1 = true) → a ≤ cnt T := by
  induction T with
  | nil =>
    intro a h
    rcases Nat.eq_zero_or_pos a with e | e
    · omega
    · have := h 0 e; simp [PL.g] at this
  | cons x r ih =>
    intro a h
    rcases Nat.eq_zero_or_pos a with e | e
    · omega
    · have h0 : x.1 = true := by have := h 0 e; simpa [PL.g] using this
      have := ih (a - 1) (fun p hp => by have := h (p + 1) (by omega); simpa [PL.g] using this)
      simp only [Go.Proofs.Ytdoglkjhmaiknaa.cnt, List.countP_cons, h0] at this ⊢
      simp; omega
theorem MI.read {win i : Nat} {m : MS} (h : MI win i m) : m.read ≤ Go.Proofs.Ytdoglkjhmaiknaa.cnt m.T ∧ m.read ≤ m.T.length := by
  have h1 := low_cnt m.T m.read h.low
  have h2 : Go.Proofs.Ytdoglkjhmaiknaa.cnt m.T ≤ m.T.length := List.countP_le_length
  exact ⟨h1, by omega⟩
end Go.Proofs.Ytdoglkjhmaiknaa

namespace Go.Proofs.Ytdoglkjhmaiknaa
open Go.RowKit
set_option linter.unusedVariables false

theorem whole_cnt (T : PL) (f : Int) (h : (T.length : Int) ≤ f) : wholeM true f T = decide ((cnt T : Int) = f) := by
  have hc : cnt T ≤ T.length := List.countP_le_length
  rw [Bool.eq_iff_iff, decide_eq_true_eq]
  unfold wholeM
  simp only [Bool.true_and, Bool.and_eq_true, decide_eq_true_eq, List.all_eq_true, List.mem_range]
  constructor
  · rintro ⟨h1, h2⟩
    have hf : f.toNat = T.length := by omega
    have : T.length ≤ cnt T := low_cnt T T.length (fun p hp => h2 p (by omega))
    omega
  · intro h1
    refine ⟨by omega, fun i hi => ?_⟩
    have e : cnt T = T.length := by omega
    have := List.countP_eq_length.1 e
    rw [g_in T i (by omega)]
    exact this _ (List.getElem_mem _)
theorem whole_no (f : Int) (T : PL) : wholeM false f T = false := rfl
theorem MI.inc {win i : Nat} {m : MS} (h : MI win i m) : MI win (i + 1) m := ⟨h.st, h.toldT, h.low, h.told, by have := h.cnt; omega, h.szd, h.fin, h.fz⟩
theorem mdata_inv {win i : Nat} {m : MS} (h : MI win i m) (off : Int) (D : List Int) (fb : Bool) : MI win (i + 1) (mdata m off D fb).1 := by
  unfold mdata
  split
  · exact h.inc
  split
  · exact h.inc
  split
  · exact h.inc
  split
  · exact h.inc
  rename_i h1 h2 h3 h4
  have hr := h.read
  have hD : D.length ≤ 1500 ∧ 0 ≤ off := by omega
  have hlen : (putF (pad m.T (off.toNat + D.length)) off.toNat D D.length).length = max m.T.length (off.toNat + D.length) := by rw [putF_length, pad_length]
  have hcn : cnt (putF (pad m.T (off.toNat + D.length)) off.toNat D D.length) ≤ cnt m.T + 1500 := by
    have := putF_le (pad m.T (off.toNat + D.length)) off.toNat D D.length
    rw [pad_cnt] at this; omega
  have hs := h.szd
  have hf := h.fin
  have ht := h.toldT
  dsimp only
  refine ⟨?_, ?_, ?_, h.told, ?_, ?_, ?_, ?_⟩
  · dsimp only
    have := h.st
    generalize wholeM _ _ _ = W
    cases W <;> cases fb <;> simp <;> omega
  · dsimp only; rw [hlen]; omega
  · dsimp only; intro p hp
    rw [putF_keeps]
    · rw [pad_g]; exact h.low p hp
    · rw [pad_g]; exact h.low p hp
  · dsimp only; have := h.cnt; omega
  · dsimp only
    cases fb
    · simp only [Bool.or_false, Bool.false_eq_true, if_false]
      by_cases hsz : m.sized = true
      · have h5 : m.st ≠ 0 := by rw [hsz] at hs; simpa using hs.symm
        generalize wholeM _ _ _ = W
        rw [hsz]; cases W <;> simp [h5]
      · have hsz' : m.sized = false := by simpa using hsz
        have h5 : m.st = 0 := by rw [hsz'] at hs; simpa using hs.symm
        rw [hsz', whole_no]; simp [h5]
    · simp only [Bool.or_true, if_true]
      generalize wholeM _ _ _ = W
      cases W <;> simp
  · dsimp only
    intro hsz
    rw [hlen]
    cases fb
    · simp only [Bool.or_false] at hsz
      have hff := hf hsz
      have h3' : ¬ (m.final < off + D.length) := fun e => h3 (Or.inl ⟨hsz, Or.inl e⟩)
      simp
      omega
    · have h3' : ¬ (off + (D.length : Int) < m.T.length) := fun e => h3 (Or.inr ⟨rfl, e⟩)
      simp
      omega
  · dsimp only
    cases fb
    · simp only [Bool.or_false, Bool.false_eq_true, if_false]; exact h.fz
    · simp
theorem mreset_inv {win i : Nat} {m : MS} (h : MI win i m) (n : Int) : MI win (i + 1) (mreset m n).1 := by
  unfold mreset
  split
  · exact h.inc
  split
  · exact h.inc
  split
  · exact h.inc
  rename_i h1 h2 h3
  have hs := h.szd
  refine ⟨?_, h.toldT, h.low, h.told, by have := h.cnt; dsimp only; omega, ?_, fun _ => ?_, fun e => by cases e⟩
  · dsimp only; have := h.st; split <;> omega
  · dsimp only
    symm; rw [decide_eq_true_eq]
    split <;> omega
  · dsimp only
    have h3' : ¬ (n < m.T.length) := fun e => h3 (Or.inr e)
    omega
theorem cnV_le (r w t : Int) (h0 : 0 ≤ r) (h1 : r ≤ 1000000) (h2 : 0 ≤ t) (h3 : t ≤ 1000000) (h4 : 1 ≤ w) (h5 : w ≤ 16384) (h6 : t ≤ r + w) : t ≤ cnV r w t ∧ cnV r w t ≤ r + w := by
  unfold cnV
  rw [if_neg (by omega)]
  split <;> omega
theorem rdk_len (T : PL) (a n : Nat) (h : a ≤ T.length) : a + rdk T a n ≤ T.length := by
  rcases Nat.lt_or_ge T.length (a + rdk T a n) with h1 | h1
  · have := rdk_all T a n (T.length - a) (by omega)
    rw [g_out T _ (by omega)] at this; cases this
  · exact h1
theorem mread_inv {win i : Nat} {m : MS} (h : MI win i m) (hw : 1 ≤ win) (hw2 : win ≤ 16384) (hi : i ≤ 400) (n : Int) : MI win (i + 1) (mread win m n).1 := by
  unfold mread
  split
  · exact h.inc
  split
  · rename_i h1 h2
    exact ⟨by show (5 : Nat) < 6; decide, h.toldT, h.low, h.told, by have := h.cnt; dsimp only; omega, by have := h.szd; dsimp only; rw [this]; simp; omega, h.fin, h.fz⟩
  rename_i h1 h2
  have hr := h.read
  have hrl := rdk_len m.T m.read n.toNat hr.2
  have hs := h.szd
  have hc : cnt m.T ≤ m.T.length := List.countP_le_length
  have hcn := h.cnt
  have htt := h.toldT
  have htd := h.told
  have hlow : ∀ p, p < m.read + rdk m.T m.read n.toNat → (PL.g m.T p).1 = true := fun p hp => by
    by_cases e : p < m.read
    · exact h.low p e
    · have := rdk_all m.T m.read n.toNat (p - m.read) (by omega)
      rw [show m.read + (p - m.read) = p by omega] at this; exact this
  have hrc := low_cnt m.T _ hlow
  have hcv := cnV_le ((m.read + rdk m.T m.read n.toNat : Nat) : Int) win m.told (by omega) (by omega) (by omega) (by omega) (by omega) (by omega) (by omega)
  dsimp only
  refine ⟨?_, ?_, hlow, ?_, by dsimp only; omega, ?_, ?_, h.fz⟩
  · dsimp only; split <;> omega
  · dsimp only
    generalize (if m.st = 2 ∧ ((m.read + rdk m.T m.read n.toNat : Nat) : Int) = m.final then 3 else m.st) = s2
    split <;> omega
  · dsimp only
    generalize (if m.st = 2 ∧ ((m.read + rdk m.T m.read n.toNat : Nat) : Int) = m.final then 3 else m.st) = s2
    split
    · exact hcv.2
    · omega
  · dsimp only; rw [hs]
    by_cases h2 : m.st = 2 ∧ ((m.read + rdk m.T m.read n.toNat : Nat) : Int) = m.final
    · rw [if_pos h2]; simp [h2.1]
    · rw [if_neg h2]
  · dsimp only; intro hsz
    have hf := h.fin hsz
    refine ⟨hf.1, ?_⟩
    generalize (if m.st = 2 ∧ ((m.read + rdk m.T m.read n.toNat : Nat) : Int) = m.final then 3 else m.st) = s2
    split
    · omega
    · exact hf.2
theorem mstep_inv {win i : Nat} {m : MS} (h : MI win i m) (hw : 1 ≤ win) (hw2 : win ≤ 16384) (hi : i ≤ 400) (o : SRecvOp) : MI win (i + 1) (mstep win m o).1 := by
  unfold mstep
  split
  · exact mdata_inv h _ _ _
  split
  · exact mreset_inv h _
  split
  · exact mread_inv h hw hw2 hi _
  · exact h.inc
theorem mrun_inv {win : Nat} (hw : 1 ≤ win) (hw2 : win ≤ 16384) (ops : List SRecvOp) : ∀ i, i ≤ 400 → MI win i (mrun win ops i).1
  | 0, _ => ⟨by show (0 : Nat) < 6; decide, by show (0 : Int) ≤ _; show (0 : Int) ≤ (win : Int); omega, fun p hp => by simp [mrun] at hp, by show (win : Int) ≤ 0 + win; omega, by simp [mrun], rfl, fun h => (by cases h), fun _ => rfl⟩
  | i + 1, hi => mstep_inv (mrun_inv hw hw2 ops i (by omega)) hw hw2 (by omega) _
theorem mrun_length (win : Nat) (ops : List SRecvOp) : ∀ i, (mrun win ops i).2.length = i
  | 0 => rfl
  | i + 1 => by show ((mrun win ops i).2 ++ _).length = _; rw [List.length_append, mrun_length win ops i]; rfl
theorem mrun_at (win : Nat) (ops : List SRecvOp) (j : Nat) : ∀ i, j < i → (mrun win ops i).2.getD j default = (mstep win (mrun win ops j).1 (ops.getD j default)).2
  | 0, h => by omega
  | i + 1, h => by
    show ((mrun win ops i).2 ++ [_]).getD j default = _
    by_cases e : j = i
    · subst e
      simp [List.getD, mrun_length]
    · have := mrun_at win ops j i (by omega)
      simp only [List.getD] at this ⊢
      rw [List.getElem?_append_left (by rw [mrun_length]; omega)]
      exact this
end Go.Proofs.Ytdoglkjhmaiknaa

namespace Go.Proofs.Ytdoglkjhmaiknaa
open Go.RowKit
set_option linter.unusedVariables false

/-! FnRecvPrefix: what its operations do to a receiving part. -/
/-- Where a text of N bytes is cut, so far. -/
structure CutsI (C : List Int) (N : Nat) : Prop where
  len : 1 ≤ C.length
  z : C.getD 0 0 = 0
  up : ∀ j, j + 1 < C.length → C.getD j 0 < C.getD (j + 1) 0 ∧ C.getD (j + 1) 0 ≤ C.getD j 0 + 40
  le : ∀ j, j < C.length → (j : Int) ≤ C.getD j 0 ∧ C.getD j 0 ≤ N
theorem getD_snoc {α : Type} (L : List α) (x d : α) (j : Nat) : (L ++ [x]).getD j d = if j < L.length then L.getD j d else if j = L.length then x else d := by
  by_cases h : j < L.length
  · rw [if_pos h]; simp [List.getD, List.getElem?_append_left h]
  · rw [if_neg h]
    by_cases e : j = L.length
    · rw [if_pos e, e]; simp [List.getD]
    · rw [if_neg e]
      simp only [List.getD]
      rw [List.getElem?_eq_none (by simp; omega)]; rfl
theorem cuts0 (N : Nat) : CutsI [0] N := ⟨by simp, rfl, fun j hj => by simp at hj, fun j hj => by
  have : j = 0 := by simp at hj; exact hj
  subst this; simp⟩
theorem CutsI.next {C : List Int} {N : Nat} (h : CutsI C N) (a : Int) (ha : 0 ≤ a) (ha2 : a < 40) (hl : C.getD (C.length - 1) 0 < N) : CutsI (C ++ [min (N : Int) (C.getD (C.length - 1) 0 + 1 + a)]) N := by
  have h1 := h.len
  have h2 := h.le (C.length - 1) (by omega)
  refine ⟨by simp, ?_, fun j hj => ?_, fun j hj => ?_⟩
  · rw [getD_snoc, if_pos (by omega)]; exact h.z
  · rw [List.length_append, List.length_singleton] at hj
    rw [getD_snoc, getD_snoc]
    by_cases e : j + 1 < C.length
    · rw [if_pos (by omega), if_pos e]; exact h.up j e
    · rw [if_pos (by omega), if_neg e, if_pos (by omega)]
      rw [show j = C.length - 1 by omega]
      omega
  · rw [List.length_append, List.length_singleton] at hj
    rw [getD_snoc]
    by_cases e : j < C.length
    · rw [if_pos e]; exact h.le j e
    · rw [if_neg e, if_pos (by omega)]
      omega
theorem CutsI.length {C : List Int} {N : Nat} (h : CutsI C N) : C.length ≤ N + 1 := by
  have := h.len
  have := h.le (C.length - 1) (by omega)
  omega
/-- A piece of the text, as an operation; a read. -/
def pcO (C X : List Int) (k : Nat) : SRecvOp := ⟨1, C.getD k 0, 0, (X.drop (C.getD k 0).toNat).take ((C.getD (k + 1) 0).toNat - (C.getD k 0).toNat), decide (k + 2 = C.length)⟩
def rdO (n : Int) : SRecvOp := ⟨3, 0, n, [], false⟩
/-- Which piece comes in round i. -/
def kkV (n a i : Nat) : Nat := if i < n then (if n % 7 = 0 then n - 1 - i else (i * 7 + a) % n) else i % n
theorem kkV_lt (n a i : Nat) (hn : 0 < n) : kkV n a i < n := by
  unfold kkV
  split
  · split
    · omega
    · exact Nat.mod_lt _ hn
  · exact Nat.mod_lt _ hn
theorem seven (r q : Nat) (hr : r < 7) (h0 : r ≠ 0) (hq : q < 7) : ∃ t, t < 7 ∧ (q + t * r) % 7 = 0 := by
  have : ∀ r : Fin 7, r.val ≠ 0 → ∀ q : Fin 7, ∃ t : Fin 7, (q.val + t.val * r.val) % 7 = 0 := by decide
  obtain ⟨t, ht⟩ := this ⟨r, hr⟩ h0 ⟨q, hq⟩
  exact ⟨t.val, t.isLt, ht⟩
theorem kkV_all (n a k : Nat) (hk : k < n) : ∃ i, i < n ∧ kkV n a i = k := by
  by_cases h7 : n % 7 = 0
  · refine ⟨n - 1 - k, by omega, ?_⟩
    unfold kkV; rw [if_pos (by omega), if_pos h7]; omega
  · obtain ⟨q, hq, eq⟩ : ∃ q, q < n ∧ (q + a) % n = k := by
      have ham := Nat.mod_lt a (show 0 < n by omega)
      by_cases c : a % n ≤ k
      · refine ⟨k - a % n, by omega, ?_⟩
        rw [Nat.add_mod, Nat.mod_eq_of_lt (show k - a % n < n by omega), show k - a % n + a % n = k by omega, Nat.mod_eq_of_lt hk]
      · refine ⟨n + k - a % n, by omega, ?_⟩
        rw [Nat.add_mod, Nat.mod_eq_of_lt (show n + k - a % n < n by omega), show n + k - a % n + a % n = k + n by omega, Nat.add_mod_right, Nat.mod_eq_of_lt hk]
    obtain ⟨t, ht, et⟩ := seven (n % 7) (q % 7) (by omega) h7 (by omega)
    have e7 : (q + t * n) % 7 = 0 := by rw [Nat.add_mod, Nat.mul_mod]; rw [Nat.add_mod, Nat.mul_mod, Nat.mod_mod, Nat.mod_mod] at et; exact et
    have hb : t * n ≤ 6 * n := Nat.mul_le_mul_right n (by omega)
    refine ⟨(q + t * n) / 7, by omega, ?_⟩
    have e8 : (q + t * n) / 7 * 7 = q + t * n := by omega
    unfold kkV
    rw [if_pos (by omega), if_neg h7, e8, show q + t * n + a = (q + a) + n * t by rw [Nat.mul_comm n t]; omega, Nat.add_mul_mod_self_left]
    exact eq
/-- The operations so far. -/
structure OpsI (C X : List Int) (n a i : Nat) (R : List SRecvOp) : Prop where
  each : ∀ j, j < R.length → (∃ k, k < n ∧ R.getD j default = pcO C X k) ∨ (∃ r : Int, 1 ≤ r ∧ R.getD j default = rdO r)
  has : ∀ i', i' < i → ∃ j, j < R.length ∧ R.getD j default = pcO C X (kkV n a i')
theorem ops0 (C X : List Int) (n a : Nat) : OpsI C X n a 0 [] := ⟨fun j hj => by simp at hj, fun i hi => by omega⟩
theorem OpsI.read {C X : List Int} {n a i : Nat} {R : List SRecvOp} (h : OpsI C X n a i R) (r : Int) (hr : 1 ≤ r) : OpsI C X n a i (R ++ [rdO r]) := by
  refine ⟨fun j hj => ?_, fun i' hi => ?_⟩
  · rw [List.length_append, List.length_singleton] at hj
    rw [getD_snoc]
    by_cases e : j < R.length
    · rw [if_pos e]; exact h.each j e
    · rw [if_neg e, if_pos (by omega)]; exact Or.inr ⟨r, hr, rfl⟩
  · obtain ⟨j, hj, ej⟩ := h.has i' hi
    exact ⟨j, by simp; omega, by rw [getD_snoc, if_pos hj]; exact ej⟩
theorem OpsI.piece {C X : List Int} {n a i : Nat} {R : List SRecvOp} (h : OpsI C X n a i R) (hn : 0 < n) : OpsI C X n a (i + 1) (R ++ [pcO C X (kkV n a i)]) := by
  refine ⟨fun j hj => ?_, fun i' hi => ?_⟩
  · rw [List.length_append, List.length_singleton] at hj
    rw [getD_snoc]
    by_cases e : j < R.length
    · rw [if_pos e]; exact h.each j e
    · rw [if_neg e, if_pos (by omega)]; exact Or.inl ⟨_, kkV_lt n a i hn, rfl⟩
  · by_cases e : i' = i
    · subst e
      exact ⟨R.length, by simp, by rw [getD_snoc, if_neg (by omega), if_pos rfl]⟩
    · obtain ⟨j, hj, ej⟩ := h.has i' (by omega)
      exact ⟨j, by simp; omega, by rw [getD_snoc, if_pos hj]; exact ej⟩

/-! The places behind data. -/
theorem put1_g (T : PL) (p q : Nat) (v : Int) (hp : p < T.length) : PL.g (put1 T p v) q = if q = p ∧ (PL.g T p).1 = false then (true, v) else PL.g T q := by
  unfold put1
  by_cases h : (PL.g T p).1 = true
  · rw [if_pos h, if_neg (by rw [h]; simp)]
  · have h' : (PL.g T p).1 = false := by simpa using h
    rw [if_neg h, g_set T p q _ hp]
    by_cases e : q = p
    · rw [if_pos e, if_pos ⟨e, h'⟩]
    · rw [if_neg e, if_neg (fun x => e x.1)]
theorem putF_g (T : PL) (off : Nat) (D : List Int) (q : Nat) : ∀ i, off + i ≤ T.length → PL.g (putF T off D i) q = if off ≤ q ∧ q < off + i ∧ (PL.g T q).1 = false then (true, D.getD (q - off) 0) else PL.g T q
  | 0, _ => by rw [if_neg (by omega)]; rfl
  | i + 1, hi => by
    have ih := putF_g T off D q i (by omega)
    show PL.g (put1 (putF T off D i) (off + i) (D.getD i 0)) q = _
    rw [put1_g _ _ _ _ (by rw [putF_length]; omega)]
    by_cases e : q = off + i
    · subst e
      have e1 : PL.g (putF T off D i) (off + i) = PL.g T (off + i) := by rw [ih, if_neg (by omega)]
      rw [e1]
      by_cases f : (PL.g T (off + i)).1 = false
      · rw [if_pos ⟨rfl, f⟩, if_pos ⟨by omega, by omega, f⟩, Nat.add_sub_cancel_left]
      · rw [if_neg (fun x => f x.2), if_neg (fun x => f x.2.2)]
    · rw [if_neg (fun x => e x.1), ih]
      by_cases c : off ≤ q ∧ q < off + i ∧ (PL.g T q).1 = false
      · rw [if_pos c, if_pos ⟨c.1, by omega, c.2.2⟩]
      · rw [if_neg c, if_neg (fun x => c ⟨x.1, by omega, x.2.2⟩)]
theorem all_there (T : PL) (f : Int) : (wholeM true f T = true) ↔ f ≤ (T.length : Int) ∧ ∀ p, p < f.toNat → (PL.g T p).1 = true := by
  unfold wholeM
  simp only [Bool.true_and, Bool.and_eq_true, decide_eq_true_eq, List.all_eq_true, List.mem_range]
/-- What holds of the part while pieces of X come. -/
structure PrI (X : List Int) (m : MS) : Prop where
  st : m.st ≤ 3
  told : 1000 ≤ m.told
  tl : m.T.length ≤ X.length
  val : ∀ p, (PL.g m.T p).1 = true → (PL.g m.T p).2 = X.getD p 0
  fin : m.sized = true → m.final = X.length
  nw : m.st < 2 → wholeM m.sized m.final m.T = false
  full : 2 ≤ m.st → m.sized = true ∧ ∀ p, p < X.length → (PL.g m.T p).1 = true
  rd : m.st = 3 → m.read = X.length
/-- One operation: nothing goes away. -/
structure PrS (X : List Int) (m m' : MS) (o : SRecvObs) : Prop where
  pi : PrI X m'
  code : o.f0 = 0
  sto : o.f1 = m'.st
  tol : o.f2 = m'.told
  told : m.told ≤ m'.told
  rle : m.read ≤ m'.read
  rd : X.take m'.read = X.take m.read ++ o.f3
  e : o.f4 = true → m'.read = X.length
  keep : ∀ p, (PL.g m.T p).1 = true → (PL.g m'.T p).1 = true
  sz : m.sized = true → m'.sized = true
theorem pc_len (C X : List Int) (N k : Nat) (hX : X.length = N) (h : CutsI C N) (hk : k + 1 < C.length) : (pcO C X k).f3.length = (C.getD (k + 1) 0).toNat - (C.getD k 0).toNat ∧ (C.getD k 0).toNat + (pcO C X k).f3.length = (C.getD (k + 1) 0).toNat ∧ (pcO C X k).f3.length ≤ 40 := by
  have h1 := h.up k hk
  have h2 := h.le (k + 1) hk
  have h3 := h.le k (by omega)
  have e : (pcO C X k).f3.length = (C.getD (k + 1) 0).toNat - (C.getD k 0).toNat := by
    show ((X.drop _).take _).length = _
    simp only [List.length_take, List.length_drop]; omega
  omega
theorem take_drop_getD (X : List Int) (a b q : Nat) (h : q < b) : ((X.drop a).take b).getD q 0 = X.getD (a + q) 0 := by
  simp only [List.getD]
  rw [List.getElem?_take_of_lt h, List.getElem?_drop]
theorem pc_at (C X : List Int) (N k q : Nat) (hX : X.length = N) (h : CutsI C N) (hk : k + 1 < C.length) (hq : q < (pcO C X k).f3.length) : (pcO C X k).f3.getD q 0 = X.getD ((C.getD k 0).toNat + q) 0 := by
  have h1 := pc_len C X N k hX h hk
  exact take_drop_getD X _ _ q (by omega)
theorem data_pr (C X : List Int) (N n k : Nat) (m : MS) (hX : X.length = N) (hN : N ≤ 604) (h : CutsI C N) (hn : C.length = n + 1) (he : C.getD n 0 = N) (hk : k < n) (I : PrI X m) :
    PrS X m (mstep 1000 m (pcO C X k)).1 (mstep 1000 m (pcO C X k)).2 ∧ (∀ p, (C.getD k 0).toNat ≤ p → p < (C.getD (k + 1) 0).toNat → (PL.g (mstep 1000 m (pcO C X k)).1.T p).1 = true) ∧ (k + 1 = n → (mstep 1000 m (pcO C X k)).1.sized = true) := by
  have hk1 : k + 1 < C.length := by omega
  have l0 := pc_len C X N k hX h hk1
  have l1 := h.le k (by omega)
  have l2 := h.le (k + 1) hk1
  have hat := fun q => pc_at C X N k q hX h hk1
  have hfb : (pcO C X k).f4 = true → C.getD (k + 1) 0 = N := fun e => by
    have : k + 2 = C.length := by simpa [pcO] using e
    rw [show k + 1 = n by omega]; exact he
  have hfb2 : k + 1 = n → (pcO C X k).f4 = true := fun e => by show decide (k + 2 = C.length) = true; rw [decide_eq_true_eq]; omega
  have e1 : mstep 1000 m (pcO C X k) = ((mdata m (C.getD k 0) (pcO C X k).f3 (pcO C X k).f4).1, ⟨(mdata m (C.getD k 0) (pcO C X k).f3 (pcO C X k).f4).2, (mdata m (C.getD k 0) (pcO C X k).f3 (pcO C X k).f4).1.st, (mdata m (C.getD k 0) (pcO C X k).f3 (pcO C X k).f4).1.told, [], false⟩) := rfl
  rw [e1]
  generalize (pcO C X k).f3 = D at *
  generalize (pcO C X k).f4 = fb at *
  obtain ⟨of, eo⟩ : ∃ of : Nat, C.getD k 0 = (of : Int) := ⟨(C.getD k 0).toNat, by omega⟩
  obtain ⟨en, ee⟩ : ∃ en : Nat, C.getD (k + 1) 0 = (en : Int) := ⟨(C.getD (k + 1) 0).toNat, by omega⟩
  have eo' : (C.getD k 0).toNat = of := by omega
  have ee' : (C.getD (k + 1) 0).toNat = en := by omega
  rw [eo', ee'] at l0 ⊢
  rw [eo]
  simp only [eo'] at hat
  have ht := I.told
  have htl := I.tl
  have g1 : ¬ (1500 < D.length ∨ (of : Int) < 0 ∨ 4611686018427387903 - (D.length : Int) < (of : Int)) := by omega
  have g2 : ¬ m.told < (of : Int) + D.length := by omega
  have g3 : ¬ ((m.sized = true ∧ (m.final < (of : Int) + D.length ∨ (fb = true ∧ (of : Int) + D.length ≠ m.final))) ∨ (fb = true ∧ (of : Int) + D.length < m.T.length)) := by
    rintro (⟨hs, hq⟩ | ⟨hf, hq⟩)
    · have := I.fin hs
      rcases hq with hq | ⟨hf, hq⟩
      · omega
      · have := hfb hf; omega
    · have := hfb hf; omega
  by_cases g4 : ¬ m.st < 2
  · have em : mdata m (of : Int) D fb = (m, 0) := by unfold mdata; rw [if_neg g1, if_neg g2, if_neg g3, if_pos g4]
    rw [em]
    have hf := I.full (by omega)
    exact ⟨⟨I, rfl, rfl, rfl, Int.le_refl _, Nat.le_refl _, by simp, fun e => by simp at e, fun p hp => hp, fun hs => hs⟩, fun p hp hp2 => hf.2 p (by omega), fun _ => hf.1⟩
  · have g4' : m.st < 2 := Decidable.not_not.1 g4
    obtain ⟨T2, eT⟩ : ∃ T2, T2 = putF (pad m.T (of + D.length)) of D D.length := ⟨_, rfl⟩
    have em : mdata m (of : Int) D fb = ({ m with st := if wholeM (m.sized || fb) (if fb then (of : Int) + D.length else m.final) T2 then 2 else if fb then 1 else m.st, sized := m.sized || fb, final := if fb then (of : Int) + D.length else m.final, T := T2 }, 0) := by
      unfold mdata; rw [if_neg g1, if_neg g2, if_neg g3, if_neg g4, eT]; rfl
    rw [em]
    have hg : ∀ p, PL.g T2 p = if of ≤ p ∧ p < of + D.length ∧ (PL.g m.T p).1 = false then (true, D.getD (p - of) 0) else PL.g m.T p := fun p => by
      rw [eT, putF_g _ _ _ _ _ (by rw [pad_length]; omega), pad_g]
    have hl : T2.length = max m.T.length (of + D.length) := by rw [eT, putF_length, pad_length]
    have hkeep : ∀ p, (PL.g m.T p).1 = true → (PL.g T2 p).1 = true := fun p hp => by
      rw [hg]; split
      · rfl
      · exact hp
    have hin : ∀ p, of ≤ p → p < en → (PL.g T2 p).1 = true := fun p hp hp2 => by
      rw [hg]; split
      · rfl
      · rename_i c
        cases hb : (PL.g m.T p).1 with
        | true => rfl
        | false => exact absurd ⟨hp, by omega, hb⟩ c
    have hval : ∀ p, (PL.g T2 p).1 = true → (PL.g T2 p).2 = X.getD p 0 := fun p hp => by
      rw [hg] at hp ⊢
      split
      · rename_i c
        show D.getD (p - of) 0 = _
        rw [hat (p - of) (by omega), show of + (p - of) = p by omega]
      · rename_i c
        rw [if_neg c] at hp
        exact I.val p hp
    have hfin : (m.sized || fb) = true → (if fb then (of : Int) + D.length else m.final) = X.length := fun hs => by
      cases hfb' : fb with
      | true => have := hfb hfb'; simp; omega
      | false => rw [hfb'] at hs; simp at hs; simpa using I.fin hs
    refine ⟨⟨⟨?_, I.told, by show T2.length ≤ _; rw [hl]; omega, hval, hfin, ?_, ?_, ?_⟩, rfl, rfl, rfl, Int.le_refl _, Nat.le_refl _, by simp, fun e => by simp at e, hkeep, fun hs => by show (m.sized || fb) = true; rw [hs]; rfl⟩, hin, fun e => by show (m.sized || fb) = true; rw [hfb2 e]; simp⟩
    · show (if wholeM (m.sized || fb) (if fb then (of : Int) + D.length else m.final) T2 then 2 else if fb then 1 else m.st) ≤ 3
      generalize wholeM (m.sized || fb) (if fb then (of : Int) + D.length else m.final) T2 = W
      split
      · omega
      · split <;> omega
    · show (if wholeM (m.sized || fb) (if fb then (of : Int) + D.length else m.final) T2 then 2 else if fb then 1 else m.st) < 2 → wholeM (m.sized || fb) (if fb then (of : Int) + D.length else m.final) T2 = false
      intro hh
      cases hw : wholeM (m.sized || fb) (if fb then (of : Int) + D.length else m.final) T2 with
      | false => rfl
      | true => rw [hw] at hh; simp at hh
    · show 2 ≤ (if wholeM (m.sized || fb) (if fb then (of : Int) + D.length else m.final) T2 then 2 else if fb then 1 else m.st) → (m.sized || fb) = true ∧ _
      intro hh
      cases hw : wholeM (m.sized || fb) (if fb then (of : Int) + D.length else m.final) T2 with
      | false =>
        rw [hw] at hh
        simp only [Bool.false_eq_true, if_false] at hh
        split at hh <;> omega
      | true =>
        have hs : (m.sized || fb) = true := by
          cases hs : (m.sized || fb) with
          | true => rfl
          | false => rw [hs, whole_no] at hw; cases hw
        refine ⟨hs, ?_⟩
        rw [hs, hfin hs] at hw
        have := ((all_there _ _).1 hw).2
        simpa using this
    · show (if wholeM (m.sized || fb) (if fb then (of : Int) + D.length else m.final) T2 then 2 else if fb then 1 else m.st) = 3 → m.read = X.length
      generalize wholeM (m.sized || fb) (if fb then (of : Int) + D.length else m.final) T2 = W
      intro hh
      split at hh
      · omega
      · split at hh <;> omega
theorem take_read (X : List Int) (T : PL) (a k : Nat) (hv : ∀ p, (PL.g T p).1 = true → (PL.g T p).2 = X.getD p 0) (ha : ∀ i, i < k → (PL.g T (a + i)).1 = true) (hl : a + k ≤ T.length) (hx : T.length ≤ X.length) :
    X.take (a + k) = X.take a ++ ((T.drop a).take k).map (·.2) := by
  apply List.ext_getElem (by simp; omega)
  intro i h1 h2
  by_cases c : i < a
  · rw [List.getElem_append_left (by simp; omega)]
    simp
  · rw [List.getElem_append_right (by simp; omega)]
    have h3 : i < a + k := by simp at h1; omega
    simp only [List.getElem_map, List.getElem_take, List.getElem_drop, List.length_take]
    have e1 := hv i (by have := ha (i - a) (by omega); rwa [show a + (i - a) = i by omega] at this)
    rw [g_in T i (by omega)] at e1
    have e2 : X.getD i 0 = X[i]'(by omega) := by simp [List.getD, show i < X.length by omega]
    rw [e2] at e1
    rw [← e1]
    congr 2
    omega
theorem read_pr (X : List Int) (N : Nat) (j : Nat) (m : MS) (r : Int) (hr : 1 ≤ r) (hX : X.length = N) (hN : N ≤ 604) (I : PrI X m) (M : MI 1000 j m) (hj : j ≤ 400) :
    PrS X m (mstep 1000 m (rdO r)).1 (mstep 1000 m (rdO r)).2 ∧ (mstep 1000 m (rdO r)).1.T = m.T ∧ ((X.length : Int) ≤ r → 2 ≤ m.st → (mstep 1000 m (rdO r)).1.st = 3 ∧ (mstep 1000 m (rdO r)).2.f4 = true) := by
  have hst := I.st
  have hrd := M.read
  have hrl := rdk_len m.T m.read r.toNat hrd.2
  have hall := rdk_all m.T m.read r.toNat
  have htd := M.told
  have htl := I.tl
  have hto := I.told
  have htt := M.toldT
  obtain ⟨k, ek⟩ : ∃ k, k = rdk m.T m.read r.toNat := ⟨_, rfl⟩
  obtain ⟨s2, es⟩ : ∃ s2, s2 = if m.st = 2 ∧ ((m.read + k : Nat) : Int) = m.final then 3 else m.st := ⟨_, rfl⟩
  obtain ⟨t2, et⟩ : ∃ t2, t2 = if s2 = 0 then cnV ((m.read + k : Nat) : Int) 1000 m.told else m.told := ⟨_, rfl⟩
  have e1 : mstep 1000 m (rdO r) = ({ m with st := s2, read := m.read + k, told := t2 }, ⟨0, s2, t2, ((m.T.drop m.read).take k).map (·.2), decide ((0 : Int) = 0 ∧ s2 = 3)⟩) := by
    have e2 : mread 1000 m r = ({ m with st := s2, read := m.read + k, told := t2 }, ((m.T.drop m.read).take k).map (·.2), 0) := by
      unfold mread; rw [if_neg (by omega), if_neg (by omega), et, es, ek]; rfl
    show (let z := mread 1000 m r; (z.1, (⟨z.2.2, z.1.st, z.1.told, z.2.1, decide (z.2.2 = 0 ∧ z.1.st = 3)⟩ : SRecvObs))) = _
    rw [e2]
  rw [e1]
  rw [← ek] at hrl hall
  have hcn := cnV_le ((m.read + k : Nat) : Int) 1000 m.told (by omega) (by omega) (by omega) (by omega) (by omega) (by omega) (by omega)
  have ht2 : m.told ≤ t2 := by rw [et]; split <;> omega
  have hs2 : s2 = m.st ∨ (m.st = 2 ∧ s2 = 3 ∧ ((m.read + k : Nat) : Int) = m.final) := by
    rw [es]; split
    · rename_i c; exact Or.inr ⟨c.1, rfl, c.2⟩
    · exact Or.inl rfl
  have hrd3 : s2 = 3 → m.read + k = X.length := fun e => by
    rcases hs2 with c | ⟨c1, c2, c3⟩
    · have := I.rd (by omega); omega
    · have hf := I.full (by omega)
      have := I.fin hf.1
      omega
  refine ⟨⟨⟨by show s2 ≤ 3; omega, by show 1000 ≤ t2; omega, I.tl, I.val, I.fin, fun h => I.nw (by have : s2 < 2 := h; omega), fun h => I.full (by have : 2 ≤ s2 := h; omega), hrd3⟩, rfl, rfl, rfl, ht2, by show m.read ≤ m.read + k; omega, take_read X m.T m.read k I.val hall hrl I.tl, fun e => ?_, fun p hp => hp, fun hs => hs⟩, rfl, fun hr2 h2 => ?_⟩
  · have : s2 = 3 := by simpa using e
    exact hrd3 this
  · have hf := I.full h2
    have hfn := I.fin hf.1
    have hlen : X.length ≤ m.T.length := by
      rcases Nat.eq_zero_or_pos X.length with z | z
      · omega
      · have := hf.2 (X.length - 1) (by omega)
        rcases Nat.lt_or_ge (X.length - 1) m.T.length with q | q
        · omega
        · rw [g_out m.T _ q] at this; cases this
    have hk : m.read + k = X.length := by
      rcases rdk_end m.T m.read r.toNat with q | q
      · rw [← ek] at q; omega
      · rw [← ek] at q
        rcases Nat.lt_or_ge (m.read + k) X.length with z | z
        · rw [hf.2 _ z] at q; cases q
        · omega
    have : s2 = 3 := by
      rw [es]; split
      · rfl
      · rename_i c
        rcases Nat.lt_or_ge m.st 3 with z | z
        · exact absurd ⟨by omega, by omega⟩ c
        · omega
    refine ⟨this, ?_⟩
    show decide ((0 : Int) = 0 ∧ s2 = 3) = true
    simp [this]
/-- Behind all operations. -/
theorem run_pr (C X : List Int) (N n : Nat) (R : List SRecvOp) (hX : X.length = N) (hN : N ≤ 604) (h4 : 0 < N) (h : CutsI C N) (hn : C.length = n + 1) (he : C.getD n 0 = N) (hR : R.length ≤ 400)
    (each : ∀ j, j < R.length → (∃ k, k < n ∧ R.getD j default = pcO C X k) ∨ (∃ r : Int, 1 ≤ r ∧ R.getD j default = rdO r)) : ∀ j, j ≤ R.length → PrI X (mrun 1000 R j).1 ∧
      (∀ j' k, j' < j → k < n → R.getD j' default = pcO C X k → (∀ p, (C.getD k 0).toNat ≤ p → p < (C.getD (k + 1) 0).toNat → (PL.g (mrun 1000 R j).1.T p).1 = true) ∧ (k + 1 = n → (mrun 1000 R j).1.sized = true))
  | 0, _ => ⟨⟨by show (0 : Nat) ≤ 3; omega, by show (1000 : Int) ≤ 1000; omega, Nat.zero_le _, fun p hp => by simp [mrun, PL.g] at hp, fun e => by simp [mrun] at e, fun _ => rfl, fun e => by simp [mrun] at e, fun e => by simp [mrun] at e⟩, fun j' k hj' => by omega⟩
  | j + 1, hj => by
    obtain ⟨I, K⟩ := run_pr C X N n R hX hN h4 h hn he hR each j (by omega)
    have M := mrun_inv (win := 1000) (by omega) (by omega) R j (by omega)
    have em : (mrun 1000 R (j + 1)).1 = (mstep 1000 (mrun 1000 R j).1 (R.getD j default)).1 := rfl
    rw [em]
    rcases each j (by omega) with ⟨k, hk, ek⟩ | ⟨r, hr, er⟩
    · obtain ⟨S, P1, P2⟩ := data_pr C X N n k (mrun 1000 R j).1 hX hN h hn he hk I
      rw [ek]
      refine ⟨S.pi, fun j' k' hj' hk' e' => ?_⟩
      by_cases ej : j' = j
      · rw [ej, ek] at e'
        have e1 : C.getD k 0 = C.getD k' 0 := congrArg SRecvOp.f1 e'
        have ekk : k = k' := by
          rcases Nat.lt_trichotomy k k' with q | q | q
          · exfalso
            have : ∀ d, k + d < C.length → C.getD k 0 + d ≤ C.getD (k + d) 0 := by
              intro d; induction d with
              | zero => intro _; simp
              | succ d ih => intro hd; have a1 := ih (by omega); have a2 := h.up (k + d) (by omega); rw [Nat.add_assoc] at a2; omega
            have := this (k' - k) (by omega)
            rw [show k + (k' - k) = k' by omega] at this; omega
          · exact q
          · exfalso
            have : ∀ d, k' + d < C.length → C.getD k' 0 + d ≤ C.getD (k' + d) 0 := by
              intro d; induction d with
              | zero => intro _; simp
              | succ d ih => intro hd; have a1 := ih (by omega); have a2 := h.up (k' + d) (by omega); rw [Nat.add_assoc] at a2; omega
            have := this (k - k') (by omega)
            rw [show k' + (k - k') = k by omega] at this; omega
        subst ekk
        exact ⟨P1, P2⟩
      · obtain ⟨Q1, Q2⟩ := K j' k' (by omega) hk' e'
        exact ⟨fun p hp hp2 => S.keep p (Q1 p hp hp2), fun e => S.sz (Q2 e)⟩
    · obtain ⟨S, P1, P2⟩ := read_pr X N j (mrun 1000 R j).1 r hr hX hN I M (by omega)
      rw [er]
      refine ⟨S.pi, fun j' k' hj' hk' e' => ?_⟩
      by_cases ej : j' = j
      · rw [ej, er] at e'
        have : (3 : Int) = 1 := congrArg SRecvOp.f0 e'
        omega
      · obtain ⟨Q1, Q2⟩ := K j' k' (by omega) hk' e'
        exact ⟨fun p hp hp2 => S.keep p (Q1 p hp hp2), fun e => S.sz (Q2 e)⟩
theorem cut_of (C : List Int) (N n : Nat) (h : CutsI C N) (hn : C.length = n + 1) (he : C.getD n 0 = N) (p : Nat) (hp : p < N) : ∃ k, k < n ∧ (C.getD k 0).toNat ≤ p ∧ p < (C.getD (k + 1) 0).toNat := by
  have : ∀ d, d ≤ n → (p : Int) < C.getD d 0 → ∃ k, k < d ∧ (C.getD k 0).toNat ≤ p ∧ p < (C.getD (k + 1) 0).toNat := by
    intro d
    induction d with
    | zero => intro _ hd; rw [h.z] at hd; omega
    | succ d ih =>
      intro hd hc
      by_cases q : (p : Int) < C.getD d 0
      · obtain ⟨k, hk, hk2⟩ := ih (by omega) q
        exact ⟨k, by omega, hk2⟩
      · have := h.le d (by omega)
        exact ⟨d, by omega, by omega, by omega⟩
  exact this n (Nat.le_refl _) (by rw [he]; omega)
/-- What the law asks of an answer. -/
structure PrO (X : List Int) (f : Nat → Nat) (t : Nat → Int) (j : Nat) (o : SRecvObs) : Prop where
  code : o.f0 = 0
  tol : o.f2 = t (j + 1)
  told : t j ≤ t (j + 1)
  rle : f j ≤ f (j + 1)
  top : f (j + 1) ≤ X.length
  rd : X.take (f (j + 1)) = X.take (f j) ++ o.f3
  e : o.f4 = true → f (j + 1) = X.length
/-- All that the law asks of the answers. -/
theorem rp_main (C X : List Int) (N n a i : Nat) (R0 : List SRecvOp) (hX : X.length = N) (hN : N ≤ 604) (h4 : 0 < N) (h : CutsI C N) (hn : C.length = n + 1) (he : C.getD n 0 = N) (hi : n ≤ i) (O : OpsI C X n a i R0) (hR : R0.length + 1 ≤ 400) :
    ∃ (f : Nat → Nat) (t : Nat → Int), f 0 = 0 ∧ 0 ≤ t 0 ∧ f (R0.length + 1) = N ∧ (∀ j, j < R0.length + 1 → PrO X f t j ((mrun 1000 (R0 ++ [rdO 4611686018427387903]) (R0.length + 1)).2.getD j default)) ∧
      ((mrun 1000 (R0 ++ [rdO 4611686018427387903]) (R0.length + 1)).2.getD R0.length default).f4 = true ∧ ((mrun 1000 (R0 ++ [rdO 4611686018427387903]) (R0.length + 1)).2.getD R0.length default).f1 = 3 := by
  have O2 := O.read 4611686018427387903 (by omega)
  obtain ⟨R, eR⟩ : ∃ R, R = R0 ++ [rdO 4611686018427387903] := ⟨_, rfl⟩
  have hlR : R.length = R0.length + 1 := by rw [eR]; simp
  have hlast : R.getD R0.length default = rdO 4611686018427387903 := by rw [eR, getD_snoc, if_neg (by omega), if_pos rfl]
  have hpre : ∀ j, j < R0.length → R.getD j default = R0.getD j default := fun j hj => by rw [eR, getD_snoc, if_pos hj]
  rw [← eR] at O2 ⊢
  have A := run_pr C X N n R hX hN h4 h hn he (by omega) O2.each
  have step : ∀ j, j < R0.length + 1 → PrS X (mrun 1000 R j).1 (mrun 1000 R (j + 1)).1 (mstep 1000 (mrun 1000 R j).1 (R.getD j default)).2 := fun j hj => by
    have M := mrun_inv (win := 1000) (by omega) (by omega) R j (by omega)
    have I := (A j (by omega)).1
    show PrS X (mrun 1000 R j).1 (mstep 1000 (mrun 1000 R j).1 (R.getD j default)).1 _
    rcases O2.each j (by omega) with ⟨k, hk, ek⟩ | ⟨r, hr, er⟩
    · rw [ek]; exact (data_pr C X N n k (mrun 1000 R j).1 hX hN h hn he hk I).1
    · rw [er]; exact (read_pr X N j (mrun 1000 R j).1 r hr hX hN I M (by omega)).1
  have I := (A R0.length (by omega)).1
  have M := mrun_inv (win := 1000) (by omega) (by omega) R R0.length (by omega)
  have hcome : ∀ k, k < n → ∃ j, j < R0.length ∧ R.getD j default = pcO C X k := fun k hk => by
    obtain ⟨i', hi', ei⟩ := kkV_all n a k hk
    obtain ⟨j, hj, ej⟩ := O.has i' (by omega)
    exact ⟨j, hj, by rw [hpre j hj, ej, ei]⟩
  have hall : ∀ p, p < N → (PL.g (mrun 1000 R R0.length).1.T p).1 = true := fun p hp => by
    obtain ⟨k, hk, h1, h2⟩ := cut_of C N n h hn he p hp
    obtain ⟨j, hj, ej⟩ := hcome k hk
    exact ((A R0.length (by omega)).2 j k hj hk ej).1 p h1 h2
  have hn0 : 0 < n := by
    rcases Nat.eq_zero_or_pos n with z | z
    · rw [z, h.z] at he; omega
    · exact z
  have hsz : (mrun 1000 R R0.length).1.sized = true := by
    obtain ⟨j, hj, ej⟩ := hcome (n - 1) (by omega)
    exact ((A R0.length (by omega)).2 j (n - 1) hj (by omega) ej).2 (by omega)
  have h2 : 2 ≤ (mrun 1000 R R0.length).1.st := by
    rcases Nat.lt_or_ge (mrun 1000 R R0.length).1.st 2 with q | q
    · exfalso
      have nw := I.nw q
      have hf := I.fin hsz
      rw [hsz, hf] at nw
      have hlen : (X.length : Int) ≤ ((mrun 1000 R R0.length).1.T.length : Int) := by
        have hb := hall (N - 1) (by omega)
        rcases Nat.lt_or_ge (N - 1) (mrun 1000 R R0.length).1.T.length with z | z
        · omega
        · rw [g_out _ _ z] at hb; cases hb
      have hw : wholeM true (X.length : Int) (mrun 1000 R R0.length).1.T = true := (all_there _ _).2 ⟨hlen, fun p hp => hall p (by rw [Int.toNat_natCast] at hp; omega)⟩
      rw [hw] at nw; cases nw
    · exact q
  have L := (read_pr X N R0.length (mrun 1000 R R0.length).1 4611686018427387903 (by omega) hX hN I M (by omega)).2.2 (by omega) h2
  have E := mrun_at 1000 R
  refine ⟨fun j => (mrun 1000 R j).1.read, fun j => (mrun 1000 R j).1.told, rfl, by show (0 : Int) ≤ 1000; omega, ?_, fun j hj => ?_, ?_, ?_⟩
  · have S := step R0.length (by omega)
    rw [hlast] at S
    show (mrun 1000 R (R0.length + 1)).1.read = N
    rw [S.e L.2, hX]
  · rw [E j (R0.length + 1) hj]
    have S := step j hj
    have M1 := mrun_inv (win := 1000) (by omega) (by omega) R (j + 1) (by omega)
    have := M1.read
    have := S.pi.tl
    exact ⟨S.code, S.tol, S.told, S.rle, by show (mrun 1000 R (j + 1)).1.read ≤ _; omega, S.rd, S.e⟩
  · rw [E R0.length (R0.length + 1) (by omega), hlast]; exact L.2
  · rw [E R0.length (R0.length + 1) (by omega), hlast]
    have S := step R0.length (by omega)
    rw [hlast] at S
    rw [S.sto]
    have e3 : (mrun 1000 R (R0.length + 1)).1.st = 3 := by
      show (mstep 1000 (mrun 1000 R R0.length).1 (R.getD R0.length default)).1.st = 3
      rw [hlast]; exact L.1
    rw [e3]; rfl
end Go.Proofs.Ytdoglkjhmaiknaa
