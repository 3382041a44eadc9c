import Derived.Test.YtpdclbfjngmppaaDoorMem
import Derived.Test.YtpdclbfjngmppaaDoorBkA
import Derived.Test.YtpdclbfjngmppaaDoorFbSendOpB
import Derived.Test.YtpdclbfjngmppaaDoorFbSendObsB
import Derived.Test.YtpdclbfjngmppaaDoorFbRecvOpB
import Derived.Test.YtpdclbfjngmppaaDoorFbRecvObsB
namespace Go.Proofs.YtpdclbfjngmppaaDoor
open Go.RowKit
set_option linter.unusedVariables false

def cnV (r w t : Int) : Int := if r < 0 ∨ 4611686018427371519 < r ∨ t < 0 ∨ 4611686018427371519 < t ∨ w < 1 ∨ 16384 < w then -1 else if (w + 1) / 2 ≤ r + w - t then r + w else t

end Go.Proofs.YtpdclbfjngmppaaDoor

namespace Go.Proofs.YtpdclbfjngmppaaDoor
open Go.RowKit
set_option linter.unusedVariables false

/-- The places of a stream, which have come and what. -/
abbrev PL := List (Bool × Int)
abbrev PL.g (T : PL) (p : Nat) : Bool × Int := T.getD p (false, 0)
def pad (T : PL) (e : Nat) : PL := T ++ List.replicate (e - T.length) (false, 0)
def put1 (T : PL) (p : Nat) (v : Int) : PL := if (PL.g T p).1 then T else T.set p (true, v)
def putF (T : PL) (off : Nat) (D : List Int) : Nat → PL
  | 0 => T
  | i + 1 => put1 (putF T off D i) (off + i) (D.getD i 0)
abbrev cnt (T : PL) : Nat := T.countP (·.1)
theorem g_out (T : PL) (p : Nat) (h : T.length ≤ p) : PL.g T p = (false, 0) := by simp [PL.g, List.getD, List.getElem?_eq_none h]
theorem g_in (T : PL) (p : Nat) (h : p < T.length) : PL.g T p = T[p] := by simp [PL.g, List.getD, h]
theorem g_set (T : PL) (p q : Nat) (x : Bool × Int) (h : p < T.length) : PL.g (T.set p x) q = if q = p then x else PL.g T q := by
  simp only [PL.g, List.getD, List.getElem?_set]
  by_cases e : p = q
  · subst e; simp [h]
  · rw [if_neg e, if_neg (fun x => e x.symm)]
theorem pad_length (T : PL) (e : Nat) : (pad T e).length = max T.length e := by simp [pad]; omega
theorem pad_g (T : PL) (e p : Nat) : PL.g (pad T e) p = PL.g T p := by
  by_cases h : p < T.length
  · simp [PL.g, pad, List.getD, List.getElem?_append_left h]
  · rw [g_out T p (by omega)]
    simp only [PL.g, pad, List.getD, List.getElem?_append_right (show T.length ≤ p by omega), List.getElem?_replicate]
    split <;> rfl
theorem pad_cnt (T : PL) (e : Nat) : cnt (pad T e) = cnt T := by simp [cnt, pad, List.countP_append, List.countP_replicate]
theorem put1_length (T : PL) (p : Nat) (v : Int) : (put1 T p v).length = T.length := by unfold put1; split <;> simp
theorem putF_length (T : PL) (off : Nat) (D : List Int) : ∀ i, (putF T off D i).length = T.length
  | 0 => rfl
  | i + 1 => by unfold putF; rw [put1_length, putF_length T off D i]
theorem put1_cnt (T : PL) (p : Nat) (v : Int) (h : p < T.length) (h2 : (PL.g T p).1 = false) : cnt (put1 T p v) = cnt T + 1 := by
  unfold put1 cnt
  rw [h2, if_neg (by simp), List.countP_set h]
  rw [g_in T p h] at h2
  simp [h2]
theorem put1_le (T : PL) (p : Nat) (v : Int) : cnt (put1 T p v) ≤ cnt T + 1 := by
  by_cases h2 : (PL.g T p).1 = true
  · unfold put1; rw [if_pos h2]; omega
  · have h2' : (PL.g T p).1 = false := by simpa using h2
    by_cases h : p < T.length
    · rw [put1_cnt T p v h h2']; omega
    · unfold put1; rw [if_neg h2, List.set_eq_of_length_le (by omega)]; omega
theorem putF_le (T : PL) (off : Nat) (D : List Int) : ∀ i, cnt (putF T off D i) ≤ cnt T + i
  | 0 => Nat.le_refl _
  | i + 1 => by
    have h1 := putF_le T off D i
    have h2 := put1_le (putF T off D i) (off + i) (D.getD i 0)
    show cnt (put1 (putF T off D i) (off + i) (D.getD i 0)) ≤ _
    omega
theorem put1_keeps (T : PL) (p q : Nat) (v : Int) (h : (PL.g T q).1 = true) : PL.g (put1 T p v) q = PL.g T q := by
  unfold put1
  by_cases e : (PL.g T p).1 = true
  · rw [if_pos e]
  · rw [if_neg e]
    by_cases hp : p < T.length
    · rw [g_set T p q _ hp, if_neg (fun x => e (by rw [← x]; exact h))]
    · rw [List.set_eq_of_length_le (by omega)]
theorem putF_keeps (T : PL) (off : Nat) (D : List Int) (q : Nat) (h : (PL.g T q).1 = true) : ∀ i, PL.g (putF T off D i) q = PL.g T q
  | 0 => rfl
  | i + 1 => by
    have h1 := putF_keeps T off D q h i
    show PL.g (put1 (putF T off D i) (off + i) (D.getD i 0)) q = _
    rw [put1_keeps _ _ _ _ (by rw [h1]; exact h), h1]
/-- The ring holds the places of the window. -/
def RR (win first : Nat) (L T : PL) : Prop :=
  L.length = win ∧ ∀ p, first ≤ p → p < first + win → (PL.g L (p % win)).1 = (PL.g T p).1 ∧ ((PL.g T p).1 = true → (PL.g L (p % win)).2 = (PL.g T p).2)
theorem mod_ne {p q first win : Nat} (hw : 0 < win) (hp : first ≤ p) (hp2 : p < first + win) (hq : first ≤ q) (hq2 : q < first + win) (h : p ≠ q) : p % win ≠ q % win := by
  intro e
  have h1 := Nat.div_add_mod p win
  have h2 := Nat.div_add_mod q win
  rw [e] at h1
  rcases Nat.lt_trichotomy (p / win) (q / win) with h3 | h3 | h3
  · have := Nat.mul_le_mul_left win (show p / win + 1 ≤ q / win from h3)
    rw [Nat.mul_add, Nat.mul_one] at this
    omega
  · rw [h3] at h1; omega
  · have := Nat.mul_le_mul_left win (show q / win + 1 ≤ p / win from h3)
    rw [Nat.mul_add, Nat.mul_one] at this
    omega
theorem keep_one (win first : Nat) (L T : PL) (pl : Nat) (v : Int) (hw : 0 < win) (h : RR win first L T) (hlow : ∀ p, p < first → (PL.g T p).1 = true) (hpl : pl < first + win) (hT : pl < T.length) :
    (kst first win (L, cnt T) pl v).2 = cnt (put1 T pl v) ∧ RR win first (kst first win (L, cnt T) pl v).1 (put1 T pl v) := by
  unfold kst
  by_cases h1 : pl < first
  · rw [if_pos h1]
    have : put1 T pl v = T := by unfold put1; rw [if_pos (hlow pl h1)]
    rw [this]; exact ⟨rfl, h⟩
  · rw [if_neg h1]
    have hr := h.2 pl (by omega) hpl
    by_cases h2 : (PL.g T pl).1 = true
    · have e : ((L, cnt T).1.getD (pl % win) (false, 0)).1 = true := by show (PL.g L (pl % win)).1 = true; rw [hr.1]; exact h2
      rw [if_pos e]
      have : put1 T pl v = T := by unfold put1; rw [if_pos h2]
      rw [this]; exact ⟨rfl, h⟩
    · have h2' : (PL.g T pl).1 = false := by simpa using h2
      have e : ¬ ((L, cnt T).1.getD (pl % win) (false, 0)).1 = true := by show ¬ (PL.g L (pl % win)).1 = true; rw [hr.1]; exact h2
      rw [if_neg e]
      refine ⟨(put1_cnt T pl v hT h2').symm, by simp [h.1], fun p hp hp2 => ?_⟩
      have hm : pl % win < L.length := by rw [h.1]; exact Nat.mod_lt _ hw
      have e2 : put1 T pl v = T.set pl (true, v) := by unfold put1; rw [if_neg h2]
      rw [e2, g_set T pl p _ hT]
      show (PL.g (L.set (pl % win) (true, v)) (p % win)).1 = _ ∧ _
      rw [g_set L _ _ _ hm]
      by_cases e3 : p = pl
      · subst e3; rw [if_pos rfl, if_pos rfl]; exact ⟨rfl, fun _ => rfl⟩
      · rw [if_neg e3, if_neg (mod_ne hw hp hp2 (by omega) hpl e3)]
        exact h.2 p hp hp2
theorem keep_all (win first off n : Nat) (D : List Int) (L T : PL) (hw : 0 < win) (h : RR win first L T) (hlow : ∀ p, p < first → (PL.g T p).1 = true) (hpl : off + n ≤ first + win) (hT : off + n ≤ T.length) : ∀ i, i ≤ n →
    (kfo first win off D (L, cnt T) i).2 = cnt (putF T off D i) ∧ RR win first (kfo first win off D (L, cnt T) i).1 (putF T off D i)
  | 0, _ => ⟨rfl, h⟩
  | i + 1, hi => by
    obtain ⟨h1, h2⟩ := keep_all win first off n D L T hw h hlow hpl hT i (by omega)
    have e : kfo first win off D (L, cnt T) i = ((kfo first win off D (L, cnt T) i).1, cnt (putF T off D i)) := by rw [← h1]
    have := keep_one win first _ _ (off + i) (D.getD i 0) hw h2 (fun p hp => by rw [putF_keeps T off D p (hlow p hp) i]; exact hlow p hp) (by omega) (by rw [putF_length]; omega)
    show (kst first win (kfo first win off D (L, cnt T) i) (off + i) (D.getD i 0)).2 = _ ∧ RR win first (kst first win (kfo first win off D (L, cnt T) i) (off + i) (D.getD i 0)).1 _
    rw [e]
    exact this
theorem RR.pad {win first : Nat} {L T : PL} (h : RR win first L T) (e : Nat) : RR win first L (pad T e) := ⟨h.1, fun p hp hp2 => by rw [pad_g]; exact h.2 p hp hp2⟩
/-- How many places lie ready from a on, at most n of them. -/
def rdk (T : PL) (a : Nat) : Nat → Nat
  | 0 => 0
  | n + 1 => if (PL.g T (a + rdk T a n)).1 = true ∧ rdk T a n = n then n + 1 else rdk T a n
theorem rdk_le (T : PL) (a : Nat) : ∀ n, rdk T a n ≤ n
  | 0 => Nat.le_refl _
  | n + 1 => by unfold rdk; have := rdk_le T a n; split <;> omega
theorem rdk_all (T : PL) (a : Nat) : ∀ n i, i < rdk T a n → (PL.g T (a + i)).1 = true
  | 0, i, h => by simp [rdk] at h
  | n + 1, i, h => by
    unfold rdk at h
    split at h
    · rename_i h2
      by_cases e : i = n
      · subst e; rw [← h2.2]; rw [h2.2]; have := h2.1; rw [h2.2] at this; exact this
      · exact rdk_all T a n i (by have := h2.2; omega)
    · exact rdk_all T a n i h
theorem rdk_end (T : PL) (a : Nat) : ∀ n, rdk T a n = n ∨ (PL.g T (a + rdk T a n)).1 = false
  | 0 => Or.inl rfl
  | n + 1 => by
    unfold rdk
    by_cases h : (PL.g T (a + rdk T a n)).1 = true ∧ rdk T a n = n
    · rw [if_pos h]; exact Or.inl rfl
    · rw [if_neg h]
      rcases rdk_end T a n with h1 | h1
      · right
        by_cases h2 : (PL.g T (a + rdk T a n)).1 = true
        · exact absurd ⟨h2, h1⟩ h
        · simpa using h2
      · exact Or.inr h1
theorem rdk_uniq (T : PL) (a n k : Nat) (h1 : k ≤ n) (h2 : ∀ i, i < k → (PL.g T (a + i)).1 = true) (h3 : k = n ∨ (PL.g T (a + k)).1 = false) : k = rdk T a n := by
  have a1 := rdk_le T a n
  have a2 := rdk_all T a n
  have a3 := rdk_end T a n
  rcases Nat.lt_trichotomy k (rdk T a n) with h | h | h
  · rcases h3 with e | e
    · omega
    · have := a2 k h; rw [e] at this; cases this
  · exact h
  · rcases a3 with e | e
    · omega
    · have := h2 _ h; rw [e] at this; cases this
end Go.Proofs.YtpdclbfjngmppaaDoor

namespace Go.Proofs.YtpdclbfjngmppaaDoor
open Go.RowKit
set_option linter.unusedVariables false

/-- The sending part, by the document: B the bytes, W how each stands (0 new, 1 on its way, 2 acknowledged, 3 lost). -/
structure SS where
  st : Nat
  credit : Int
  next : Nat
  fin : Nat
  finish : Bool
  B : List Int
  W : List Nat
def SS.live (m : SS) : Bool := decide (m.st < 3)
/-- Which are lost. -/
def L3 (W : List Nat) : PL := W.map fun x => (x == 3, 0)
theorem L3_g (W : List Nat) (p : Nat) : (PL.g (L3 W) p).1 = decide (W.getD p 0 = 3) := by
  by_cases h : p < W.length
  · simp only [PL.g, L3, List.getD, List.getElem?_map, List.getElem?_eq_getElem h, Option.map_some, Option.getD_some]
    by_cases e : W[p] = 3 <;> simp [e]
  · simp [PL.g, L3, List.getD, List.getElem?_eq_none (show W.length ≤ p by omega)]
/-- Those from a to b, but for the acknowledged ones, become x. -/
def setN (W : List Nat) (a b x : Nat) : List Nat := (List.range W.length).map fun i => if a ≤ i ∧ i < b ∧ W.getD i 0 ≠ 2 then x else W.getD i 0
theorem setN_length (W : List Nat) (a b x : Nat) : (setN W a b x).length = W.length := by simp [setN]
theorem setN_at (W : List Nat) (a b x i : Nat) (h : i < W.length) : (setN W a b x).getD i 0 = if a ≤ i ∧ i < b ∧ W.getD i 0 ≠ 2 then x else W.getD i 0 := by simp [setN, List.getD, h]
theorem setN_out (W : List Nat) (a b x i : Nat) (h : ¬ i < W.length) : (setN W a b x).getD i 0 = 0 := by simp [setN, List.getD, h]
theorem listN_ext {X Y : List Nat} (hl : X.length = Y.length) (h : ∀ i, i < X.length → X.getD i 0 = Y.getD i 0) : X = Y := by
  apply List.ext_getElem hl
  intro i h1 h2
  have := h i h1
  simpa [List.getD, h1, h2] using this
theorem setN_empty (W : List Nat) (a x : Nat) : setN W a a x = W := listN_ext (setN_length _ _ _ _) fun i hi => by
  rw [setN_length] at hi
  rw [setN_at W a a x i hi, if_neg (by omega)]
/-- One more. -/
theorem setN_next (W : List Nat) (a i x : Nat) (ha : a ≤ i) (hi : i < W.length) : setN W a (i + 1) x = if W.getD i 0 = 2 then setN W a i x else (setN W a i x).set i x := by
  by_cases h2 : W.getD i 0 = 2
  · rw [if_pos h2]
    refine listN_ext (by rw [setN_length, setN_length]) fun j hj => ?_
    rw [setN_length] at hj
    rw [setN_at W a _ x j hj, setN_at W a _ x j hj]
    by_cases e : j = i
    · subst e; rw [if_neg (fun q => q.2.2 h2), if_neg (by omega)]
    · by_cases q : a ≤ j ∧ j < i ∧ W.getD j 0 ≠ 2
      · rw [if_pos q, if_pos ⟨q.1, by omega, q.2.2⟩]
      · rw [if_neg q, if_neg (fun z => q ⟨z.1, by omega, z.2.2⟩)]
  · rw [if_neg h2]
    refine listN_ext (by rw [List.length_set, setN_length, setN_length]) fun j hj => ?_
    rw [setN_length] at hj
    rw [setN_at W a _ x j hj]
    have hs : ((setN W a i x).set i x).getD j 0 = if j = i then x else (setN W a i x).getD j 0 := by
      simp only [List.getD, List.getElem?_set]
      by_cases e : i = j
      · subst e; rw [if_pos rfl, if_pos (by rw [setN_length]; exact hi), if_pos rfl]; rfl
      · rw [if_neg e, if_neg (fun z => e z.symm)]
    rw [hs]
    by_cases e : j = i
    · subst e; rw [if_pos ⟨ha, by omega, h2⟩, if_pos rfl]
    · rw [if_neg e, setN_at W a i x j hj]
      by_cases q : a ≤ j ∧ j < i ∧ W.getD j 0 ≠ 2
      · rw [if_pos q, if_pos ⟨q.1, by omega, q.2.2⟩]
      · rw [if_neg q, if_neg (fun z => q ⟨z.1, by omega, z.2.2⟩)]
/-- The first that is lost; as many as there are if none is. -/
def fst3 (W : List Nat) : Nat := W.findIdx (· == 3)
def swrite (m : SS) (D : List Int) : SS × Int :=
  if m.live = false ∨ m.finish = true then (m, 7)
  else if 65536 < m.B.length + D.length then (m, 4)
  else ({ m with B := m.B ++ D, W := m.W ++ List.replicate D.length 0 }, 0)
def sfinish (m : SS) : SS × Int := if m.live = false ∨ m.finish = true then (m, 7) else ({ m with finish := true }, 0)
def scredit (m : SS) (n : Int) : SS × Int := if n < 0 then (m, 1) else ({ m with credit := max m.credit n }, 0)
/-- The next piece. -/
def spiece (m : SS) (n : Nat) : Option (Nat × Nat) :=
  if fst3 m.W < m.W.length then some (fst3 m.W, fst3 m.W + rdk (L3 m.W) (fst3 m.W) n)
  else if (m.next : Int) < min m.credit m.B.length then some (m.next, (min (min m.credit m.B.length) ((m.next + n : Nat) : Int)).toNat)
  else if m.finish = true ∧ m.next = m.B.length ∧ (m.fin = 0 ∨ m.fin = 3) then some (m.next, m.next) else none
/-- A pull: what is left, and off, data, some, fin, blocked. -/
def spull (m : SS) (n : Nat) : SS × Nat × List Int × Bool × Bool × Bool :=
  if m.live = false then (m, 0, [], false, false, false)
  else match spiece m n with
    | none => (m, 0, [], false, false, decide (m.next < m.B.length))
    | some (a, b) =>
      let f := m.finish && decide (b = m.B.length) && decide (m.fin ≠ 2)
      ({ m with W := setN m.W a b 1, next := max m.next b, fin := if f then 1 else m.fin, st := if f then 2 else if m.st = 0 then 1 else m.st }, a, (m.B.drop a).take (b - a), true, f, false)
def shear (m : SS) (off n : Int) (fb : Bool) (how : Nat) : SS × Int :=
  if off < 0 ∨ n < 0 ∨ (m.next : Int) - n < off ∨ (fb = true ∧ (m.fin = 0 ∨ off + n ≠ m.B.length)) then (m, 1)
  else if m.live = false then (m, 0)
  else
    let W2 := setN m.W off.toNat (off + n).toNat how
    let f2 := if fb = true ∧ m.fin ≠ 2 then how else m.fin
    ({ m with W := W2, fin := f2, st := if f2 = 2 ∧ W2.all (· == 2) then 3 else m.st }, 0)
def sstep (m : SS) (o : SSendOp) : SS × SSendObs :=
  if o.f0 = 1 then let r := swrite m o.f3; (r.1, ⟨r.2, r.1.st, 0, [], false, false, false⟩)
  else if o.f0 = 2 then let r := sfinish m; (r.1, ⟨r.2, r.1.st, 0, [], false, false, false⟩)
  else if o.f0 = 3 then let r := scredit m o.f2; (r.1, ⟨r.2, r.1.st, 0, [], false, false, false⟩)
  else if o.f0 = 4 then
    if o.f2 < 1 ∨ 1500 < o.f2 then (m, ⟨1, m.st, 0, [], false, false, false⟩)
    else let r := spull m o.f2.toNat; (r.1, ⟨0, r.1.st, r.2.1, r.2.2.1, r.2.2.2.1, r.2.2.2.2.1, r.2.2.2.2.2⟩)
  else if o.f0 = 5 then let r := shear m o.f1 o.f2 o.f4 2; (r.1, ⟨r.2, r.1.st, 0, [], false, false, false⟩)
  else if o.f0 = 6 then let r := shear m o.f1 o.f2 o.f4 3; (r.1, ⟨r.2, r.1.st, 0, [], false, false, false⟩)
  else if o.f0 = 7 then (if m.live then ({ m with st := 4 }, ⟨0, 4, m.next, [], false, false, false⟩) else (m, ⟨7, m.st, 0, [], false, false, false⟩))
  else if o.f0 = 8 then (if m.st = 4 then ({ m with st := 5 }, ⟨0, 5, 0, [], false, false, false⟩) else (m, ⟨7, m.st, 0, [], false, false, false⟩))
  else (m, ⟨1, m.st, 0, [], false, false, false⟩)
def srun (ops : List SSendOp) : Nat → SS × List SSendObs
  | 0 => (⟨0, 0, 0, 0, false, [], []⟩, [])
  | i + 1 => let r := srun ops i; let s := sstep r.1 (ops.getD i default); (s.1, r.2 ++ [s.2])
/-- What holds of it always. -/
structure SI (m : SS) : Prop where
  len : m.W.length = m.B.length
  big : m.B.length ≤ 65536
  nx : m.next ≤ m.B.length
  new : ∀ p, m.next ≤ p → m.W.getD p 0 = 0
  old : ∀ p, p < m.next → m.W.getD p 0 ≠ 0 ∧ m.W.getD p 0 ≤ 3
  st : m.st < 6
  fin3 : m.fin ≤ 3
  finF : m.fin ≠ 0 → m.finish = true ∧ m.next = m.B.length
  sent : m.st = 2 → m.finish = true
  cr : 0 ≤ m.credit
theorem fst3_lost (W : List Nat) (h : fst3 W < W.length) : W.getD (fst3 W) 0 = 3 := by
  have := List.findIdx_getElem (w := h)
  simp only [fst3] at h ⊢
  simp [List.getD, h]
  simpa using this
theorem fst3_none (W : List Nat) (h : ¬ fst3 W < W.length) (p : Nat) : W.getD p 0 ≠ 3 := by
  by_cases hp : p < W.length
  · have h1 : W.findIdx (· == 3) = W.length := by
      have := List.findIdx_le_length (xs := W) (p := (· == 3)); unfold fst3 at h; omega
    have := List.findIdx_eq_length.1 h1 W[p] (List.getElem_mem _)
    simp [List.getD, hp]
    simpa using this
  · simp [List.getD, List.getElem?_eq_none (show W.length ≤ p by omega)]
theorem fst3_first (W : List Nat) (p : Nat) (h : p < fst3 W) : W.getD p 0 ≠ 3 := by
  have hp : p < W.length := Nat.lt_of_lt_of_le h List.findIdx_le_length
  have := List.not_of_lt_findIdx h
  simp [List.getD, hp]
  simpa using this
end Go.Proofs.YtpdclbfjngmppaaDoor

namespace Go.Proofs.YtpdclbfjngmppaaDoor
open Go.RowKit
set_option linter.unusedVariables false

theorem g_append (A B : PL) (i : Nat) : PL.g (A ++ B) i = if i < A.length then PL.g A i else PL.g B (i - A.length) := by
  by_cases h : i < A.length
  · rw [if_pos h]; simp [PL.g, List.getD, List.getElem?_append_left h]
  · rw [if_neg h]; simp [PL.g, List.getD, List.getElem?_append_right (show A.length ≤ i by omega)]
theorem g_take (A : PL) (n i : Nat) : PL.g (A.take n) i = if i < n then PL.g A i else (false, 0) := by
  by_cases h : i < n
  · rw [if_pos h]; simp [PL.g, List.getD, List.getElem?_take_of_lt h]
  · rw [if_neg h]; exact g_out _ _ (by simp; omega)
theorem g_drop (A : PL) (n i : Nat) : PL.g (A.drop n) i = PL.g A (n + i) := by simp [PL.g, List.getD]
theorem g_rep (n i : Nat) : PL.g (List.replicate n (false, 0)) i = (false, 0) := by
  simp only [PL.g, List.getD, List.getElem?_replicate]; split <;> rfl
theorem cpL_g (O L : PL) (q r m i : Nat) (hr : r + m ≤ L.length) (hq : q + m ≤ O.length) : PL.g (cpL O L q r m) i = if q ≤ i ∧ i < q + m then PL.g L (r + (i - q)) else PL.g O i := by
  unfold cpL
  rw [g_append, g_append, g_take, g_take, g_drop, g_drop]
  simp only [List.length_take, List.length_drop]
  by_cases h1 : i < q
  · rw [if_pos (by omega), if_pos h1, if_neg (by omega)]
  · rw [if_neg (by omega)]
    by_cases h2 : i < q + m
    · rw [if_pos (by omega), if_pos (by omega), if_pos (by omega)]
      congr 1; omega
    · rw [if_neg (by omega), if_neg (by omega)]
      congr 1; omega
theorem clL_g (L : PL) (r m i : Nat) (hr : r + m ≤ L.length) : PL.g (clL L r m) i = if r ≤ i ∧ i < r + m then (false, 0) else PL.g L i := by
  unfold clL
  rw [g_append, g_append, g_take, g_drop, g_rep]
  simp only [List.length_take, List.length_replicate]
  by_cases h1 : i < r
  · rw [if_pos (by omega), if_pos h1, if_neg (by omega)]
  · rw [if_neg (by omega)]
    by_cases h2 : i < r + m
    · rw [if_pos (by omega), if_pos (by omega)]
    · rw [if_neg (by omega), if_neg (by omega)]
      congr 1; omega
theorem shO_g (L : PL) (win first k i : Nat) (hL : L.length = win) (hw : 0 < win) (hk : k ≤ win) (hi : i < k) : PL.g (shO L (first % win) k (min k (win - first % win))) i = PL.g L ((first + i) % win) := by
  have hm := Nat.mod_lt first hw
  unfold shO
  rw [cpL_g _ _ _ _ _ _ (by omega) (by rw [cpL_length _ _ _ _ _ (by omega) (by simp; omega)]; simp; omega), cpL_g _ _ _ _ _ _ (by omega) (by simp; omega)]
  have e : (first + i) % win = (first % win + i) % win := (Nat.mod_add_mod first win i).symm
  by_cases h : i < min k (win - first % win)
  · rw [if_neg (by omega), if_pos (by omega), e, Nat.mod_eq_of_lt (show first % win + i < win by omega)]
    congr 1
  · rw [if_pos (by omega), e, Nat.mod_eq_sub_mod (show win ≤ first % win + i by omega), Nat.mod_eq_of_lt (show first % win + i - win < win by omega)]
    congr 1; omega
theorem shL_g (L : PL) (win first k q : Nat) (hL : L.length = win) (hw : 0 < win) (hk : k ≤ win) (hq : q < win) : PL.g (shL L (first % win) k (min k (win - first % win))) q = if (∃ i, i < k ∧ (first + i) % win = q) then (false, 0) else PL.g L q := by
  have hm := Nat.mod_lt first hw
  unfold shL
  rw [clL_g _ _ _ _ (by rw [clL_length _ _ _ (by omega)]; omega), clL_g _ _ _ _ (by omega)]
  have e : ∀ i, (first + i) % win = (first % win + i) % win := fun i => (Nat.mod_add_mod first win i).symm
  by_cases h1 : q < k - min k (win - first % win)
  · rw [if_pos (by omega), if_pos ⟨win - first % win + q, by omega, by rw [e, Nat.mod_eq_sub_mod (show win ≤ first % win + (win - first % win + q) by omega), Nat.mod_eq_of_lt (show first % win + (win - first % win + q) - win < win by omega)]; omega⟩]
  · rw [if_neg (by omega)]
    by_cases h2 : first % win ≤ q ∧ q < first % win + min k (win - first % win)
    · rw [if_pos h2, if_pos ⟨q - first % win, by omega, by rw [e, Nat.mod_eq_of_lt (show first % win + (q - first % win) < win by omega)]; omega⟩]
    · rw [if_neg h2, if_neg]
      rintro ⟨i, hi, he⟩
      rw [e] at he
      by_cases h3 : first % win + i < win
      · rw [Nat.mod_eq_of_lt h3] at he; omega
      · rw [Nat.mod_eq_sub_mod (show win ≤ first % win + i by omega), Nat.mod_eq_of_lt (show first % win + i - win < win by omega)] at he; omega
theorem shL_length (L : PL) (win first k : Nat) (hL : L.length = win) (hw : 0 < win) (hk : k ≤ win) : (shL L (first % win) k (min k (win - first % win))).length = win := by
  have hm := Nat.mod_lt first hw
  unfold shL
  rw [clL_length _ _ _ (by rw [clL_length _ _ _ (by omega)]; omega), clL_length _ _ _ (by omega), hL]
theorem RR.shift {win first k : Nat} {L T : PL} (h : RR win first L T) (hw : 0 < win) (hk : k ≤ win) (hT : T.length ≤ first + win) : RR win (first + k) (shL L (first % win) k (min k (win - first % win))) T := by
  refine ⟨shL_length L win first k h.1 hw hk, fun p hp hp2 => ?_⟩
  rw [shL_g L win first k (p % win) h.1 hw hk (Nat.mod_lt _ hw)]
  by_cases hlo : p < first + win
  · rw [if_neg]
    · exact h.2 p (by omega) hlo
    · rintro ⟨i, hi, he⟩
      exact mod_ne hw (show first ≤ first + i by omega) (by omega) (show first ≤ p by omega) hlo (by omega) he
  · rw [if_pos ⟨p - first - win, by omega, by rw [show p = (first + (p - first - win)) + win by omega, Nat.add_mod_right]; congr 1; omega⟩, g_out T p (by omega)]
    exact ⟨rfl, fun _ => rfl⟩
theorem shO_out {win first k : Nat} {L T : PL} (h : RR win first L T) (hw : 0 < win) (hk : k ≤ win) (hall : ∀ i, i < k → (PL.g T (first + i)).1 = true) (hkT : first + k ≤ T.length) :
    (shO L (first % win) k (min k (win - first % win))).map (·.2) = ((T.drop first).take k).map (·.2) := by
  have hm := Nat.mod_lt first hw
  have hl : (shO L (first % win) k (min k (win - first % win))).length = k := by
    unfold shO
    rw [cpL_length _ _ _ _ _ (by rw [h.1]; omega) (by rw [cpL_length _ _ _ _ _ (by rw [h.1]; omega) (by simp; omega)]; simp; omega), cpL_length _ _ _ _ _ (by rw [h.1]; omega) (by simp; omega)]
    simp
  apply List.ext_getElem (by simp [hl]; omega)
  intro i h1 h2
  simp only [List.getElem_map]
  rw [List.length_map, hl] at h1
  have e1 := shO_g L win first k i h.1 hw hk h1
  rw [g_in _ _ (by rw [hl]; exact h1)] at e1
  have e2 := (h.2 (first + i) (by omega) (by omega)).2 (hall i h1)
  rw [e1, e2, g_in T _ (by omega)]
  simp
theorem rdy_rdk {win first k : Nat} {L T : PL} {n : Int} (h : RR win first L T) (hT : T.length ≤ first + win) (hn : 1 ≤ n) (h1 : (k : Int) ≤ n) (h2 : k ≤ win) (h3 : ∀ i, i < k → (PL.g L ((first + i) % win)).1 = true) (h4 : (k : Int) = n ∨ k = win ∨ (PL.g L ((first + k) % win)).1 = false) : k = rdk T first n.toNat := by
  have h3' : ∀ i, i < k → (PL.g T (first + i)).1 = true := fun i hi => by rw [← (h.2 (first + i) (by omega) (by omega)).1]; exact h3 i hi
  refine rdk_uniq T first n.toNat k (by omega) h3' ?_
  by_cases hkn : (k : Int) = n
  · exact Or.inl (by omega)
  · right
    by_cases hkw : k = win
    · rw [g_out T _ (by omega)]
    · have := h4.resolve_left hkn |>.resolve_left hkw
      rw [← (h.2 (first + k) (by omega) (by omega)).1]; exact this
/-- The receiving part, by the document. -/
structure MS where
  st : Nat
  told : Int
  read : Nat
  sized : Bool
  final : Int
  T : PL
def wholeM (sized : Bool) (final : Int) (T : PL) : Bool := sized && decide (final ≤ (T.length : Int)) && (List.range final.toNat).all (fun i => (PL.g T i).1)
/-- What data does. -/
def mdata (m : MS) (off : Int) (D : List Int) (fb : Bool) : MS × Int :=
  if 1500 < D.length ∨ off < 0 ∨ 4611686018427387903 - (D.length : Int) < off then (m, 1)
  else if m.told < off + D.length then (m, 8)
  else if (m.sized = true ∧ (m.final < off + D.length ∨ (fb = true ∧ off + D.length ≠ m.final))) ∨ (fb = true ∧ off + D.length < m.T.length) then (m, 10)
  else if ¬ m.st < 2 then (m, 0)
  else
    let T2 := putF (pad m.T (off.toNat + D.length)) off.toNat D D.length
    let s2 := m.sized || fb
    let f2 := if fb then off + D.length else m.final
    ({ m with st := if wholeM s2 f2 T2 then 2 else if fb then 1 else m.st, sized := s2, final := f2, T := T2 }, 0)
def mreset (m : MS) (n : Int) : MS × Int :=
  if n < 0 ∨ 4611686018427387903 < n then (m, 1)
  else if m.told < n then (m, 8)
  else if (m.sized = true ∧ n ≠ m.final) ∨ n < m.T.length then (m, 10)
  else ({ m with st := if m.st < 2 then 4 else m.st, sized := true, final := n }, 0)
/-- The bytes that are read, the code, what is left. -/
def mread (win : Nat) (m : MS) (n : Int) : MS × List Int × Int :=
  if n < 1 then (m, [], 1)
  else if 4 ≤ m.st then ({ m with st := 5 }, [], 23)
  else
    let k := rdk m.T m.read n.toNat
    let s2 := if m.st = 2 ∧ ((m.read + k : Nat) : Int) = m.final then 3 else m.st
    ({ m with st := s2, read := m.read + k, told := if s2 = 0 then cnV ((m.read + k : Nat) : Int) win m.told else m.told }, ((m.T.drop m.read).take k).map (·.2), 0)
def mstep (win : Nat) (m : MS) (o : SRecvOp) : MS × SRecvObs :=
  if o.f0 = 1 then let r := mdata m o.f1 o.f3 o.f4; (r.1, ⟨r.2, r.1.st, r.1.told, [], false⟩)
  else if o.f0 = 2 then let r := mreset m o.f2; (r.1, ⟨r.2, r.1.st, r.1.told, [], false⟩)
  else if o.f0 = 3 then let r := mread win m o.f2; (r.1, ⟨r.2.2, r.1.st, r.1.told, r.2.1, decide (r.2.2 = 0 ∧ r.1.st = 3)⟩)
  else (m, ⟨1, m.st, m.told, [], false⟩)
def mrun (win : Nat) (ops : List SRecvOp) : Nat → MS × List SRecvObs
  | 0 => (⟨0, win, 0, false, 0, []⟩, [])
  | i + 1 => let r := mrun win ops i; let s := mstep win r.1 (ops.getD i default); (s.1, r.2 ++ [s.2])
/-- What holds of it behind i operations. -/
structure MI (win i : Nat) (m : MS) : Prop where
  st : m.st < 6
  toldT : (m.T.length : Int) ≤ m.told
  low : ∀ p, p < m.read → (PL.g m.T p).1 = true
  told : m.told ≤ (m.read : Int) + win
  cnt : cnt m.T ≤ 1500 * i
  szd : m.sized = decide (m.st ≠ 0)
  fin : m.sized = true → (m.T.length : Int) ≤ m.final ∧ m.final ≤ m.told
  fz : m.sized = false → m.final = 0
theorem low_cnt (T : PL) : ∀ a, (∀ p, p < a → (PL.g T p).1 = true) → a ≤ cnt T := by
  induction T with
  | nil =>
    intro a h
    rcases Nat.eq_zero_or_pos a with e | e
    · omega
    · have := h 0 e; simp [PL.g] at this
  | cons x r ih =>
    intro a h
    rcases Nat.eq_zero_or_pos a with e | e
    · omega
    · have h0 : x.1 = true := by have := h 0 e; simpa [PL.g] using this
      have := ih (a - 1) (fun p hp => by have := h (p + 1) (by omega); simpa [PL.g] using this)
      simp only [Go.Proofs.YtpdclbfjngmppaaDoor.cnt, List.countP_cons, h0] at this ⊢
      simp; omega
theorem MI.read {win i : Nat} {m : MS} (h : MI win i m) : m.read ≤ Go.Proofs.YtpdclbfjngmppaaDoor.cnt m.T ∧ m.read ≤ m.T.length := by
  have h1 := low_cnt m.T m.read h.low
  have h2 : Go.Proofs.YtpdclbfjngmppaaDoor.cnt m.T ≤ m.T.length := List.countP_le_length
  exact ⟨h1, by omega⟩
end Go.Proofs.YtpdclbfjngmppaaDoor

namespace Go.Proofs.YtpdclbfjngmppaaDoor
open Go.RowKit
set_option linter.unusedVariables false

theorem whole_cnt (T : PL) (f : Int) (h : (T.length : Int) ≤ f) : wholeM true f T = decide ((cnt T : Int) = f) := by
  have hc : cnt T ≤ T.length := List.countP_le_length
  rw [Bool.eq_iff_iff, decide_eq_true_eq]
  unfold wholeM
  simp only [Bool.true_and, Bool.and_eq_true, decide_eq_true_eq, List.all_eq_true, List.mem_range]
  constructor
  · rintro ⟨h1, h2⟩
    have hf : f.toNat = T.length := by omega
    have : T.length ≤ cnt T := low_cnt T T.length (fun p hp => h2 p (by omega))
    omega
  · intro h1
    refine ⟨by omega, fun i hi => ?_⟩
    have e : cnt T = T.length := by omega
    have := List.countP_eq_length.1 e
    rw [g_in T i (by omega)]
    exact this _ (List.getElem_mem _)
theorem whole_no (f : Int) (T : PL) : wholeM false f T = false := rfl
theorem MI.inc {win i : Nat} {m : MS} (h : MI win i m) : MI win (i + 1) m := ⟨h.st, h.toldT, h.low, h.told, by have := h.cnt; omega, h.szd, h.fin, h.fz⟩
theorem mdata_inv {win i : Nat} {m : MS} (h : MI win i m) (off : Int) (D : List Int) (fb : Bool) : MI win (i + 1) (mdata m off D fb).1 := by
  unfold mdata
  split
  · exact h.inc
  split
  · exact h.inc
  split
  · exact h.inc
  split
  · exact h.inc
  rename_i h1 h2 h3 h4
  have hr := h.read
  have hD : D.length ≤ 1500 ∧ 0 ≤ off := by omega
  have hlen : (putF (pad m.T (off.toNat + D.length)) off.toNat D D.length).length = max m.T.length (off.toNat + D.length) := by rw [putF_length, pad_length]
  have hcn : cnt (putF (pad m.T (off.toNat + D.length)) off.toNat D D.length) ≤ cnt m.T + 1500 := by
    have := putF_le (pad m.T (off.toNat + D.length)) off.toNat D D.length
    rw [pad_cnt] at this; omega
  have hs := h.szd
  have hf := h.fin
  have ht := h.toldT
  dsimp only
  refine ⟨?_, ?_, ?_, h.told, ?_, ?_, ?_, ?_⟩
  · dsimp only
    have := h.st
    generalize wholeM _ _ _ = W
    cases W <;> cases fb <;> simp <;> omega
  · dsimp only; rw [hlen]; omega
  · dsimp only; intro p hp
    rw [putF_keeps]
    · rw [pad_g]; exact h.low p hp
    · rw [pad_g]; exact h.low p hp
  · dsimp only; have := h.cnt; omega
  · dsimp only
    cases fb
    · simp only [Bool.or_false, Bool.false_eq_true, if_false]
      by_cases hsz : m.sized = true
      · have h5 : m.st ≠ 0 := by rw [hsz] at hs; simpa using hs.symm
        generalize wholeM _ _ _ = W
        rw [hsz]; cases W <;> simp [h5]
      · have hsz' : m.sized = false := by simpa using hsz
        have h5 : m.st = 0 := by rw [hsz'] at hs; simpa using hs.symm
        rw [hsz', whole_no]; simp [h5]
    · simp only [Bool.or_true, if_true]
      generalize wholeM _ _ _ = W
      cases W <;> simp
  · dsimp only
    intro hsz
    rw [hlen]
    cases fb
    · simp only [Bool.or_false] at hsz
      have hff := hf hsz
      have h3' : ¬ (m.final < off + D.length) := fun e => h3 (Or.inl ⟨hsz, Or.inl e⟩)
      simp
      omega
    · have h3' : ¬ (off + (D.length : Int) < m.T.length) := fun e => h3 (Or.inr ⟨rfl, e⟩)
      simp
      omega
  · dsimp only
    cases fb
    · simp only [Bool.or_false, Bool.false_eq_true, if_false]; exact h.fz
    · simp
theorem mreset_inv {win i : Nat} {m : MS} (h : MI win i m) (n : Int) : MI win (i + 1) (mreset m n).1 := by
  unfold mreset
  split
  · exact h.inc
  split
  · exact h.inc
  split
  · exact h.inc
  rename_i h1 h2 h3
  have hs := h.szd
  refine ⟨?_, h.toldT, h.low, h.told, by have := h.cnt; dsimp only; omega, ?_, fun _ => ?_, fun e => by cases e⟩
  · dsimp only; have := h.st; split <;> omega
  · dsimp only
    symm; rw [decide_eq_true_eq]
    split <;> omega
  · dsimp only
    have h3' : ¬ (n < m.T.length) := fun e => h3 (Or.inr e)
    omega
theorem cnV_le (r w t : Int) (h0 : 0 ≤ r) (h1 : r ≤ 1000000) (h2 : 0 ≤ t) (h3 : t ≤ 1000000) (h4 : 1 ≤ w) (h5 : w ≤ 16384) (h6 : t ≤ r + w) : t ≤ cnV r w t ∧ cnV r w t ≤ r + w := by
  unfold cnV
  rw [if_neg (by omega)]
  split <;> omega
theorem rdk_len (T : PL) (a n : Nat) (h : a ≤ T.length) : a + rdk T a n ≤ T.length := by
  rcases Nat.lt_or_ge T.length (a + rdk T a n) with h1 | h1
  · have := rdk_all T a n (T.length - a) (by omega)
    rw [g_out T _ (by omega)] at this; cases this
  · exact h1
theorem mread_inv {win i : Nat} {m : MS} (h : MI win i m) (hw : 1 ≤ win) (hw2 : win ≤ 16384) (hi : i ≤ 400) (n : Int) : MI win (i + 1) (mread win m n).1 := by
  unfold mread
  split
  · exact h.inc
  split
  · rename_i h1 h2
    exact ⟨by show (5 : Nat) < 6; decide, h.toldT, h.low, h.told, by have := h.cnt; dsimp only; omega, by have := h.szd; dsimp only; rw [this]; simp; omega, h.fin, h.fz⟩
  rename_i h1 h2
  have hr := h.read
  have hrl := rdk_len m.T m.read n.toNat hr.2
  have hs := h.szd
  have hc : cnt m.T ≤ m.T.length := List.countP_le_length
  have hcn := h.cnt
  have htt := h.toldT
  have htd := h.told
  have hlow : ∀ p, p < m.read + rdk m.T m.read n.toNat → (PL.g m.T p).1 = true := fun p hp => by
    by_cases e : p < m.read
    · exact h.low p e
    · have := rdk_all m.T m.read n.toNat (p - m.read) (by omega)
      rw [show m.read + (p - m.read) = p by omega] at this; exact this
  have hrc := low_cnt m.T _ hlow
  have hcv := cnV_le ((m.read + rdk m.T m.read n.toNat : Nat) : Int) win m.told (by omega) (by omega) (by omega) (by omega) (by omega) (by omega) (by omega)
  dsimp only
  refine ⟨?_, ?_, hlow, ?_, by dsimp only; omega, ?_, ?_, h.fz⟩
  · dsimp only; split <;> omega
  · dsimp only
    generalize (if m.st = 2 ∧ ((m.read + rdk m.T m.read n.toNat : Nat) : Int) = m.final then 3 else m.st) = s2
    split <;> omega
  · dsimp only
    generalize (if m.st = 2 ∧ ((m.read + rdk m.T m.read n.toNat : Nat) : Int) = m.final then 3 else m.st) = s2
    split
    · exact hcv.2
    · omega
  · dsimp only; rw [hs]
    by_cases h2 : m.st = 2 ∧ ((m.read + rdk m.T m.read n.toNat : Nat) : Int) = m.final
    · rw [if_pos h2]; simp [h2.1]
    · rw [if_neg h2]
  · dsimp only; intro hsz
    have hf := h.fin hsz
    refine ⟨hf.1, ?_⟩
    generalize (if m.st = 2 ∧ ((m.read + rdk m.T m.read n.toNat : Nat) : Int) = m.final then 3 else m.st) = s2
    split
    · omega
    · exact hf.2
theorem mstep_inv {win i : Nat} {m : MS} (h : MI win i m) (hw : 1 ≤ win) (hw2 : win ≤ 16384) (hi : i ≤ 400) (o : SRecvOp) : MI win (i + 1) (mstep win m o).1 := by
  unfold mstep
  split
  · exact mdata_inv h _ _ _
  split
  · exact mreset_inv h _
  split
  · exact mread_inv h hw hw2 hi _
  · exact h.inc
theorem mrun_inv {win : Nat} (hw : 1 ≤ win) (hw2 : win ≤ 16384) (ops : List SRecvOp) : ∀ i, i ≤ 400 → MI win i (mrun win ops i).1
  | 0, _ => ⟨by show (0 : Nat) < 6; decide, by show (0 : Int) ≤ _; show (0 : Int) ≤ (win : Int); omega, fun p hp => by simp [mrun] at hp, by show (win : Int) ≤ 0 + win; omega, by simp [mrun], rfl, fun h => (by cases h), fun _ => rfl⟩
  | i + 1, hi => mstep_inv (mrun_inv hw hw2 ops i (by omega)) hw hw2 (by omega) _
theorem mrun_length (win : Nat) (ops : List SRecvOp) : ∀ i, (mrun win ops i).2.length = i
  | 0 => rfl
  | i + 1 => by show ((mrun win ops i).2 ++ _).length = _; rw [List.length_append, mrun_length win ops i]; rfl
theorem mrun_at (win : Nat) (ops : List SRecvOp) (j : Nat) : ∀ i, j < i → (mrun win ops i).2.getD j default = (mstep win (mrun win ops j).1 (ops.getD j default)).2
  | 0, h => by omega
  | i + 1, h => by
    show ((mrun win ops i).2 ++ [_]).getD j default = _
    by_cases e : j = i
    · subst e
      simp [List.getD, mrun_length]
    · have := mrun_at win ops j i (by omega)
      simp only [List.getD] at this ⊢
      rw [List.getElem?_append_left (by rw [mrun_length]; omega)]
      exact this
end Go.Proofs.YtpdclbfjngmppaaDoor

namespace Go.Proofs.YtpdclbfjngmppaaDoor
open Go.RowKit
set_option linter.unusedVariables false

theorem SI.zero : SI ⟨0, 0, 0, 0, false, [], []⟩ := ⟨rfl, by simp, by simp, fun p _ => by simp, fun p h => absurd h (Nat.not_lt_zero _), by simp, by simp, fun h => absurd rfl h, fun h => by simp at h, by simp⟩
theorem swrite_SI {m : SS} (h : SI m) (D : List Int) : SI (swrite m D).1 := by
  unfold swrite
  by_cases c : m.live = false ∨ m.finish = true
  · rw [if_pos c]; exact h
  rw [if_neg c]
  by_cases d : 65536 < m.B.length + D.length
  · rw [if_pos d]; exact h
  rw [if_neg d]
  have hf : m.finish = false := by cases q : m.finish; rfl; exact absurd (Or.inr q) c
  have hz : m.fin = 0 := Classical.byContradiction fun q => by have := (h.finF q).1; rw [hf] at this; exact absurd this (by decide)
  have ga : ∀ p, (m.W ++ List.replicate D.length 0).getD p 0 = m.W.getD p 0 := by
    intro p
    by_cases hp : p < m.W.length
    · simp [List.getD, List.getElem?_append_left hp]
    · simp only [List.getD, List.getElem?_append_right (Nat.le_of_not_lt hp), List.getElem?_eq_none (Nat.le_of_not_lt hp), List.getElem?_replicate]
      by_cases e : p - m.W.length < D.length <;> simp [e]
  refine ⟨by simp [h.len], by simp only [List.length_append]; omega, by simp only [List.length_append]; have := h.nx; omega, fun p hp => by simp only [ga]; exact h.new p hp, fun p hp => by simp only [ga]; exact h.old p hp, h.st, h.fin3, fun q => absurd hz q, h.sent, h.cr⟩
theorem sfinish_SI {m : SS} (h : SI m) : SI (sfinish m).1 := by
  unfold sfinish
  by_cases c : m.live = false ∨ m.finish = true
  · rw [if_pos c]; exact h
  rw [if_neg c]
  exact ⟨h.len, h.big, h.nx, h.new, h.old, h.st, h.fin3, fun q => ⟨rfl, (h.finF q).2⟩, fun _ => rfl, h.cr⟩
theorem scredit_SI {m : SS} (h : SI m) (n : Int) : SI (scredit m n).1 := by
  unfold scredit
  by_cases c : n < 0
  · rw [if_pos c]; exact h
  rw [if_neg c]
  exact ⟨h.len, h.big, h.nx, h.new, h.old, h.st, h.fin3, h.finF, h.sent, by have := h.cr; simp only []; omega⟩
/-- What is told of a piece. -/
theorem SI.lost_lt {m : SS} (h : SI m) {p : Nat} (e : m.W.getD p 0 = 3) : p < m.next := Classical.byContradiction fun q => by
  rw [h.new p (by omega)] at e; exact absurd e (by decide)
theorem spiece_ok {m : SS} (h : SI m) {n a b : Nat} (e : spiece m n = some (a, b)) : a ≤ b ∧ a ≤ m.next ∧ b ≤ m.B.length ∧ b ≤ a + n ∧ (b ≤ m.next ∨ a = m.next) ∧ (∀ p, a ≤ p → p < b → m.W.getD p 0 ≠ 2) := by
  unfold spiece at e
  by_cases c : fst3 m.W < m.W.length
  · rw [if_pos c] at e
    obtain ⟨rfl, rfl⟩ : fst3 m.W = a ∧ fst3 m.W + rdk (L3 m.W) (fst3 m.W) n = b := by simpa using e
    have h3 : ∀ i, i < rdk (L3 m.W) (fst3 m.W) n → m.W.getD (fst3 m.W + i) 0 = 3 := fun i hi => by
      have := rdk_all _ _ _ i hi; rw [L3_g] at this; simpa using this
    have ha := h.lost_lt (fst3_lost _ c)
    have hb : fst3 m.W + rdk (L3 m.W) (fst3 m.W) n ≤ m.next := by
      by_cases z : rdk (L3 m.W) (fst3 m.W) n = 0
      · omega
      · have := h.lost_lt (h3 (rdk (L3 m.W) (fst3 m.W) n - 1) (by omega)); omega
    refine ⟨by omega, by omega, by have := h.nx; omega, by have := rdk_le (L3 m.W) (fst3 m.W) n; omega, Or.inl hb, fun p h1 h2 => ?_⟩
    have := h3 (p - fst3 m.W) (by omega)
    rw [Nat.add_sub_cancel' h1] at this
    rw [this]; decide
  rw [if_neg c] at e
  by_cases d : (m.next : Int) < min m.credit m.B.length
  · rw [if_pos d] at e
    obtain ⟨rfl, rfl⟩ : m.next = a ∧ (min (min m.credit m.B.length) ((m.next + n : Nat) : Int)).toNat = b := by simpa using e
    have := h.nx
    refine ⟨by omega, by omega, by omega, by omega, Or.inr rfl, fun p h1 _ => by rw [h.new p h1]; decide⟩
  rw [if_neg d] at e
  by_cases g : m.finish = true ∧ m.next = m.B.length ∧ (m.fin = 0 ∨ m.fin = 3)
  · rw [if_pos g] at e
    obtain ⟨rfl, rfl⟩ : m.next = a ∧ m.next = b := by simpa using e
    have := h.nx
    exact ⟨by omega, by omega, by omega, by omega, Or.inr rfl, fun p h1 h2 => by omega⟩
  · rw [if_neg g] at e; exact absurd e (by simp)
theorem spull_SI {m : SS} (h : SI m) (n : Nat) : SI (spull m n).1 := by
  unfold spull
  by_cases c : m.live = false
  · rw [if_pos c]; exact h
  rw [if_neg c]
  cases e : spiece m n with
  | none => exact h
  | some ab =>
    obtain ⟨a, b⟩ := ab
    obtain ⟨h1, h2, h3, _, h5, h6⟩ := spiece_ok h e
    have hnx := h.nx
    have hat : ∀ p, p < m.W.length → (setN m.W a b 1).getD p 0 = if a ≤ p ∧ p < b then 1 else m.W.getD p 0 := by
      intro p hp
      rw [setN_at _ _ _ _ _ hp]
      by_cases q : a ≤ p ∧ p < b
      · rw [if_pos q, if_pos ⟨q.1, q.2, h6 p q.1 q.2⟩]
      · rw [if_neg q, if_neg (fun z => q ⟨z.1, z.2.1⟩)]
    have hlen := h.len
    refine ⟨by simp only [setN_length]; exact h.len, h.big, by simp only []; omega, fun p hp => ?_, fun p hp => ?_, ?_, ?_, fun q => ?_, fun q => ?_, h.cr⟩
    · simp only [] at hp ⊢
      by_cases l : p < m.W.length
      · rw [hat p l, if_neg (by omega)]; exact h.new p (by omega)
      · exact setN_out _ _ _ _ _ l
    · simp only [] at hp ⊢
      rw [hat p (by omega)]
      by_cases q : a ≤ p ∧ p < b
      · rw [if_pos q]; decide
      · rw [if_neg q]; exact h.old p (by omega)
    · simp only []
      have := h.st
      split
      · decide
      · split
        · decide
        · exact this
    · simp only []
      have := h.fin3
      split
      · decide
      · exact this
    · simp only [] at q ⊢
      by_cases f : (m.finish && decide (b = m.B.length) && decide (m.fin ≠ 2)) = true
      · simp only [Bool.and_eq_true, decide_eq_true_eq] at f
        exact ⟨f.1.1, by omega⟩
      · rw [if_neg f] at q
        have := h.finF q
        exact ⟨this.1, by omega⟩
    · simp only [] at q ⊢
      by_cases f : (m.finish && decide (b = m.B.length) && decide (m.fin ≠ 2)) = true
      · simp only [Bool.and_eq_true, decide_eq_true_eq] at f
        exact f.1.1
      · rw [if_neg f] at q
        by_cases z : m.st = 0
        · rw [if_pos z] at q; exact absurd q (by decide)
        · rw [if_neg z] at q; exact h.sent q
theorem shear_SI {m : SS} (h : SI m) (off n : Int) (fb : Bool) (how : Nat) (hh : how = 2 ∨ how = 3) : SI (shear m off n fb how).1 := by
  unfold shear
  by_cases c : off < 0 ∨ n < 0 ∨ (m.next : Int) - n < off ∨ (fb = true ∧ (m.fin = 0 ∨ off + n ≠ m.B.length))
  · rw [if_pos c]; exact h
  rw [if_neg c]
  by_cases d : m.live = false
  · rw [if_pos d]; exact h
  rw [if_neg d]
  have hlen := h.len
  have hnx := h.nx
  have hf : fb = true → m.fin ≠ 0 := fun q z => c (Or.inr (Or.inr (Or.inr ⟨q, Or.inl z⟩)))
  have hr : (off + n).toNat ≤ m.next := by omega
  refine ⟨by simp only [setN_length]; exact h.len, h.big, h.nx, fun p hp => ?_, fun p hp => ?_, ?_, ?_, fun q => ?_, fun q => ?_, h.cr⟩
  · simp only [] at hp ⊢
    by_cases l : p < m.W.length
    · rw [setN_at _ _ _ _ _ l, if_neg (by omega)]; exact h.new p hp
    · exact setN_out _ _ _ _ _ l
  · simp only [] at hp ⊢
    rw [setN_at _ _ _ _ _ (by omega)]
    split
    · omega
    · exact h.old p hp
  · simp only []
    have := h.st
    generalize (if fb = true ∧ m.fin ≠ 2 then how else m.fin) = f2
    split
    · decide
    · exact this
  · simp only []
    have := h.fin3
    split
    · omega
    · exact this
  · simp only [] at q ⊢
    by_cases f : fb = true ∧ m.fin ≠ 2
    · exact h.finF (hf f.1)
    · rw [if_neg f] at q; exact h.finF q
  · simp only [] at q ⊢
    generalize (if fb = true ∧ m.fin ≠ 2 then how else m.fin) = f2 at q
    split at q
    · exact absurd q (by decide)
    · exact h.sent q
theorem sstep_SI {m : SS} (h : SI m) (o : SSendOp) : SI (sstep m o).1 := by
  unfold sstep
  by_cases c1 : o.f0 = 1
  · rw [if_pos c1]; exact swrite_SI h _
  rw [if_neg c1]
  by_cases c2 : o.f0 = 2
  · rw [if_pos c2]; exact sfinish_SI h
  rw [if_neg c2]
  by_cases c3 : o.f0 = 3
  · rw [if_pos c3]; exact scredit_SI h _
  rw [if_neg c3]
  by_cases c4 : o.f0 = 4
  · rw [if_pos c4]
    by_cases d : o.f2 < 1 ∨ 1500 < o.f2
    · rw [if_pos d]; exact h
    · rw [if_neg d]; exact spull_SI h _
  rw [if_neg c4]
  by_cases c5 : o.f0 = 5
  · rw [if_pos c5]; exact shear_SI h _ _ _ _ (Or.inl rfl)
  rw [if_neg c5]
  by_cases c6 : o.f0 = 6
  · rw [if_pos c6]; exact shear_SI h _ _ _ _ (Or.inr rfl)
  rw [if_neg c6]
  by_cases c7 : o.f0 = 7
  · rw [if_pos c7]
    by_cases d : m.live = true
    · rw [if_pos d]
      exact ⟨h.len, h.big, h.nx, h.new, h.old, by simp only []; omega, h.fin3, h.finF, fun q => by simp at q, h.cr⟩
    · rw [if_neg d]; exact h
  rw [if_neg c7]
  by_cases c8 : o.f0 = 8
  · rw [if_pos c8]
    by_cases d : m.st = 4
    · rw [if_pos d]
      exact ⟨h.len, h.big, h.nx, h.new, h.old, by simp only []; omega, h.fin3, h.finF, fun q => by simp at q, h.cr⟩
    · rw [if_neg d]; exact h
  rw [if_neg c8]; exact h
theorem srun_SI (ops : List SSendOp) : ∀ i, SI (srun ops i).1
  | 0 => SI.zero
  | i + 1 => sstep_SI (srun_SI ops i) _
end Go.Proofs.YtpdclbfjngmppaaDoor
