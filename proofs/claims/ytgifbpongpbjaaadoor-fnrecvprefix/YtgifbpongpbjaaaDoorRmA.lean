import Derived.Test.YtgifbpongpbjaaaDoorStJ
import Derived.Test.YtgifbpongpbjaaaDoorCreditNextLaw
namespace Go.Proofs.YtgifbpongpbjaaaDoor
open Go.RowKit
set_option linter.unusedVariables false

/-- The places of a stream, which have come and what. -/
abbrev PL := List (Bool × Int)
abbrev PL.g (T : PL) (p : Nat) : Bool × Int := T.getD p (false, 0)
def pad (T : PL) (e : Nat) : PL := T ++ List.replicate (e - T.length) (false, 0)
def put1 (T : PL) (p : Nat) (v : Int) : PL := if (PL.g T p).1 then T else T.set p (true, v)
def putF (T : PL) (off : Nat) (D : List Int) : Nat → PL
  | 0 => T
  | i + 1 => put1 (putF T off D i) (off + i) (D.getD i 0)
abbrev cnt (T : PL) : Nat := T.countP (·.1)
theorem g_out (T : PL) (p : Nat) (h : T.length ≤ p) : PL.g T p = (false, 0) := by simp [PL.g, List.getD, List.getElem?_eq_none h]
theorem g_in (T : PL) (p : Nat) (h : p < T.length) : PL.g T p = T[p] := by simp [PL.g, List.getD, h]
theorem g_set (T : PL) (p q : Nat) (x : Bool × Int) (h : p < T.length) : PL.g (T.set p x) q = if q = p then x else PL.g T q := by
  simp only [PL.g, List.getD, List.getElem?_set]
  by_cases e : p = q
  · subst e; simp [h]
  · rw [if_neg e, if_neg (fun x => e x.symm)]
theorem pad_length (T : PL) (e : Nat) : (pad T e).length = max T.length e := by simp [pad]; omega
theorem pad_g (T : PL) (e p : Nat) : PL.g (pad T e) p = PL.g T p := by
  by_cases h : p < T.length
  · simp [PL.g, pad, List.getD, List.getElem?_append_left h]
  · rw [g_out T p (by omega)]
    simp only [PL.g, pad, List.getD, List.getElem?_append_right (show T.length ≤ p by omega), List.getElem?_replicate]
    split <;> rfl
theorem pad_cnt (T : PL) (e : Nat) : cnt (pad T e) = cnt T := by simp [cnt, pad, List.countP_append, List.countP_replicate]
theorem put1_length (T : PL) (p : Nat) (v : Int) : (put1 T p v).length = T.length := by unfold put1; split <;> simp
theorem putF_length (T : PL) (off : Nat) (D : List Int) : ∀ i, (putF T off D i).length = T.length
  | 0 => rfl
  | i + 1 => by unfold putF; rw [put1_length, putF_length T off D i]
theorem put1_cnt (T : PL) (p : Nat) (v : Int) (h : p < T.length) (h2 : (PL.g T p).1 = false) : cnt (put1 T p v) = cnt T + 1 := by
  unfold put1 cnt
  rw [h2, if_neg (by simp), List.countP_set h]
  rw [g_in T p h] at h2
  simp [h2]
theorem put1_le (T : PL) (p : Nat) (v : Int) : cnt (put1 T p v) ≤ cnt T + 1 := by
  by_cases h2 : (PL.g T p).1 = true
  · unfold put1; rw [if_pos h2]; omega
  · have h2' : (PL.g T p).1 = false := by simpa using h2
    by_cases h : p < T.length
    · rw [put1_cnt T p v h h2']; omega
    · unfold put1; rw [if_neg h2, List.set_eq_of_length_le (by omega)]; omega
theorem putF_le (T : PL) (off : Nat) (D : List Int) : ∀ i, cnt (putF T off D i) ≤ cnt T + i
  | 0 => Nat.le_refl _
  | i + 1 => by
    have h1 := putF_le T off D i
    have h2 := put1_le (putF T off D i) (off + i) (D.getD i 0)
    show cnt (put1 (putF T off D i) (off + i) (D.getD i 0)) ≤ _
    omega
theorem put1_keeps (T : PL) (p q : Nat) (v : Int) (h : (PL.g T q).1 = true) : PL.g (put1 T p v) q = PL.g T q := by
  unfold put1
  by_cases e : (PL.g T p).1 = true
  · rw [if_pos e]
  · rw [if_neg e]
    by_cases hp : p < T.length
    · rw [g_set T p q _ hp, if_neg (fun x => e (by rw [← x]; exact h))]
    · rw [List.set_eq_of_length_le (by omega)]
theorem putF_keeps (T : PL) (off : Nat) (D : List Int) (q : Nat) (h : (PL.g T q).1 = true) : ∀ i, PL.g (putF T off D i) q = PL.g T q
  | 0 => rfl
  | i + 1 => by
    have h1 := putF_keeps T off D q h i
    show PL.g (put1 (putF T off D i) (off + i) (D.getD i 0)) q = _
    rw [put1_keeps _ _ _ _ (by rw [h1]; exact h), h1]
/-- The ring holds the places of the window. -/
def RR (win first : Nat) (L T : PL) : Prop :=
  L.length = win ∧ ∀ p, first ≤ p → p < first + win → (PL.g L (p % win)).1 = (PL.g T p).1 ∧ ((PL.g T p).1 = true → (PL.g L (p % win)).2 = (PL.g T p).2)
theorem mod_ne {p q first win : Nat} (hw : 0 < win) (hp : first ≤ p) (hp2 : p < first + win) (hq : first ≤ q) (hq2 : q < first + win) (h : p ≠ q) : p % win ≠ q % win := by
  intro e
  have h1 := Nat.div_add_mod p win
  have h2 := Nat.div_add_mod q win
  rw [e] at h1
  rcases Nat.lt_trichotomy (p / win) (q / win) with h3 | h3 | h3
  · have := Nat.mul_le_mul_left win (show p / win + 1 ≤ q / win from h3)
    rw [Nat.mul_add, Nat.mul_one] at this
    omega
  · rw [h3] at h1; omega
  · have := Nat.mul_le_mul_left win (show q / win + 1 ≤ p / win from h3)
    rw [Nat.mul_add, Nat.mul_one] at this
    omega
theorem keep_one (win first : Nat) (L T : PL) (pl : Nat) (v : Int) (hw : 0 < win) (h : RR win first L T) (hlow : ∀ p, p < first → (PL.g T p).1 = true) (hpl : pl < first + win) (hT : pl < T.length) :
    (kst first win (L, cnt T) pl v).2 = cnt (put1 T pl v) ∧ RR win first (kst first win (L, cnt T) pl v).1 (put1 T pl v) := by
  unfold kst
  by_cases h1 : pl < first
  · rw [if_pos h1]
    have : put1 T pl v = T := by unfold put1; rw [if_pos (hlow pl h1)]
    rw [this]; exact ⟨rfl, h⟩
  · rw [if_neg h1]
    have hr := h.2 pl (by omega) hpl
    by_cases h2 : (PL.g T pl).1 = true
    · have e : ((L, cnt T).1.getD (pl % win) (false, 0)).1 = true := by show (PL.g L (pl % win)).1 = true; rw [hr.1]; exact h2
      rw [if_pos e]
      have : put1 T pl v = T := by unfold put1; rw [if_pos h2]
      rw [this]; exact ⟨rfl, h⟩
    · have h2' : (PL.g T pl).1 = false := by simpa using h2
      have e : ¬ ((L, cnt T).1.getD (pl % win) (false, 0)).1 = true := by show ¬ (PL.g L (pl % win)).1 = true; rw [hr.1]; exact h2
      rw [if_neg e]
      refine ⟨(put1_cnt T pl v hT h2').symm, by simp [h.1], fun p hp hp2 => ?_⟩
      have hm : pl % win < L.length := by rw [h.1]; exact Nat.mod_lt _ hw
      have e2 : put1 T pl v = T.set pl (true, v) := by unfold put1; rw [if_neg h2]
      rw [e2, g_set T pl p _ hT]
      show (PL.g (L.set (pl % win) (true, v)) (p % win)).1 = _ ∧ _
      rw [g_set L _ _ _ hm]
      by_cases e3 : p = pl
      · subst e3; rw [if_pos rfl, if_pos rfl]; exact ⟨rfl, fun _ => rfl⟩
      · rw [if_neg e3, if_neg (mod_ne hw hp hp2 (by omega) hpl e3)]
        exact h.2 p hp hp2
theorem keep_all (win first off n : Nat) (D : List Int) (L T : PL) (hw : 0 < win) (h : RR win first L T) (hlow : ∀ p, p < first → (PL.g T p).1 = true) (hpl : off + n ≤ first + win) (hT : off + n ≤ T.length) : ∀ i, i ≤ n →
    (kfo first win off D (L, cnt T) i).2 = cnt (putF T off D i) ∧ RR win first (kfo first win off D (L, cnt T) i).1 (putF T off D i)
  | 0, _ => ⟨rfl, h⟩
  | i + 1, hi => by
    obtain ⟨h1, h2⟩ := keep_all win first off n D L T hw h hlow hpl hT i (by omega)
    have e : kfo first win off D (L, cnt T) i = ((kfo first win off D (L, cnt T) i).1, cnt (putF T off D i)) := by rw [← h1]
    have := keep_one win first _ _ (off + i) (D.getD i 0) hw h2 (fun p hp => by rw [putF_keeps T off D p (hlow p hp) i]; exact hlow p hp) (by omega) (by rw [putF_length]; omega)
    show (kst first win (kfo first win off D (L, cnt T) i) (off + i) (D.getD i 0)).2 = _ ∧ RR win first (kst first win (kfo first win off D (L, cnt T) i) (off + i) (D.getD i 0)).1 _
    rw [e]
    exact this
theorem RR.pad {win first : Nat} {L T : PL} (h : RR win first L T) (e : Nat) : RR win first L (pad T e) := ⟨h.1, fun p hp hp2 => by rw [pad_g]; exact h.2 p hp hp2⟩
/-- How many places lie ready from a on, at most n of them. -/
def rdk (T : PL) (a : Nat) : Nat → Nat
  | 0 => 0
  | n + 1 => if (PL.g T (a + rdk T a n)).1 = true ∧ rdk T a n = n then n + 1 else rdk T a n
theorem rdk_le (T : PL) (a : Nat) : ∀ n, rdk T a n ≤ n
  | 0 => Nat.le_refl _
  | n + 1 => by unfold rdk; have := rdk_le T a n; split <;> omega
theorem rdk_all (T : PL) (a : Nat) : ∀ n i, i < rdk T a n → (PL.g T (a + i)).1 = true
  | 0, i, h => by simp [rdk] at h
  | n + 1, i, h => by
    unfold rdk at h
    split at h
    · rename_i h2
      by_cases e : i = n
      · subst e; rw [← h2.2]; rw [h2.2]; have := h2.1; rw [h2.2] at this; exact this
      · exact rdk_all T a n i (by have := h2.2; omega)
    · exact rdk_all T a n i h
theorem rdk_end (T : PL) (a : Nat) : ∀ n, rdk T a n = n ∨ (PL.g T (a + rdk T a n)).1 = false
  | 0 => Or.inl rfl
  | n + 1 => by
    unfold rdk
    by_cases h : (PL.g T (a + rdk T a n)).1 = true ∧ rdk T a n = n
    · rw [if_pos h]; exact Or.inl rfl
    · rw [if_neg h]
      rcases rdk_end T a n with h1 | h1
      · right
        by_cases h2 : (PL.g T (a + rdk T a n)).1 = true
        · exact absurd ⟨h2, h1⟩ h
        · simpa using h2
      · exact Or.inr h1
theorem rdk_uniq (T : PL) (a n k : Nat) (h1 : k ≤ n) (h2 : ∀ i, i < k → (PL.g T (a + i)).1 = true) (h3 : k = n ∨ (PL.g T (a + k)).1 = false) : k = rdk T a n := by
  have a1 := rdk_le T a n
  have a2 := rdk_all T a n
  have a3 := rdk_end T a n
  rcases Nat.lt_trichotomy k (rdk T a n) with h | h | h
  · rcases h3 with e | e
    · omega
    · have := a2 k h; rw [e] at this; cases this
  · exact h
  · rcases a3 with e | e
    · omega
    · have := h2 _ h; rw [e] at this; cases this
end Go.Proofs.YtgifbpongpbjaaaDoor
