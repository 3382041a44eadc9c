import Derived.Test.YtgifbpongpbjaaaDoorRmA
import Derived.Test.YtgifbpongpbjaaaDoorFbRecvOpB
import Derived.Test.YtgifbpongpbjaaaDoorFbRecvObsB
namespace Go.Proofs.YtgifbpongpbjaaaDoor
open Go.RowKit
set_option linter.unusedVariables false

theorem g_append (A B : PL) (i : Nat) : PL.g (A ++ B) i = if i < A.length then PL.g A i else PL.g B (i - A.length) := by
  by_cases h : i < A.length
  · rw [if_pos h]; simp [PL.g, List.getD, List.getElem?_append_left h]
  · rw [if_neg h]; simp [PL.g, List.getD, List.getElem?_append_right (show A.length ≤ i by omega)]
theorem g_take (A : PL) (n i : Nat) : PL.g (A.take n) i = if i < n then PL.g A i else (false, 0) := by
  by_cases h : i < n
  · rw [if_pos h]; simp [PL.g, List.getD, List.getElem?_take_of_lt h]
  · rw [if_neg h]; exact g_out _ _ (by simp; omega)
theorem g_drop (A : PL) (n i : Nat) : PL.g (A.drop n) i = PL.g A (n + i) := by simp [PL.g, List.getD]
theorem g_rep (n i : Nat) : PL.g (List.replicate n (false, 0)) i = (false, 0) := by
  simp only [PL.g, List.getD, List.getElem?_replicate]; split <;> rfl
theorem cpL_g (O L : PL) (q r m i : Nat) (hr : r + m ≤ L.length) (hq : q + m ≤ O.length) : PL.g (cpL O L q r m) i = if q ≤ i ∧ i < q + m then PL.g L (r + (i - q)) else PL.g O i := by
  unfold cpL
  rw [g_append, g_append, g_take, g_take, g_drop, g_drop]
  simp only [List.length_take, List.length_drop]
  by_cases h1 : i < q
  · rw [if_pos (by omega), if_pos h1, if_neg (by omega)]
  · rw [if_neg (by omega)]
    by_cases h2 : i < q + m
    · rw [if_pos (by omega), if_pos (by omega), if_pos (by omega)]
      congr 1; omega
    · rw [if_neg (by omega), if_neg (by omega)]
      congr 1; omega
theorem clL_g (L : PL) (r m i : Nat) (hr : r + m ≤ L.length) : PL.g (clL L r m) i = if r ≤ i ∧ i < r + m then (false, 0) else PL.g L i := by
  unfold clL
  rw [g_append, g_append, g_take, g_drop, g_rep]
  simp only [List.length_take, List.length_replicate]
  by_cases h1 : i < r
  · rw [if_pos (by omega), if_pos h1, if_neg (by omega)]
  · rw [if_neg (by omega)]
    by_cases h2 : i < r + m
    · rw [if_pos (by omega), if_pos (by omega)]
    · rw [if_neg (by omega), if_neg (by omega)]
      congr 1; omega
theorem shO_g (L : PL) (win first k i : Nat) (hL : L.length = win) (hw : 0 < win) (hk : k ≤ win) (hi : i < k) : PL.g (shO L (first % win) k (min k (win - first % win))) i = PL.g L ((first + i) % win) := by
  have hm := Nat.mod_lt first hw
  unfold shO
  rw [cpL_g _ _ _ _ _ _ (by omega) (by rw [cpL_length _ _ _ _ _ (by omega) (by simp; omega)]; simp; omega), cpL_g _ _ _ _ _ _ (by omega) (by simp; omega)]
  have e : (first + i) % win = (first % win + i) % win := (Nat.mod_add_mod first win i).symm
  by_cases h : i < min k (win - first % win)
  · rw [if_neg (by omega), if_pos (by omega), e, Nat.mod_eq_of_lt (show first % win + i < win by omega)]
    congr 1
  · rw [if_pos (by omega), e, Nat.mod_eq_sub_mod (show win ≤ first % win + i by omega), Nat.mod_eq_of_lt (show first % win + i - win < win by omega)]
    congr 1; omega
theorem shL_g (L : PL) (win first k q : Nat) (hL : L.length = win) (hw : 0 < win) (hk : k ≤ win) (hq : q < win) : PL.g (shL L (first % win) k (min k (win - first % win))) q = if (∃ i, i < k ∧ (first + i) % win = q) then (false, 0) else PL.g L q := by
  have hm := Nat.mod_lt first hw
  unfold shL
  rw [clL_g _ _ _ _ (by rw [clL_length _ _ _ (by omega)]; omega), clL_g _ _ _ _ (by omega)]
  have e : ∀ i, (first + i) % win = (first % win + i) % win := fun i => (Nat.mod_add_mod first win i).symm
  by_cases h1 : q < k - min k (win - first % win)
  · rw [if_pos (by omega), if_pos ⟨win - first % win + q, by omega, by rw [e, Nat.mod_eq_sub_mod (show win ≤ first % win + (win - first % win + q) by omega), Nat.mod_eq_of_lt (show first % win + (win - first % win + q) - win < win by omega)]; omega⟩]
  · rw [if_neg (by omega)]
    by_cases h2 : first % win ≤ q ∧ q < first % win + min k (win - first % win)
    · rw [if_pos h2, if_pos ⟨q - first % win, by omega, by rw [e, Nat.mod_eq_of_lt (show first % win + (q - first % win) < win by omega)]; omega⟩]
    · rw [if_neg h2, if_neg]
      rintro ⟨i, hi, he⟩
      rw [e] at he
      by_cases h3 : first % win + i < win
      · rw [Nat.mod_eq_of_lt h3] at he; omega
      · rw [Nat.mod_eq_sub_mod (show win ≤ first % win + i by omega), Nat.mod_eq_of_lt (show first % win + i - win < win by omega)] at he; omega
theorem shL_length (L : PL) (win first k : Nat) (hL : L.length = win) (hw : 0 < win) (hk : k ≤ win) : (shL L (first % win) k (min k (win - first % win))).length = win := by
  have hm := Nat.mod_lt first hw
  unfold shL
  rw [clL_length _ _ _ (by rw [clL_length _ _ _ (by omega)]; omega), clL_length _ _ _ (by omega), hL]
theorem RR.shift {win first k : Nat} {L T : PL} (h : RR win first L T) (hw : 0 < win) (hk : k ≤ win) (hT : T.length ≤ first + win) : RR win (first + k) (shL L (first % win) k (min k (win - first % win))) T := by
  refine ⟨shL_length L win first k h.1 hw hk, fun p hp hp2 => ?_⟩
  rw [shL_g L win first k (p % win) h.1 hw hk (Nat.mod_lt _ hw)]
  by_cases hlo : p < first + win
  · rw [if_neg]
    · exact h.2 p (by omega) hlo
    · rintro ⟨i, hi, he⟩
      exact mod_ne hw (show first ≤ first + i by omega) (by omega) (show first ≤ p by omega) hlo (by omega) he
  · rw [if_pos ⟨p - first - win, by omega, by rw [show p = (first + (p - first - win)) + win by omega, Nat.add_mod_right]; congr 1; omega⟩, g_out T p (by omega)]
    exact ⟨rfl, fun _ => rfl⟩
theorem shO_out {win first k : Nat} {L T : PL} (h : RR win first L T) (hw : 0 < win) (hk : k ≤ win) (hall : ∀ i, i < k → (PL.g T (first + i)).1 = true) (hkT : first + k ≤ T.length) :
    (shO L (first % win) k (min k (win - first % win))).map (·.2) = ((T.drop first).take k).map (·.2) := by
  have hm := Nat.mod_lt first hw
  have hl : (shO L (first % win) k (min k (win - first % win))).length = k := by
    unfold shO
    rw [cpL_length _ _ _ _ _ (by rw [h.1]; omega) (by rw [cpL_length _ _ _ _ _ (by rw [h.1]; omega) (by simp; omega)]; simp; omega), cpL_length _ _ _ _ _ (by rw [h.1]; omega) (by simp; omega)]
    simp
  apply List.ext_getElem (by simp [hl]; omega)
  intro i h1 h2
  simp only [List.getElem_map]
  rw [List.length_map, hl] at h1
  have e1 := shO_g L win first k i h.1 hw hk h1
  rw [g_in _ _ (by rw [hl]; exact h1)] at e1
  have e2 := (h.2 (first + i) (by omega) (by omega)).2 (hall i h1)
  rw [e1, e2, g_in T _ (by omega)]
  simp
theorem rdy_rdk {win first k : Nat} {L T : PL} {n : Int} (h : RR win first L T) (hT : T.length ≤ first + win) (hn : 1 ≤ n) (h1 : (k : Int) ≤ n) (h2 : k ≤ win) (h3 : ∀ i, i < k → (PL.g L ((first + i) % win)).1 = true) (h4 : (k : Int) = n ∨ k = win ∨ (PL.g L ((first + k) % win)).1 = false) : k = rdk T first n.toNat := by
  have h3' : ∀ i, i < k → (PL.g T (first + i)).1 = true := fun i hi => by rw [← (h.2 (first + i) (by omega) (by omega)).1]; exact h3 i hi
  refine rdk_uniq T first n.toNat k (by omega) h3' ?_
  by_cases hkn : (k : Int) = n
  · exact Or.inl (by omega)
  · right
    by_cases hkw : k = win
    · rw [g_out T _ (by omega)]
    · have := h4.resolve_left hkn |>.resolve_left hkw
      rw [← (h.2 (first + k) (by omega) (by omega)).1]; exact this
/-- The receiving part, by the document. -/
structure MS where
  st : Nat
  told : Int
  read : Nat
  sized : Bool
  final : Int
  T : PL
def wholeM (sized : Bool) (final : Int) (T : PL) : Bool := sized && decide (final ≤ (T.length : Int)) && (List.range final.toNat).all (fun i => (PL.g T i).1)
/-- What data does. -/
def mdata (m : MS) (off : Int) (D : List Int) (fb : Bool) : MS × Int :=
  if 1500 < D.length ∨ off < 0 ∨ 4611686018427387903 - (D.length : Int) < off then (m, 1)
  else if m.told < off + D.length then (m, 8)
  else if (m.sized = true ∧ (m.final < off + D.length ∨ (fb = true ∧ off + D.length ≠ m.final))) ∨ (fb = true ∧ off + D.length < m.T.length) then (m, 10)
  else if ¬ m.st < 2 then (m, 0)
  else
    let T2 := putF (pad m.T (off.toNat + D.length)) off.toNat D D.length
    let s2 := m.sized || fb
    let f2 := if fb then off + D.length else m.final
    ({ m with st := if wholeM s2 f2 T2 then 2 else if fb then 1 else m.st, sized := s2, final := f2, T := T2 }, 0)
def mreset (m : MS) (n : Int) : MS × Int :=
  if n < 0 ∨ 4611686018427387903 < n then (m, 1)
  else if m.told < n then (m, 8)
  else if (m.sized = true ∧ n ≠ m.final) ∨ n < m.T.length then (m, 10)
  else ({ m with st := if m.st < 2 then 4 else m.st, sized := true, final := n }, 0)
/-- The bytes that are read, the code, what is left. -/
def mread (win : Nat) (m : MS) (n : Int) : MS × List Int × Int :=
  if n < 1 then (m, [], 1)
  else if 4 ≤ m.st then ({ m with st := 5 }, [], 23)
  else
    let k := rdk m.T m.read n.toNat
    let s2 := if m.st = 2 ∧ ((m.read + k : Nat) : Int) = m.final then 3 else m.st
    ({ m with st := s2, read := m.read + k, told := if s2 = 0 then cnV ((m.read + k : Nat) : Int) win m.told else m.told }, ((m.T.drop m.read).take k).map (·.2), 0)
def mstep (win : Nat) (m : MS) (o : SRecvOp) : MS × SRecvObs :=
  if o.f0 = 1 then let r := mdata m o.f1 o.f3 o.f4; (r.1, ⟨r.2, r.1.st, r.1.told, [], false⟩)
  else if o.f0 = 2 then let r := mreset m o.f2; (r.1, ⟨r.2, r.1.st, r.1.told, [], false⟩)
  else if o.f0 = 3 then let r := mread win m o.f2; (r.1, ⟨r.2.2, r.1.st, r.1.told, r.2.1, decide (r.2.2 = 0 ∧ r.1.st = 3)⟩)
  else (m, ⟨1, m.st, m.told, [], false⟩)
def mrun (win : Nat) (ops : List SRecvOp) : Nat → MS × List SRecvObs
  | 0 => (⟨0, win, 0, false, 0, []⟩, [])
  | i + 1 => let r := mrun win ops i; let s := mstep win r.1 (ops.getD i default); (s.1, r.2 ++ [s.2])
/-- What holds of it behind i operations. -/
structure MI (win i : Nat) (m : MS) : Prop where
  st : m.st < 6
  toldT : (m.T.length : Int) ≤ m.told
  low : ∀ p, p < m.read → (PL.g m.T p).1 = true
  told : m.told ≤ (m.read : Int) + win
  cnt : cnt m.T ≤ 1500 * i
  szd : m.sized = decide (m.st ≠ 0)
  fin : m.sized = true → (m.T.length : Int) ≤ m.final ∧ m.final ≤ m.told
  fz : m.sized = false → m.final = 0
theorem low_cnt (T : PL) : ∀ a, (∀ p, p < a → (PL.g T p).1 = true) → a ≤ cnt T := by
  induction T with
  | nil =>
    intro a h
    rcases Nat.eq_zero_or_pos a with e | e
    · omega
    · have := h 0 e; simp [PL.g] at this
  | cons x r ih =>
    intro a h
    rcases Nat.eq_zero_or_pos a with e | e
    · omega
    · have h0 : x.1 = true := by have := h 0 e; simpa [PL.g] using this
      have := ih (a - 1) (fun p hp => by have := h (p + 1) (by omega); simpa [PL.g] using this)
      simp only [Go.Proofs.YtgifbpongpbjaaaDoor.cnt, List.countP_cons, h0] at this ⊢
      simp; omega
theorem MI.read {win i : Nat} {m : MS} (h : MI win i m) : m.read ≤ Go.Proofs.YtgifbpongpbjaaaDoor.cnt m.T ∧ m.read ≤ m.T.length := by
  have h1 := low_cnt m.T m.read h.low
  have h2 : Go.Proofs.YtgifbpongpbjaaaDoor.cnt m.T ≤ m.T.length := List.countP_le_length
  exact ⟨h1, by omega⟩
end Go.Proofs.YtgifbpongpbjaaaDoor
