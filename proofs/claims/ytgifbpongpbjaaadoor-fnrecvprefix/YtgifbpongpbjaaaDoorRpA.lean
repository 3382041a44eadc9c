import Derived.Test.YtgifbpongpbjaaaDoorRmC
namespace Go.Proofs.YtgifbpongpbjaaaDoor
open Go.RowKit
set_option linter.unusedVariables false

/-! FnRecvPrefix: what its operations do to a receiving part. -/
/-- Where a text of N bytes is cut, so far. -/
structure CutsI (C : List Int) (N : Nat) : Prop where
  len : 1 ≤ C.length
  z : C.getD 0 0 = 0
  up : ∀ j, j + 1 < C.length → C.getD j 0 < C.getD (j + 1) 0 ∧ C.getD (j + 1) 0 ≤ C.getD j 0 + 40
  le : ∀ j, j < C.length → (j : Int) ≤ C.getD j 0 ∧ C.getD j 0 ≤ N
theorem getD_snoc {α : Type} (L : List α) (x d : α) (j : Nat) : (L ++ [x]).getD j d = if j < L.length then L.getD j d else if j = L.length then x else d := by
  by_cases h : j < L.length
  · rw [if_pos h]; simp [List.getD, List.getElem?_append_left h]
  · rw [if_neg h]
    by_cases e : j = L.length
    · rw [if_pos e, e]; simp [List.getD]
    · rw [if_neg e]
      simp only [List.getD]
      rw [List.getElem?_eq_none (by simp; omega)]; rfl
theorem cuts0 (N : Nat) : CutsI [0] N := ⟨by simp, rfl, fun j hj => by simp at hj, fun j hj => by
  have : j = 0 := by simp at hj; exact hj
  subst this; simp⟩
theorem CutsI.next {C : List Int} {N : Nat} (h : CutsI C N) (a : Int) (ha : 0 ≤ a) (ha2 : a < 40) (hl : C.getD (C.length - 1) 0 < N) : CutsI (C ++ [min (N : Int) (C.getD (C.length - 1) 0 + 1 + a)]) N := by
  have h1 := h.len
  have h2 := h.le (C.length - 1) (by omega)
  refine ⟨by simp, ?_, fun j hj => ?_, fun j hj => ?_⟩
  · rw [getD_snoc, if_pos (by omega)]; exact h.z
  · rw [List.length_append, List.length_singleton] at hj
    rw [getD_snoc, getD_snoc]
    by_cases e : j + 1 < C.length
    · rw [if_pos (by omega), if_pos e]; exact h.up j e
    · rw [if_pos (by omega), if_neg e, if_pos (by omega)]
      rw [show j = C.length - 1 by omega]
      omega
  · rw [List.length_append, List.length_singleton] at hj
    rw [getD_snoc]
    by_cases e : j < C.length
    · rw [if_pos e]; exact h.le j e
    · rw [if_neg e, if_pos (by omega)]
      omega
theorem CutsI.length {C : List Int} {N : Nat} (h : CutsI C N) : C.length ≤ N + 1 := by
  have := h.len
  have := h.le (C.length - 1) (by omega)
  omega
/-- A piece of the text, as an operation; a read. -/
def pcO (C X : List Int) (k : Nat) : SRecvOp := ⟨1, C.getD k 0, 0, (X.drop (C.getD k 0).toNat).take ((C.getD (k + 1) 0).toNat - (C.getD k 0).toNat), decide (k + 2 = C.length)⟩
def rdO (n : Int) : SRecvOp := ⟨3, 0, n, [], false⟩
/-- Which piece comes in round i. -/
def kkV (n a i : Nat) : Nat := if i < n then (if n % 7 = 0 then n - 1 - i else (i * 7 + a) % n) else i % n
theorem kkV_lt (n a i : Nat) (hn : 0 < n) : kkV n a i < n := by
  unfold kkV
  split
  · split
    · omega
    · exact Nat.mod_lt _ hn
  · exact Nat.mod_lt _ hn
theorem seven (r q : Nat) (hr : r < 7) (h0 : r ≠ 0) (hq : q < 7) : ∃ t, t < 7 ∧ (q + t * r) % 7 = 0 := by
  have : ∀ r : Fin 7, r.val ≠ 0 → ∀ q : Fin 7, ∃ t : Fin 7, (q.val + t.val * r.val) % 7 = 0 := by decide
  obtain ⟨t, ht⟩ := this ⟨r, hr⟩ h0 ⟨q, hq⟩
  exact ⟨t.val, t.isLt, ht⟩
theorem kkV_all (n a k : Nat) (hk : k < n) : ∃ i, i < n ∧ kkV n a i = k := by
  by_cases h7 : n % 7 = 0
  · refine ⟨n - 1 - k, by omega, ?_⟩
    unfold kkV; rw [if_pos (by omega), if_pos h7]; omega
  · obtain ⟨q, hq, eq⟩ : ∃ q, q < n ∧ (q + a) % n = k := by
      have ham := Nat.mod_lt a (show 0 < n by omega)
      by_cases c : a % n ≤ k
      · refine ⟨k - a % n, by omega, ?_⟩
        rw [Nat.add_mod, Nat.mod_eq_of_lt (show k - a % n < n by omega), show k - a % n + a % n = k by omega, Nat.mod_eq_of_lt hk]
      · refine ⟨n + k - a % n, by omega, ?_⟩
        rw [Nat.add_mod, Nat.mod_eq_of_lt (show n + k - a % n < n by omega), show n + k - a % n + a % n = k + n by omega, Nat.add_mod_right, Nat.mod_eq_of_lt hk]
    obtain ⟨t, ht, et⟩ := seven (n % 7) (q % 7) (by omega) h7 (by omega)
    have e7 : (q + t * n) % 7 = 0 := by rw [Nat.add_mod, Nat.mul_mod]; rw [Nat.add_mod, Nat.mul_mod, Nat.mod_mod, Nat.mod_mod] at et; exact et
    have hb : t * n ≤ 6 * n := Nat.mul_le_mul_right n (by omega)
    refine ⟨(q + t * n) / 7, by omega, ?_⟩
    have e8 : (q + t * n) / 7 * 7 = q + t * n := by omega
    unfold kkV
    rw [if_pos (by omega), if_neg h7, e8, show q + t * n + a = (q + a) + n * t by rw [Nat.mul_comm n t]; omega, Nat.add_mul_mod_self_left]
    exact eq
/-- The operations so far. -/
structure OpsI (C X : List Int) (n a i : Nat) (R : List SRecvOp) : Prop where
  each : ∀ j, j < R.length → (∃ k, k < n ∧ R.getD j default = pcO C X k) ∨ (∃ r : Int, 1 ≤ r ∧ R.getD j default = rdO r)
  has : ∀ i', i' < i → ∃ j, j < R.length ∧ R.getD j default = pcO C X (kkV n a i')
theorem ops0 (C X : List Int) (n a : Nat) : OpsI C X n a 0 [] := ⟨fun j hj => by simp at hj, fun i hi => by omega⟩
theorem OpsI.read {C X : List Int} {n a i : Nat} {R : List SRecvOp} (h : OpsI C X n a i R) (r : Int) (hr : 1 ≤ r) : OpsI C X n a i (R ++ [rdO r]) := by
  refine ⟨fun j hj => ?_, fun i' hi => ?_⟩
  · rw [List.length_append, List.length_singleton] at hj
    rw [getD_snoc]
    by_cases e : j < R.length
    · rw [if_pos e]; exact h.each j e
    · rw [if_neg e, if_pos (by omega)]; exact Or.inr ⟨r, hr, rfl⟩
  · obtain ⟨j, hj, ej⟩ := h.has i' hi
    exact ⟨j, by simp; omega, by rw [getD_snoc, if_pos hj]; exact ej⟩
theorem OpsI.piece {C X : List Int} {n a i : Nat} {R : List SRecvOp} (h : OpsI C X n a i R) (hn : 0 < n) : OpsI C X n a (i + 1) (R ++ [pcO C X (kkV n a i)]) := by
  refine ⟨fun j hj => ?_, fun i' hi => ?_⟩
  · rw [List.length_append, List.length_singleton] at hj
    rw [getD_snoc]
    by_cases e : j < R.length
    · rw [if_pos e]; exact h.each j e
    · rw [if_neg e, if_pos (by omega)]; exact Or.inl ⟨_, kkV_lt n a i hn, rfl⟩
  · by_cases e : i' = i
    · subst e
      exact ⟨R.length, by simp, by rw [getD_snoc, if_neg (by omega), if_pos rfl]⟩
    · obtain ⟨j, hj, ej⟩ := h.has i' (by omega)
      exact ⟨j, by simp; omega, by rw [getD_snoc, if_pos hj]; exact ej⟩

/-! The places behind data. -/
theorem put1_g (T : PL) (p q : Nat) (v : Int) (hp : p < T.length) : PL.g (put1 T p v) q = if q = p ∧ (PL.g T p).1 = false then (true, v) else PL.g T q := by
  unfold put1
  by_cases h : (PL.g T p).1 = true
  · rw [if_pos h, if_neg (by rw [h]; simp)]
  · have h' : (PL.g T p).1 = false := by simpa using h
    rw [if_neg h, g_set T p q _ hp]
    by_cases e : q = p
    · rw [if_pos e, if_pos ⟨e, h'⟩]
    · rw [if_neg e, if_neg (fun x => e x.1)]
theorem putF_g (T : PL) (off : Nat) (D : List Int) (q : Nat) : ∀ i, off + i ≤ T.length → PL.g (putF T off D i) q = if off ≤ q ∧ q < off + i ∧ (PL.g T q).1 = false then (true, D.getD (q - off) 0) else PL.g T q
  | 0, _ => by rw [if_neg (by omega)]; rfl
  | i + 1, hi => by
    have ih := putF_g T off D q i (by omega)
    show PL.g (put1 (putF T off D i) (off + i) (D.getD i 0)) q = _
    rw [put1_g _ _ _ _ (by rw [putF_length]; omega)]
    by_cases e : q = off + i
    · subst e
      have e1 : PL.g (putF T off D i) (off + i) = PL.g T (off + i) := by rw [ih, if_neg (by omega)]
      rw [e1]
      by_cases f : (PL.g T (off + i)).1 = false
      · rw [if_pos ⟨rfl, f⟩, if_pos ⟨by omega, by omega, f⟩, Nat.add_sub_cancel_left]
      · rw [if_neg (fun x => f x.2), if_neg (fun x => f x.2.2)]
    · rw [if_neg (fun x => e x.1), ih]
      by_cases c : off ≤ q ∧ q < off + i ∧ (PL.g T q).1 = false
      · rw [if_pos c, if_pos ⟨c.1, by omega, c.2.2⟩]
      · rw [if_neg c, if_neg (fun x => c ⟨x.1, by omega, x.2.2⟩)]
theorem all_there (T : PL) (f : Int) : (wholeM true f T = true) ↔ f ≤ (T.length : Int) ∧ ∀ p, p < f.toNat → (PL.g T p).1 = true := by
  unfold wholeM
  simp only [Bool.true_and, Bool.and_eq_true, decide_eq_true_eq, List.all_eq_true, List.mem_range]
/-- What holds of the part while pieces of X come. -/
structure PrI (X : List Int) (m : MS) : Prop where
  st : m.st ≤ 3
  told : 1000 ≤ m.told
  tl : m.T.length ≤ X.length
  val : ∀ p, (PL.g m.T p).1 = true → (PL.g m.T p).2 = X.getD p 0
  fin : m.sized = true → m.final = X.length
  nw : m.st < 2 → wholeM m.sized m.final m.T = false
  full : 2 ≤ m.st → m.sized = true ∧ ∀ p, p < X.length → (PL.g m.T p).1 = true
  rd : m.st = 3 → m.read = X.length
/-- One operation: nothing goes away. -/
structure PrS (X : List Int) (m m' : MS) (o : SRecvObs) : Prop where
  pi : PrI X m'
  code : o.f0 = 0
  sto : o.f1 = m'.st
  tol : o.f2 = m'.told
  told : m.told ≤ m'.told
  rle : m.read ≤ m'.read
  rd : X.take m'.read = X.take m.read ++ o.f3
  e : o.f4 = true → m'.read = X.length
  keep : ∀ p, (PL.g m.T p).1 = true → (PL.g m'.T p).1 = true
  sz : m.sized = true → m'.sized = true
theorem pc_len (C X : List Int) (N k : Nat) (hX : X.length = N) (h : CutsI C N) (hk : k + 1 < C.length) : (pcO C X k).f3.length = (C.getD (k + 1) 0).toNat - (C.getD k 0).toNat ∧ (C.getD k 0).toNat + (pcO C X k).f3.length = (C.getD (k + 1) 0).toNat ∧ (pcO C X k).f3.length ≤ 40 := by
  have h1 := h.up k hk
  have h2 := h.le (k + 1) hk
  have h3 := h.le k (by omega)
  have e : (pcO C X k).f3.length = (C.getD (k + 1) 0).toNat - (C.getD k 0).toNat := by
    show ((X.drop _).take _).length = _
    simp only [List.length_take, List.length_drop]; omega
  omega
theorem take_drop_getD (X : List Int) (a b q : Nat) (h : q < b) : ((X.drop a).take b).getD q 0 = X.getD (a + q) 0 := by
  simp only [List.getD]
  rw [List.getElem?_take_of_lt h, List.getElem?_drop]
theorem pc_at (C X : List Int) (N k q : Nat) (hX : X.length = N) (h : CutsI C N) (hk : k + 1 < C.length) (hq : q < (pcO C X k).f3.length) : (pcO C X k).f3.getD q 0 = X.getD ((C.getD k 0).toNat + q) 0 := by
  have h1 := pc_len C X N k hX h hk
  exact take_drop_getD X _ _ q (by omega)
theorem data_pr (C X : List Int) (N n k : Nat) (m : MS) (hX : X.length = N) (hN : N ≤ 604) (h : CutsI C N) (hn : C.length = n + 1) (he : C.getD n 0 = N) (hk : k < n) (I : PrI X m) :
    PrS X m (mstep 1000 m (pcO C X k)).1 (mstep 1000 m (pcO C X k)).2 ∧ (∀ p, (C.getD k 0).toNat ≤ p → p < (C.getD (k + 1) 0).toNat → (PL.g (mstep 1000 m (pcO C X k)).1.T p).1 = true) ∧ (k + 1 = n → (mstep 1000 m (pcO C X k)).1.sized = true) := by
  have hk1 : k + 1 < C.length := by omega
  have l0 := pc_len C X N k hX h hk1
  have l1 := h.le k (by omega)
  have l2 := h.le (k + 1) hk1
  have hat := fun q => pc_at C X N k q hX h hk1
  have hfb : (pcO C X k).f4 = true → C.getD (k + 1) 0 = N := fun e => by
    have : k + 2 = C.length := by simpa [pcO] using e
    rw [show k + 1 = n by omega]; exact he
  have hfb2 : k + 1 = n → (pcO C X k).f4 = true := fun e => by show decide (k + 2 = C.length) = true; rw [decide_eq_true_eq]; omega
  have e1 : mstep 1000 m (pcO C X k) = ((mdata m (C.getD k 0) (pcO C X k).f3 (pcO C X k).f4).1, ⟨(mdata m (C.getD k 0) (pcO C X k).f3 (pcO C X k).f4).2, (mdata m (C.getD k 0) (pcO C X k).f3 (pcO C X k).f4).1.st, (mdata m (C.getD k 0) (pcO C X k).f3 (pcO C X k).f4).1.told, [], false⟩) := rfl
  rw [e1]
  generalize (pcO C X k).f3 = D at *
  generalize (pcO C X k).f4 = fb at *
  obtain ⟨of, eo⟩ : ∃ of : Nat, C.getD k 0 = (of : Int) := ⟨(C.getD k 0).toNat, by omega⟩
  obtain ⟨en, ee⟩ : ∃ en : Nat, C.getD (k + 1) 0 = (en : Int) := ⟨(C.getD (k + 1) 0).toNat, by omega⟩
  have eo' : (C.getD k 0).toNat = of := by omega
  have ee' : (C.getD (k + 1) 0).toNat = en := by omega
  rw [eo', ee'] at l0 ⊢
  rw [eo]
  simp only [eo'] at hat
  have ht := I.told
  have htl := I.tl
  have g1 : ¬ (1500 < D.length ∨ (of : Int) < 0 ∨ 4611686018427387903 - (D.length : Int) < (of : Int)) := by omega
  have g2 : ¬ m.told < (of : Int) + D.length := by omega
  have g3 : ¬ ((m.sized = true ∧ (m.final < (of : Int) + D.length ∨ (fb = true ∧ (of : Int) + D.length ≠ m.final))) ∨ (fb = true ∧ (of : Int) + D.length < m.T.length)) := by
    rintro (⟨hs, hq⟩ | ⟨hf, hq⟩)
    · have := I.fin hs
      rcases hq with hq | ⟨hf, hq⟩
      · omega
      · have := hfb hf; omega
    · have := hfb hf; omega
  by_cases g4 : ¬ m.st < 2
  · have em : mdata m (of : Int) D fb = (m, 0) := by unfold mdata; rw [if_neg g1, if_neg g2, if_neg g3, if_pos g4]
    rw [em]
    have hf := I.full (by omega)
    exact ⟨⟨I, rfl, rfl, rfl, Int.le_refl _, Nat.le_refl _, by simp, fun e => by simp at e, fun p hp => hp, fun hs => hs⟩, fun p hp hp2 => hf.2 p (by omega), fun _ => hf.1⟩
  · have g4' : m.st < 2 := Decidable.not_not.1 g4
    obtain ⟨T2, eT⟩ : ∃ T2, T2 = putF (pad m.T (of + D.length)) of D D.length := ⟨_, rfl⟩
    have em : mdata m (of : Int) D fb = ({ m with st := if wholeM (m.sized || fb) (if fb then (of : Int) + D.length else m.final) T2 then 2 else if fb then 1 else m.st, sized := m.sized || fb, final := if fb then (of : Int) + D.length else m.final, T := T2 }, 0) := by
      unfold mdata; rw [if_neg g1, if_neg g2, if_neg g3, if_neg g4, eT]; rfl
    rw [em]
    have hg : ∀ p, PL.g T2 p = if of ≤ p ∧ p < of + D.length ∧ (PL.g m.T p).1 = false then (true, D.getD (p - of) 0) else PL.g m.T p := fun p => by
      rw [eT, putF_g _ _ _ _ _ (by rw [pad_length]; omega), pad_g]
    have hl : T2.length = max m.T.length (of + D.length) := by rw [eT, putF_length, pad_length]
    have hkeep : ∀ p, (PL.g m.T p).1 = true → (PL.g T2 p).1 = true := fun p hp => by
      rw [hg]; split
      · rfl
      · exact hp
    have hin : ∀ p, of ≤ p → p < en → (PL.g T2 p).1 = true := fun p hp hp2 => by
      rw [hg]; split
      · rfl
      · rename_i c
        cases hb : (PL.g m.T p).1 with
        | true => rfl
        | false => exact absurd ⟨hp, by omega, hb⟩ c
    have hval : ∀ p, (PL.g T2 p).1 = true → (PL.g T2 p).2 = X.getD p 0 := fun p hp => by
      rw [hg] at hp ⊢
      split
      · rename_i c
        show D.getD (p - of) 0 = _
        rw [hat (p - of) (by omega), show of + (p - of) = p by omega]
      · rename_i c
        rw [if_neg c] at hp
        exact I.val p hp
    have hfin : (m.sized || fb) = true → (if fb then (of : Int) + D.length else m.final) = X.length := fun hs => by
      cases hfb' : fb with
      | true => have := hfb hfb'; simp; omega
      | false => rw [hfb'] at hs; simp at hs; simpa using I.fin hs
    refine ⟨⟨⟨?_, I.told, by show T2.length ≤ _; rw [hl]; omega, hval, hfin, ?_, ?_, ?_⟩, rfl, rfl, rfl, Int.le_refl _, Nat.le_refl _, by simp, fun e => by simp at e, hkeep, fun hs => by show (m.sized || fb) = true; rw [hs]; rfl⟩, hin, fun e => by show (m.sized || fb) = true; rw [hfb2 e]; simp⟩
    · show (if wholeM (m.sized || fb) (if fb then (of : Int) + D.length else m.final) T2 then 2 else if fb then 1 else m.st) ≤ 3
      generalize wholeM (m.sized || fb) (if fb then (of : Int) + D.length else m.final) T2 = W
      split
      · omega
      · split <;> omega
    · show (if wholeM (m.sized || fb) (if fb then (of : Int) + D.length else m.final) T2 then 2 else if fb then 1 else m.st) < 2 → wholeM (m.sized || fb) (if fb then (of : Int) + D.length else m.final) T2 = false
      intro hh
      cases hw : wholeM (m.sized || fb) (if fb then (of : Int) + D.length else m.final) T2 with
      | false => rfl
      | true => rw [hw] at hh; simp at hh
    · show 2 ≤ (if wholeM (m.sized || fb) (if fb then (of : Int) + D.length else m.final) T2 then 2 else if fb then 1 else m.st) → (m.sized || fb) = true ∧ _
      intro hh
      cases hw : wholeM (m.sized || fb) (if fb then (of : Int) + D.length else m.final) T2 with
      | false =>
        rw [hw] at hh
        simp only [Bool.false_eq_true, if_false] at hh
        split at hh <;> omega
      | true =>
        have hs : (m.sized || fb) = true := by
          cases hs : (m.sized || fb) with
          | true => rfl
          | false => rw [hs, whole_no] at hw; cases hw
        refine ⟨hs, ?_⟩
        rw [hs, hfin hs] at hw
        have := ((all_there _ _).1 hw).2
        simpa using this
    · show (if wholeM (m.sized || fb) (if fb then (of : Int) + D.length else m.final) T2 then 2 else if fb then 1 else m.st) = 3 → m.read = X.length
      generalize wholeM (m.sized || fb) (if fb then (of : Int) + D.length else m.final) T2 = W
      intro hh
      split at hh
      · omega
      · split at hh <;> omega
theorem take_read (X : List Int) (T : PL) (a k : Nat) (hv : ∀ p, (PL.g T p).1 = true → (PL.g T p).2 = X.getD p 0) (ha : ∀ i, i < k → (PL.g T (a + i)).1 = true) (hl : a + k ≤ T.length) (hx : T.length ≤ X.length) :
    X.take (a + k) = X.take a ++ ((T.drop a).take k).map (·.2) := by
  apply List.ext_getElem (by simp; omega)
  intro i h1 h2
  by_cases c : i < a
  · rw [List.getElem_append_left (by simp; omega)]
    simp
  · rw [List.getElem_append_right (by simp; omega)]
    have h3 : i < a + k := by simp at h1; omega
    simp only [List.getElem_map, List.getElem_take, List.getElem_drop, List.length_take]
    have e1 := hv i (by have := ha (i - a) (by omega); rwa [show a + (i - a) = i by omega] at this)
    rw [g_in T i (by omega)] at e1
    have e2 : X.getD i 0 = X[i]'(by omega) := by simp [List.getD, show i < X.length by omega]
    rw [e2] at e1
    rw [← e1]
    congr 2
    omega
theorem read_pr (X : List Int) (N : Nat) (j : Nat) (m : MS) (r : Int) (hr : 1 ≤ r) (hX : X.length = N) (hN : N ≤ 604) (I : PrI X m) (M : MI 1000 j m) (hj : j ≤ 400) :
    PrS X m (mstep 1000 m (rdO r)).1 (mstep 1000 m (rdO r)).2 ∧ (mstep 1000 m (rdO r)).1.T = m.T ∧ ((X.length : Int) ≤ r → 2 ≤ m.st → (mstep 1000 m (rdO r)).1.st = 3 ∧ (mstep 1000 m (rdO r)).2.f4 = true) := by
  have hst := I.st
  have hrd := M.read
  have hrl := rdk_len m.T m.read r.toNat hrd.2
  have hall := rdk_all m.T m.read r.toNat
  have htd := M.told
  have htl := I.tl
  have hto := I.told
  have htt := M.toldT
  obtain ⟨k, ek⟩ : ∃ k, k = rdk m.T m.read r.toNat := ⟨_, rfl⟩
  obtain ⟨s2, es⟩ : ∃ s2, s2 = if m.st = 2 ∧ ((m.read + k : Nat) : Int) = m.final then 3 else m.st := ⟨_, rfl⟩
  obtain ⟨t2, et⟩ : ∃ t2, t2 = if s2 = 0 then cnV ((m.read + k : Nat) : Int) 1000 m.told else m.told := ⟨_, rfl⟩
  have e1 : mstep 1000 m (rdO r) = ({ m with st := s2, read := m.read + k, told := t2 }, ⟨0, s2, t2, ((m.T.drop m.read).take k).map (·.2), decide ((0 : Int) = 0 ∧ s2 = 3)⟩) := by
    have e2 : mread 1000 m r = ({ m with st := s2, read := m.read + k, told := t2 }, ((m.T.drop m.read).take k).map (·.2), 0) := by
      unfold mread; rw [if_neg (by omega), if_neg (by omega), et, es, ek]; rfl
    show (let z := mread 1000 m r; (z.1, (⟨z.2.2, z.1.st, z.1.told, z.2.1, decide (z.2.2 = 0 ∧ z.1.st = 3)⟩ : SRecvObs))) = _
    rw [e2]
  rw [e1]
  rw [← ek] at hrl hall
  have hcn := cnV_le ((m.read + k : Nat) : Int) 1000 m.told (by omega) (by omega) (by omega) (by omega) (by omega) (by omega) (by omega)
  have ht2 : m.told ≤ t2 := by rw [et]; split <;> omega
  have hs2 : s2 = m.st ∨ (m.st = 2 ∧ s2 = 3 ∧ ((m.read + k : Nat) : Int) = m.final) := by
    rw [es]; split
    · rename_i c; exact Or.inr ⟨c.1, rfl, c.2⟩
    · exact Or.inl rfl
  have hrd3 : s2 = 3 → m.read + k = X.length := fun e => by
    rcases hs2 with c | ⟨c1, c2, c3⟩
    · have := I.rd (by omega); omega
    · have hf := I.full (by omega)
      have := I.fin hf.1
      omega
  refine ⟨⟨⟨by show s2 ≤ 3; omega, by show 1000 ≤ t2; omega, I.tl, I.val, I.fin, fun h => I.nw (by have : s2 < 2 := h; omega), fun h => I.full (by have : 2 ≤ s2 := h; omega), hrd3⟩, rfl, rfl, rfl, ht2, by show m.read ≤ m.read + k; omega, take_read X m.T m.read k I.val hall hrl I.tl, fun e => ?_, fun p hp => hp, fun hs => hs⟩, rfl, fun hr2 h2 => ?_⟩
  · have : s2 = 3 := by simpa using e
    exact hrd3 this
  · have hf := I.full h2
    have hfn := I.fin hf.1
    have hlen : X.length ≤ m.T.length := by
      rcases Nat.eq_zero_or_pos X.length with z | z
      · omega
      · have := hf.2 (X.length - 1) (by omega)
        rcases Nat.lt_or_ge (X.length - 1) m.T.length with q | q
        · omega
        · rw [g_out m.T _ q] at this; cases this
    have hk : m.read + k = X.length := by
      rcases rdk_end m.T m.read r.toNat with q | q
      · rw [← ek] at q; omega
      · rw [← ek] at q
        rcases Nat.lt_or_ge (m.read + k) X.length with z | z
        · rw [hf.2 _ z] at q; cases q
        · omega
    have : s2 = 3 := by
      rw [es]; split
      · rfl
      · rename_i c
        rcases Nat.lt_or_ge m.st 3 with z | z
        · exact absurd ⟨by omega, by omega⟩ c
        · omega
    refine ⟨this, ?_⟩
    show decide ((0 : Int) = 0 ∧ s2 = 3) = true
    simp [this]
/-- Behind all operations. -/
theorem run_pr (C X : List Int) (N n : Nat) (R : List SRecvOp) (hX : X.length = N) (hN : N ≤ 604) (h4 : 0 < N) (h : CutsI C N) (hn : C.length = n + 1) (he : C.getD n 0 = N) (hR : R.length ≤ 400)
    (each : ∀ j, j < R.length → (∃ k, k < n ∧ R.getD j default = pcO C X k) ∨ (∃ r : Int, 1 ≤ r ∧ R.getD j default = rdO r)) : ∀ j, j ≤ R.length → PrI X (mrun 1000 R j).1 ∧
      (∀ j' k, j' < j → k < n → R.getD j' default = pcO C X k → (∀ p, (C.getD k 0).toNat ≤ p → p < (C.getD (k + 1) 0).toNat → (PL.g (mrun 1000 R j).1.T p).1 = true) ∧ (k + 1 = n → (mrun 1000 R j).1.sized = true))
  | 0, _ => ⟨⟨by show (0 : Nat) ≤ 3; omega, by show (1000 : Int) ≤ 1000; omega, Nat.zero_le _, fun p hp => by simp [mrun, PL.g] at hp, fun e => by simp [mrun] at e, fun _ => rfl, fun e => by simp [mrun] at e, fun e => by simp [mrun] at e⟩, fun j' k hj' => by omega⟩
  | j + 1, hj => by
    obtain ⟨I, K⟩ := run_pr C X N n R hX hN h4 h hn he hR each j (by omega)
    have M := mrun_inv (win := 1000) (by omega) (by omega) R j (by omega)
    have em : (mrun 1000 R (j + 1)).1 = (mstep 1000 (mrun 1000 R j).1 (R.getD j default)).1 := rfl
    rw [em]
    rcases each j (by omega) with ⟨k, hk, ek⟩ | ⟨r, hr, er⟩
    · obtain ⟨S, P1, P2⟩ := data_pr C X N n k (mrun 1000 R j).1 hX hN h hn he hk I
      rw [ek]
      refine ⟨S.pi, fun j' k' hj' hk' e' => ?_⟩
      by_cases ej : j' = j
      · rw [ej, ek] at e'
        have e1 : C.getD k 0 = C.getD k' 0 := congrArg SRecvOp.f1 e'
        have ekk : k = k' := by
          rcases Nat.lt_trichotomy k k' with q | q | q
          · exfalso
            have : ∀ d, k + d < C.length → C.getD k 0 + d ≤ C.getD (k + d) 0 := by
              intro d; induction d with
              | zero => intro _; simp
              | succ d ih => intro hd; have a1 := ih (by omega); have a2 := h.up (k + d) (by omega); rw [Nat.add_assoc] at a2; omega
            have := this (k' - k) (by omega)
            rw [show k + (k' - k) = k' by omega] at this; omega
          · exact q
          · exfalso
            have : ∀ d, k' + d < C.length → C.getD k' 0 + d ≤ C.getD (k' + d) 0 := by
              intro d; induction d with
              | zero => intro _; simp
              | succ d ih => intro hd; have a1 := ih (by omega); have a2 := h.up (k' + d) (by omega); rw [Nat.add_assoc] at a2; omega
            have := this (k - k') (by omega)
            rw [show k' + (k - k') = k by omega] at this; omega
        subst ekk
        exact ⟨P1, P2⟩
      · obtain ⟨Q1, Q2⟩ := K j' k' (by omega) hk' e'
        exact ⟨fun p hp hp2 => S.keep p (Q1 p hp hp2), fun e => S.sz (Q2 e)⟩
    · obtain ⟨S, P1, P2⟩ := read_pr X N j (mrun 1000 R j).1 r hr hX hN I M (by omega)
      rw [er]
      refine ⟨S.pi, fun j' k' hj' hk' e' => ?_⟩
      by_cases ej : j' = j
      · rw [ej, er] at e'
        have : (3 : Int) = 1 := congrArg SRecvOp.f0 e'
        omega
      · obtain ⟨Q1, Q2⟩ := K j' k' (by omega) hk' e'
        exact ⟨fun p hp hp2 => S.keep p (Q1 p hp hp2), fun e => S.sz (Q2 e)⟩
theorem cut_of (C : List Int) (N n : Nat) (h : CutsI C N) (hn : C.length = n + 1) (he : C.getD n 0 = N) (p : Nat) (hp : p < N) : ∃ k, k < n ∧ (C.getD k 0).toNat ≤ p ∧ p < (C.getD (k + 1) 0).toNat := by
  have : ∀ d, d ≤ n → (p : Int) < C.getD d 0 → ∃ k, k < d ∧ (C.getD k 0).toNat ≤ p ∧ p < (C.getD (k + 1) 0).toNat := by
    intro d
    induction d with
    | zero => intro _ hd; rw [h.z] at hd; omega
    | succ d ih =>
      intro hd hc
      by_cases q : (p : Int) < C.getD d 0
      · obtain ⟨k, hk, hk2⟩ := ih (by omega) q
        exact ⟨k, by omega, hk2⟩
      · have := h.le d (by omega)
        exact ⟨d, by omega, by omega, by omega⟩
  exact this n (Nat.le_refl _) (by rw [he]; omega)
/-- What the law asks of an answer. -/
structure PrO (X : List Int) (f : Nat → Nat) (t : Nat → Int) (j : Nat) (o : SRecvObs) : Prop where
  code : o.f0 = 0
  tol : o.f2 = t (j + 1)
  told : t j ≤ t (j + 1)
  rle : f j ≤ f (j + 1)
  top : f (j + 1) ≤ X.length
  rd : X.take (f (j + 1)) = X.take (f j) ++ o.f3
  e : o.f4 = true → f (j + 1) = X.length
/-- All that the law asks of the answers. -/
theorem rp_main (C X : List Int) (N n a i : Nat) (R0 : List SRecvOp) (hX : X.length = N) (hN : N ≤ 604) (h4 : 0 < N) (h : CutsI C N) (hn : C.length = n + 1) (he : C.getD n 0 = N) (hi : n ≤ i) (O : OpsI C X n a i R0) (hR : R0.length + 1 ≤ 400) :
    ∃ (f : Nat → Nat) (t : Nat → Int), f 0 = 0 ∧ 0 ≤ t 0 ∧ f (R0.length + 1) = N ∧ (∀ j, j < R0.length + 1 → PrO X f t j ((mrun 1000 (R0 ++ [rdO 4611686018427387903]) (R0.length + 1)).2.getD j default)) ∧
      ((mrun 1000 (R0 ++ [rdO 4611686018427387903]) (R0.length + 1)).2.getD R0.length default).f4 = true ∧ ((mrun 1000 (R0 ++ [rdO 4611686018427387903]) (R0.length + 1)).2.getD R0.length default).f1 = 3 := by
  have O2 := O.read 4611686018427387903 (by omega)
  obtain ⟨R, eR⟩ : ∃ R, R = R0 ++ [rdO 4611686018427387903] := ⟨_, rfl⟩
  have hlR : R.length = R0.length + 1 := by rw [eR]; simp
  have hlast : R.getD R0.length default = rdO 4611686018427387903 := by rw [eR, getD_snoc, if_neg (by omega), if_pos rfl]
  have hpre : ∀ j, j < R0.length → R.getD j default = R0.getD j default := fun j hj => by rw [eR, getD_snoc, if_pos hj]
  rw [← eR] at O2 ⊢
  have A := run_pr C X N n R hX hN h4 h hn he (by omega) O2.each
  have step : ∀ j, j < R0.length + 1 → PrS X (mrun 1000 R j).1 (mrun 1000 R (j + 1)).1 (mstep 1000 (mrun 1000 R j).1 (R.getD j default)).2 := fun j hj => by
    have M := mrun_inv (win := 1000) (by omega) (by omega) R j (by omega)
    have I := (A j (by omega)).1
    show PrS X (mrun 1000 R j).1 (mstep 1000 (mrun 1000 R j).1 (R.getD j default)).1 _
    rcases O2.each j (by omega) with ⟨k, hk, ek⟩ | ⟨r, hr, er⟩
    · rw [ek]; exact (data_pr C X N n k (mrun 1000 R j).1 hX hN h hn he hk I).1
    · rw [er]; exact (read_pr X N j (mrun 1000 R j).1 r hr hX hN I M (by omega)).1
  have I := (A R0.length (by omega)).1
  have M := mrun_inv (win := 1000) (by omega) (by omega) R R0.length (by omega)
  have hcome : ∀ k, k < n → ∃ j, j < R0.length ∧ R.getD j default = pcO C X k := fun k hk => by
    obtain ⟨i', hi', ei⟩ := kkV_all n a k hk
    obtain ⟨j, hj, ej⟩ := O.has i' (by omega)
    exact ⟨j, hj, by rw [hpre j hj, ej, ei]⟩
  have hall : ∀ p, p < N → (PL.g (mrun 1000 R R0.length).1.T p).1 = true := fun p hp => by
    obtain ⟨k, hk, h1, h2⟩ := cut_of C N n h hn he p hp
    obtain ⟨j, hj, ej⟩ := hcome k hk
    exact ((A R0.length (by omega)).2 j k hj hk ej).1 p h1 h2
  have hn0 : 0 < n := by
    rcases Nat.eq_zero_or_pos n with z | z
    · rw [z, h.z] at he; omega
    · exact z
  have hsz : (mrun 1000 R R0.length).1.sized = true := by
    obtain ⟨j, hj, ej⟩ := hcome (n - 1) (by omega)
    exact ((A R0.length (by omega)).2 j (n - 1) hj (by omega) ej).2 (by omega)
  have h2 : 2 ≤ (mrun 1000 R R0.length).1.st := by
    rcases Nat.lt_or_ge (mrun 1000 R R0.length).1.st 2 with q | q
    · exfalso
      have nw := I.nw q
      have hf := I.fin hsz
      rw [hsz, hf] at nw
      have hlen : (X.length : Int) ≤ ((mrun 1000 R R0.length).1.T.length : Int) := by
        have hb := hall (N - 1) (by omega)
        rcases Nat.lt_or_ge (N - 1) (mrun 1000 R R0.length).1.T.length with z | z
        · omega
        · rw [g_out _ _ z] at hb; cases hb
      have hw : wholeM true (X.length : Int) (mrun 1000 R R0.length).1.T = true := (all_there _ _).2 ⟨hlen, fun p hp => hall p (by rw [Int.toNat_natCast] at hp; omega)⟩
      rw [hw] at nw; cases nw
    · exact q
  have L := (read_pr X N R0.length (mrun 1000 R R0.length).1 4611686018427387903 (by omega) hX hN I M (by omega)).2.2 (by omega) h2
  have E := mrun_at 1000 R
  refine ⟨fun j => (mrun 1000 R j).1.read, fun j => (mrun 1000 R j).1.told, rfl, by show (0 : Int) ≤ 1000; omega, ?_, fun j hj => ?_, ?_, ?_⟩
  · have S := step R0.length (by omega)
    rw [hlast] at S
    show (mrun 1000 R (R0.length + 1)).1.read = N
    rw [S.e L.2, hX]
  · rw [E j (R0.length + 1) hj]
    have S := step j hj
    have M1 := mrun_inv (win := 1000) (by omega) (by omega) R (j + 1) (by omega)
    have := M1.read
    have := S.pi.tl
    exact ⟨S.code, S.tol, S.told, S.rle, by show (mrun 1000 R (j + 1)).1.read ≤ _; omega, S.rd, S.e⟩
  · rw [E R0.length (R0.length + 1) (by omega), hlast]; exact L.2
  · rw [E R0.length (R0.length + 1) (by omega), hlast]
    have S := step R0.length (by omega)
    rw [hlast] at S
    rw [S.sto]
    have e3 : (mrun 1000 R (R0.length + 1)).1.st = 3 := by
      show (mstep 1000 (mrun 1000 R R0.length).1 (R.getD R0.length default)).1.st = 3
      rw [hlast]; exact L.1
    rw [e3]; rfl
end Go.Proofs.YtgifbpongpbjaaaDoor
