import Derived.Test.YtpdclbfjngmppaaDoorBkR
import Derived.Test.YtpdclbfjngmppaaDoorFbRecvOpB
import Derived.Test.YtpdclbfjngmppaaDoorBkB
import Derived.Test.YtpdclbfjngmppaaDoorAt
import Derived.Test.YtpdclbfjngmppaaDoorStr
import Derived.Test.YtpdclbfjngmppaaDoorStrNe
import Derived.Test.YtpdclbfjngmppaaDoorAppRow
import Derived.Laws.Append
import Derived.Lib.SlBytesConst
import Derived.Test.YtpdclbfjngmppaaDoorPartsB
import Derived.Test.YtpdclbfjngmppaaDoorBkS
import Derived.Test.YtpdclbfjngmppaaDoorBkD
import Derived.Deep.RegionHeld3
import Derived.Lib.MinMax
namespace Go.Proofs.YtpdclbfjngmppaaDoor
open Go.RowKit
set_option linter.unusedVariables false
set_option linter.unusedSimpArgs false

/-! FnPipe: what its operations do to a sending part. -/
theorem srun_app (A B : List SSendOp) : ∀ k, k ≤ A.length → srun (A ++ B) k = srun A k
  | 0, _ => rfl
  | k + 1, h => by
    have ih := srun_app A B k (by omega)
    have e : (A ++ B).getD k default = A.getD k default := by simp [List.getD, List.getElem?_append_left (show k < A.length by omega)]
    show ((sstep (srun (A ++ B) k).1 ((A ++ B).getD k default)).1, (srun (A ++ B) k).2 ++ [(sstep (srun (A ++ B) k).1 ((A ++ B).getD k default)).2]) = _
    rw [ih, e]
    rfl
/-- Behind all of them: the part, and what was answered. -/
def sfin (A : List SSendOp) : SS := (srun A A.length).1
def sobs (A : List SSendOp) : List SSendObs := (srun A A.length).2
theorem sobs_len (A : List SSendOp) : (sobs A).length = A.length := srun_length A A.length
theorem sfin_snoc (A : List SSendOp) (o : SSendOp) : sfin (A ++ [o]) = (sstep (sfin A) o).1 ∧ sobs (A ++ [o]) = sobs A ++ [(sstep (sfin A) o).2] := by
  have e : (A ++ [o]).getD A.length default = o := by simp [List.getD]
  have h := srun_app A [o] A.length (Nat.le_refl _)
  unfold sfin sobs
  rw [List.length_append, List.length_singleton]
  constructor
  · show (sstep (srun (A ++ [o]) A.length).1 ((A ++ [o]).getD A.length default)).1 = _
    rw [h, e]
  · show (srun (A ++ [o]) A.length).2 ++ [(sstep (srun (A ++ [o]) A.length).1 ((A ++ [o]).getD A.length default)).2] = _
    rw [h, e]
theorem sobs_app (A B : List SSendOp) (j : Nat) (hj : j < A.length) : (sobs (A ++ B)).getD j default = (sobs A).getD j default := by
  have e1 := srun_at (A ++ B) j (A ++ B).length (by simp; omega)
  have e2 := srun_at A j A.length hj
  unfold sobs
  rw [e1, e2, srun_app A B j (by omega)]
  have e : (A ++ B).getD j default = A.getD j default := by simp [List.getD, List.getElem?_append_left hj]
  rw [e]
abbrev plO (n : Int) : SSendOp := ⟨4, 0, n, [], false⟩
abbrev hrO (k a n : Int) (f : Bool) : SSendOp := ⟨k, a, n, [], f⟩
def op3 (X : List Int) : List SSendOp := [⟨1, 0, 0, X, false⟩, ⟨2, 0, 0, [], false⟩, ⟨3, 0, (X.length : Int), [], false⟩]
/-- While it is pulled for the first time: p bytes are on their way. -/
def st1 (X : List Int) (p : Nat) : SS := ⟨if p = 0 then 0 else if p = X.length then 2 else 1, (X.length : Int), p, if p = X.length then 1 else 0, true, X, List.replicate p 1 ++ List.replicate (X.length - p) 0⟩
theorem op3_fin (X : List Int) (h0 : 0 < X.length) (h1 : X.length ≤ 65536) : sfin (op3 X) = st1 X 0 := by
  unfold sfin op3
  show (sstep (sstep (sstep ⟨0, 0, 0, 0, false, [], []⟩ ⟨1, 0, 0, X, false⟩).1 ⟨2, 0, 0, [], false⟩).1 ⟨3, 0, (X.length : Int), [], false⟩).1 = _
  have e1 : (sstep ⟨0, 0, 0, 0, false, [], []⟩ ⟨1, 0, 0, X, false⟩).1 = ⟨0, 0, 0, 0, false, X, List.replicate X.length 0⟩ := by
    show (swrite ⟨0, 0, 0, 0, false, [], []⟩ X).1 = _
    unfold swrite
    rw [if_neg (by simp [SS.live]), if_neg (by simp; omega)]
    simp
  rw [e1]
  have e2 : (sstep ⟨0, 0, 0, 0, false, X, List.replicate X.length 0⟩ ⟨2, 0, 0, [], false⟩).1 = ⟨0, 0, 0, 0, true, X, List.replicate X.length 0⟩ := by
    show (sfinish ⟨0, 0, 0, 0, false, X, List.replicate X.length 0⟩).1 = _
    unfold sfinish
    rw [if_neg (by simp [SS.live])]
  rw [e2]
  show (scredit ⟨0, 0, 0, 0, true, X, List.replicate X.length 0⟩ (X.length : Int)).1 = _
  unfold scredit st1
  rw [if_neg (by omega), if_pos rfl, if_neg (by omega)]
  simp
theorem st1_W (X : List Int) (p q : Nat) (hp : p ≤ X.length) : (st1 X p).W.getD q 0 = if q < p then 1 else 0 := by
  show (List.replicate p 1 ++ List.replicate (X.length - p) 0).getD q 0 = _
  simp only [List.getD, List.getElem?_append, List.length_replicate, List.getElem?_replicate]
  by_cases h : q < p
  · rw [if_pos h, if_pos h, if_pos h]; rfl
  · rw [if_neg h, if_neg h]
    split <;> rfl
theorem st1_len (X : List Int) (p : Nat) (hp : p ≤ X.length) : (st1 X p).W.length = X.length := by
  show (List.replicate p 1 ++ List.replicate (X.length - p) 0).length = _
  simp; omega
theorem st1_live (X : List Int) (p : Nat) : (st1 X p).live = true := by
  have : (st1 X p).st < 3 := by
    show (if p = 0 then 0 else if p = X.length then 2 else 1) < 3
    split
    · omega
    · split <;> omega
  exact decide_eq_true this
theorem no3 (W : List Nat) (h : ∀ q, W.getD q 0 ≠ 3) : ¬ fst3 W < W.length := fun c => h _ (fst3_lost W c)
theorem sstep_pull (m : SS) (n : Int) (h1 : 1 ≤ n) (h2 : n ≤ 1500) : sstep m (plO n) = ((spull m n.toNat).1, ⟨0, (spull m n.toNat).1.st, (spull m n.toNat).2.1, (spull m n.toNat).2.2.1, (spull m n.toNat).2.2.2.1, (spull m n.toNat).2.2.2.2.1, (spull m n.toNat).2.2.2.2.2⟩) := by
  show (if n < 1 ∨ 1500 < n then _ else _) = _
  rw [if_neg (by omega)]
theorem pull1 (X : List Int) (p n : Nat) (hp : p < X.length) (h1 : 1 ≤ n) (h2 : n ≤ 1500) : sstep (st1 X p) (plO n) = (st1 X (min X.length (p + n)), ⟨0, (st1 X (min X.length (p + n))).st, p, (X.drop p).take (min X.length (p + n) - p), true, decide (min X.length (p + n) = X.length), false⟩) := by
  rw [sstep_pull _ _ (by omega) (by omega), Int.toNat_natCast]
  have hn3 : ¬ fst3 (st1 X p).W < (st1 X p).W.length := no3 _ (fun q => by rw [st1_W X p q (by omega)]; split <;> omega)
  obtain ⟨b, eb⟩ : ∃ b, b = min X.length (p + n) := ⟨_, rfl⟩
  have e1 : spiece (st1 X p) n = some (p, b) := by
    unfold spiece
    rw [if_neg hn3, if_pos (show ((st1 X p).next : Int) < min (st1 X p).credit ((st1 X p).B.length : Int) by show (p : Int) < min (X.length : Int) (X.length : Int); omega)]
    show some (p, (min (min (X.length : Int) (X.length : Int)) ((p + n : Nat) : Int)).toNat) = _
    rw [eb]; congr 2; omega
  have hl := st1_live X p
  have ef : ((st1 X p).finish && decide (b = (st1 X p).B.length) && decide ((st1 X p).fin ≠ 2)) = decide (b = X.length) := by
    have : (st1 X p).fin ≠ 2 := by show (if p = X.length then 1 else 0) ≠ 2; split <;> omega
    rw [decide_eq_true this]
    show (true && decide (b = X.length) && true) = _
    simp
  have e2 : spull (st1 X p) n = ({ st1 X p with W := setN (st1 X p).W p b 1, next := max (st1 X p).next b, fin := if decide (b = X.length) then 1 else (st1 X p).fin, st := if decide (b = X.length) then 2 else if (st1 X p).st = 0 then 1 else (st1 X p).st }, p, (X.drop p).take (b - p), true, decide (b = X.length), false) := by
    unfold spull
    rw [if_neg (by rw [hl]; decide), e1]
    simp only [ef]
    rfl
  have e3 : { st1 X p with W := setN (st1 X p).W p b 1, next := max (st1 X p).next b, fin := if decide (b = X.length) then 1 else (st1 X p).fin, st := if decide (b = X.length) then 2 else if (st1 X p).st = 0 then 1 else (st1 X p).st } = st1 X b := by
    have hW : setN (st1 X p).W p b 1 = (st1 X b).W := by
      refine listN_ext (by rw [setN_length, st1_len X p (by omega), st1_len X b (by omega)]) fun q hq => ?_
      rw [setN_length] at hq
      rw [setN_at _ _ _ _ _ hq, st1_W X p q (by omega), st1_W X b q (by omega)]
      by_cases c : q < p
      · rw [if_neg (by omega), if_pos c, if_pos (by omega)]
      · by_cases d : q < b
        · rw [if_pos ⟨by omega, d, by rw [if_neg c]; omega⟩, if_pos d]
        · rw [if_neg (by omega), if_neg c, if_neg d]
    rw [hW]
    unfold st1
    by_cases c : b = X.length
    · simp [c, show X.length ≠ 0 by omega, show p ≠ X.length by omega]
      omega
    · have c1 : ¬ p = X.length := by omega
      have c2 : ¬ b = 0 := by omega
      have c3 : max p b = b := by omega
      by_cases c4 : p = 0
      · simp [c, c1, c2, c3, c4]
        omega
      · simp [c, c1, c2, c3, c4]
  rw [e2, ← eb, e3]
theorem pull1_end (X : List Int) (n : Nat) (h0 : 0 < X.length) (h1 : 1 ≤ n) (h2 : n ≤ 1500) : sstep (st1 X X.length) (plO n) = (st1 X X.length, ⟨0, 2, 0, [], false, false, false⟩) := by
  rw [sstep_pull _ _ (by omega) (by omega), Int.toNat_natCast]
  have hn3 : ¬ fst3 (st1 X X.length).W < (st1 X X.length).W.length := no3 _ (fun q => by rw [st1_W X X.length q (by omega)]; split <;> omega)
  have e1 : spiece (st1 X X.length) n = none := by
    unfold spiece
    rw [if_neg hn3, if_neg (show ¬ ((st1 X X.length).next : Int) < min (st1 X X.length).credit ((st1 X X.length).B.length : Int) by show ¬ (X.length : Int) < min (X.length : Int) (X.length : Int); omega), if_neg (by
      show ¬ (_ ∧ _ ∧ ((if X.length = X.length then 1 else 0) = 0 ∨ (if X.length = X.length then 1 else 0) = 3))
      rw [if_pos rfl]; omega)]
  have hl := st1_live X X.length
  have e2 : spull (st1 X X.length) n = (st1 X X.length, 0, [], false, false, false) := by
    unfold spull
    rw [if_neg (by rw [hl]; decide), e1]
    show (st1 X X.length, 0, [], false, false, decide (X.length < X.length)) = _
    rw [decide_eq_false (by omega)]
  rw [e2]
  have e3 : (st1 X X.length).st = 2 := by show (if X.length = 0 then 0 else if X.length = X.length then 2 else 1) = 2; rw [if_neg (by omega), if_pos rfl]
  rw [e3]
  rfl
/-- Where the pieces are cut. -/
def pp (L : Nat) (sz : Nat → Nat) : Nat → Nat
  | 0 => 0
  | i + 1 => min L (pp L sz i + sz i)
theorem pp_le (L : Nat) (sz : Nat → Nat) : ∀ i, pp L sz i ≤ L
  | 0 => Nat.zero_le _
  | i + 1 => Nat.min_le_left _ _
theorem pp_up (L : Nat) (sz : Nat → Nat) (i : Nat) : pp L sz i ≤ pp L sz (i + 1) := by
  have := pp_le L sz i
  show _ ≤ min L (pp L sz i + sz i)
  omega
theorem pp_min (L : Nat) (sz : Nat → Nat) (h : ∀ i, 10 ≤ sz i) : ∀ i, min L (10 * i) ≤ pp L sz i
  | 0 => by simp
  | i + 1 => by
    have := pp_min L sz h i
    have := h i
    show _ ≤ min L (pp L sz i + sz i)
    omega
theorem pp_end (L : Nat) (sz : Nat → Nat) (h : ∀ i, 10 ≤ sz i) (hL : L ≤ 600) : pp L sz 60 = L := by
  have h1 := pp_min L sz h 60
  have h2 := pp_le L sz 60
  omega
/-- The first pulls. -/
def pkA (X : List Int) (sz : Nat → Nat) : Nat → List SSendOp
  | 0 => op3 X
  | i + 1 => pkA X sz i ++ [plO (sz i)]
theorem pkA_len (X : List Int) (sz : Nat → Nat) : ∀ i, (pkA X sz i).length = 3 + i
  | 0 => rfl
  | i + 1 => by show (pkA X sz i ++ [_]).length = _; rw [List.length_append, pkA_len X sz i]; rfl
theorem pkA_fin (X : List Int) (sz : Nat → Nat) (h0 : 0 < X.length) (h1 : X.length ≤ 65536) (hs : ∀ i, 10 ≤ sz i ∧ sz i ≤ 1500) : ∀ i, sfin (pkA X sz i) = st1 X (pp X.length sz i)
  | 0 => op3_fin X h0 h1
  | i + 1 => by
    have h := hs i
    show sfin (pkA X sz i ++ [plO (sz i)]) = st1 X (min X.length (pp X.length sz i + sz i))
    rw [(sfin_snoc _ _).1, pkA_fin X sz h0 h1 hs i]
    by_cases c : pp X.length sz i < X.length
    · rw [pull1 X _ _ c (by omega) (by omega)]
    · have e : pp X.length sz i = X.length := by have := pp_le X.length sz i; omega
      rw [e, pull1_end X _ h0 (by omega) (by omega)]
      show st1 X X.length = st1 X (min X.length (X.length + sz i))
      congr 1; omega
/-- What pull i answers. -/
theorem pkA_obs (X : List Int) (sz : Nat → Nat) (h0 : 0 < X.length) (h1 : X.length ≤ 65536) (hs : ∀ i, 10 ≤ sz i ∧ sz i ≤ 1500) (i n : Nat) (hi : i < n) : ∃ st : Int, (sobs (pkA X sz n)).getD (3 + i) default = if pp X.length sz i < X.length then ⟨0, st, (pp X.length sz i : Nat), (X.drop (pp X.length sz i)).take (pp X.length sz (i + 1) - pp X.length sz i), true, decide (pp X.length sz (i + 1) = X.length), false⟩ else ⟨0, st, 0, [], false, false, false⟩ := by
  induction n with
  | zero => omega
  | succ n ih =>
    have hsn := hs n
    have hlen := pkA_len X sz n
    by_cases c : i < n
    · obtain ⟨st, e⟩ := ih c
      refine ⟨st, ?_⟩
      rw [← e]
      exact sobs_app (pkA X sz n) [plO (sz n)] (3 + i) (by omega)
    · obtain rfl : i = n := by omega
      have e1 : (sobs (pkA X sz (i + 1))).getD (3 + i) default = (sstep (sfin (pkA X sz i)) (plO (sz i))).2 := by
        show (sobs (pkA X sz i ++ [plO (sz i)])).getD (3 + i) default = _
        rw [(sfin_snoc _ _).2]
        have := sobs_len (pkA X sz i)
        rw [List.getD_eq_getElem?_getD, List.getElem?_append_right (by omega), show 3 + i - (sobs (pkA X sz i)).length = 0 by omega]
        rfl
      rw [e1, pkA_fin X sz h0 h1 hs i]
      by_cases c : pp X.length sz i < X.length
      · rw [pull1 X _ _ c (by omega) (by omega)]
        exact ⟨_, by rw [if_pos c]; rfl⟩
      · have e : pp X.length sz i = X.length := by have := pp_le X.length sz i; omega
        exact ⟨2, by rw [if_neg c, e, pull1_end X _ h0 (by omega) (by omega)]⟩
end Go.Proofs.YtpdclbfjngmppaaDoor

namespace Go.Proofs.YtpdclbfjngmppaaDoor
open Go.RowKit
set_option linter.unusedVariables false
set_option linter.unusedSimpArgs false

/-- The part when all was pulled once. -/
structure PB (X : List Int) (m : SS) : Prop where
  B : m.B = X
  cr : m.credit = (X.length : Int)
  nx : m.next = X.length
  fi : m.finish = true
  ln : m.W.length = X.length
  st : m.st = 2 ∨ m.st = 3
  done : m.st = 3 ↔ m.fin = 2 ∧ ∀ q, q < X.length → m.W.getD q 0 = 2
theorem all2 (W : List Nat) : W.all (· == 2) = true ↔ ∀ q, q < W.length → W.getD q 0 = 2 := by
  rw [List.all_eq_true]
  constructor
  · intro h q hq
    have := h W[q] (List.getElem_mem _)
    simp [List.getD, hq]
    simpa using this
  · intro h x hx
    obtain ⟨i, hi, rfl⟩ := List.getElem_of_mem hx
    have := h i hi
    simp [List.getD, hi] at this
    simpa using this
theorem pb_st1 (X : List Int) (h0 : 0 < X.length) : PB X (st1 X X.length) := by
  have e : (st1 X X.length).st = 2 := by show (if X.length = 0 then 0 else if X.length = X.length then 2 else 1) = 2; rw [if_neg (by omega), if_pos rfl]
  refine ⟨rfl, rfl, rfl, rfl, st1_len X X.length (Nat.le_refl _), Or.inl e, ?_⟩
  rw [e]
  constructor
  · intro h; omega
  · rintro ⟨h, -⟩
    have : (if X.length = X.length then 1 else 0) = 2 := h
    rw [if_pos rfl] at this; omega
theorem shear_do {m : SS} (a b : Nat) (n : Int) (fb : Bool) (how : Nat) (hl : m.live = true) (hab : a ≤ b) (hn : n = (b : Int) - a) (hb : b ≤ m.next) (hfb : fb = true → m.fin ≠ 0 ∧ b = m.B.length) :
    shear m a n fb how = ({ m with W := setN m.W a b how, fin := if fb = true ∧ m.fin ≠ 2 then how else m.fin, st := if (if fb = true ∧ m.fin ≠ 2 then how else m.fin) = 2 ∧ (setN m.W a b how).all (· == 2) then 3 else m.st }, 0) := by
  unfold shear
  rw [if_neg, if_neg (by rw [hl]; decide)]
  · have e1 : (a : Int).toNat = a := by omega
    have e2 : ((a : Int) + n).toNat = b := by omega
    simp only [e1, e2]
  · rintro (h | h | h | ⟨h1, h2⟩)
    · omega
    · omega
    · omega
    · have := hfb h1; omega
theorem PB.hear {X : List Int} {m : SS} (h : PB X m) (hl : m.st = 2) (a b : Nat) (n : Int) (fb : Bool) (how : Nat) (k : Int) (hk : (how = 2 ∧ k = 5) ∨ (how = 3 ∧ k = 6)) (hab : a ≤ b) (hn : n = (b : Int) - a) (hb : b ≤ X.length) (hfb : fb = true → m.fin ≠ 0 ∧ b = X.length) :
    PB X (sstep m (hrO k a n fb)).1 ∧ (sstep m (hrO k a n fb)).1.fin = (if fb = true ∧ m.fin ≠ 2 then how else m.fin) ∧ ∀ q, q < X.length → (sstep m (hrO k a n fb)).1.W.getD q 0 = if a ≤ q ∧ q < b ∧ m.W.getD q 0 ≠ 2 then how else m.W.getD q 0 := by
  have e0 : (sstep m (hrO k a n fb)).1 = (shear m a n fb how).1 := by
    rcases hk with ⟨rfl, rfl⟩ | ⟨rfl, rfl⟩ <;> rfl
  have e1 := shear_do (m := m) a b n fb how (by show decide (m.st < 3) = true; rw [decide_eq_true]; omega) hab hn (by rw [h.nx]; exact hb) (by rw [h.B]; exact hfb)
  obtain ⟨f2, ef2⟩ : ∃ f2, f2 = (if fb = true ∧ m.fin ≠ 2 then how else m.fin) := ⟨_, rfl⟩
  rw [e0, e1, ← ef2]
  have hW : ∀ q, q < X.length → (setN m.W a b how).getD q 0 = if a ≤ q ∧ q < b ∧ m.W.getD q 0 ≠ 2 then how else m.W.getD q 0 := fun q hq => setN_at _ _ _ _ _ (by rw [h.ln]; exact hq)
  refine ⟨⟨h.B, h.cr, h.nx, h.fi, by show (setN m.W a b how).length = _; rw [setN_length]; exact h.ln, ?_, ?_⟩, rfl, hW⟩
  · show (if _ then 3 else m.st) = 2 ∨ (if _ then 3 else m.st) = 3
    split
    · exact Or.inr rfl
    · exact Or.inl hl
  · show (if _ ∧ _ then 3 else m.st) = 3 ↔ _
    have ea := all2 (setN m.W a b how)
    rw [setN_length, h.ln] at ea
    constructor
    · intro q
      split at q
      · rename_i c; exact ⟨c.1, ea.1 c.2⟩
      · omega
    · rintro ⟨c1, c2⟩
      rw [if_pos ⟨c1, ea.2 c2⟩]
theorem PB.dead {X : List Int} {m : SS} (h : PB X m) (hd : m.st = 3) (k a n : Int) (fb : Bool) (hk : k = 5 ∨ k = 6) : (sstep m (hrO k a n fb)).1 = m := by
  have hl : m.live = false := by show decide (m.st < 3) = false; rw [decide_eq_false]; omega
  have e0 : ∃ how, (sstep m (hrO k a n fb)).1 = (shear m a n fb how).1 := by
    rcases hk with rfl | rfl
    · exact ⟨2, rfl⟩
    · exact ⟨3, rfl⟩
  obtain ⟨how, e⟩ := e0
  rw [e]
  unfold shear
  split
  · rfl
  · simp [hl]
theorem PB.pullD {X : List Int} {m : SS} (h : PB X m) (hd : m.st = 3) : (sstep m (plO 1500)).1 = m ∧ (sstep m (plO 1500)).2.f4 = false := by
  have hl : m.live = false := by show decide (m.st < 3) = false; rw [decide_eq_false]; omega
  rw [sstep_pull m 1500 (by decide) (by decide)]
  have e : spull m (1500 : Int).toNat = (m, 0, [], false, false, false) := by unfold spull; rw [if_pos hl]
  rw [e]
  exact ⟨rfl, rfl⟩
theorem PB.pull {X : List Int} {m : SS} (h : PB X m) (hl : m.st = 2) (hL : X.length ≤ 600) (h0 : 0 < X.length) (hf0 : m.fin ≠ 0) (hf3 : m.fin = 3 → ∃ q, m.W.getD q 0 = 3) :
    ((∀ q, m.W.getD q 0 ≠ 3) ∧ (sstep m (plO 1500)).1 = m ∧ (sstep m (plO 1500)).2.f4 = false) ∨
    ∃ a b, a < b ∧ b ≤ X.length ∧ (∀ q, a ≤ q → q < b → m.W.getD q 0 = 3) ∧ (∀ q, q < a → m.W.getD q 0 ≠ 3) ∧ m.W.getD b 0 ≠ 3 ∧
      (sstep m (plO 1500)).2.f2 = (a : Int) ∧ (sstep m (plO 1500)).2.f3 = (X.drop a).take (b - a) ∧ (sstep m (plO 1500)).2.f4 = true ∧ (sstep m (plO 1500)).2.f5 = (decide (b = X.length) && decide (m.fin ≠ 2)) ∧
      PB X (sstep m (plO 1500)).1 ∧ (sstep m (plO 1500)).1.fin = (if (decide (b = X.length) && decide (m.fin ≠ 2)) = true then 1 else m.fin) ∧ ∀ q, q < X.length → (sstep m (plO 1500)).1.W.getD q 0 = if a ≤ q ∧ q < b then 1 else m.W.getD q 0 := by
  have hlv : m.live = true := by show decide (m.st < 3) = true; rw [decide_eq_true]; omega
  rw [sstep_pull m 1500 (by decide) (by decide), show (1500 : Int).toNat = 1500 from rfl]
  by_cases c : fst3 m.W < m.W.length
  · right
    have h3 := fst3_lost m.W c
    obtain ⟨a, ea⟩ : ∃ a, a = fst3 m.W := ⟨_, rfl⟩
    obtain ⟨K, eK⟩ : ∃ K, K = rdk (L3 m.W) a 1500 := ⟨_, rfl⟩
    have hall : ∀ i, i < K → m.W.getD (a + i) 0 = 3 := fun i hi => by
      have := rdk_all (L3 m.W) a 1500 i (by rw [← eK]; exact hi); rw [L3_g] at this; simpa using this
    have hin : ∀ q, m.W.getD q 0 = 3 → q < X.length := fun q hq => Classical.byContradiction fun z => by
      rw [List.getD_eq_getElem?_getD, List.getElem?_eq_none (by rw [h.ln]; omega)] at hq
      simp at hq
    have hKL : K ≤ X.length := by
      by_cases z : K = 0
      · omega
      · have := hin _ (hall (K - 1) (by omega)); omega
    have hend : m.W.getD (a + K) 0 ≠ 3 := by
      rcases rdk_end (L3 m.W) a 1500 with e | e
      · rw [← eK] at e; omega
      · rw [← eK, L3_g] at e; simpa using e
    have hK0 : 0 < K := by
      rcases Nat.eq_zero_or_pos K with z | z
      · rw [z, Nat.add_zero, ea] at hend; exact absurd h3 hend
      · exact z
    have hbL : a + K ≤ X.length := by have := hin _ (hall (K - 1) (by omega)); omega
    have e1 : spiece m 1500 = some (a, a + K) := by unfold spiece; rw [if_pos c, eK, ea]
    obtain ⟨f, ef⟩ : ∃ f, f = (decide (a + K = X.length) && decide (m.fin ≠ 2)) := ⟨_, rfl⟩
    have ef2 : (m.finish && decide (a + K = m.B.length) && decide (m.fin ≠ 2)) = f := by rw [ef, h.fi, h.B]; simp
    have e2 : spull m 1500 = ({ m with W := setN m.W a (a + K) 1, next := max m.next (a + K), fin := if f then 1 else m.fin, st := if f then 2 else if m.st = 0 then 1 else m.st }, a, (m.B.drop a).take (a + K - a), true, f, false) := by
      unfold spull
      rw [if_neg (by rw [hlv]; decide), e1]
      simp only [ef2]
    have hW : ∀ q, q < X.length → (setN m.W a (a + K) 1).getD q 0 = if a ≤ q ∧ q < a + K then 1 else m.W.getD q 0 := fun q hq => by
      rw [setN_at _ _ _ _ _ (by rw [h.ln]; exact hq)]
      by_cases d : a ≤ q ∧ q < a + K
      · have := hall (q - a) (by omega)
        rw [show a + (q - a) = q by omega] at this
        rw [if_pos d, if_pos ⟨d.1, d.2, by omega⟩]
      · rw [if_neg d, if_neg (fun z => d ⟨z.1, z.2.1⟩)]
    have hst : (if f then 2 else if m.st = 0 then 1 else m.st) = 2 := by
      rw [hl]; cases f <;> rfl
    refine ⟨a, a + K, by omega, hbL, fun q q1 q2 => ?_, fun q hq => fst3_first m.W q (by omega), hend, ?_⟩
    · have := hall (q - a) (by omega)
      rwa [show a + (q - a) = q by omega] at this
    rw [← ef, e2]
    refine ⟨rfl, by rw [h.B], rfl, rfl, ⟨h.B, h.cr, by show max m.next (a + K) = _; rw [h.nx]; omega, h.fi, by show (setN m.W a (a + K) 1).length = _; rw [setN_length]; exact h.ln, Or.inl hst, ?_⟩, rfl, hW⟩
    show (if f then 2 else if m.st = 0 then 1 else m.st) = 3 ↔ _
    rw [hst]
    constructor
    · intro z; omega
    · rintro ⟨-, z⟩
      have := z a (by omega)
      rw [hW a (by omega), if_pos ⟨Nat.le_refl _, by omega⟩] at this
      omega
  · left
    have hn := fst3_none m.W c
    have e1 : spiece m 1500 = none := by
      unfold spiece
      rw [if_neg c, if_neg (by rw [h.cr, h.nx, h.B]; omega), if_neg (by
        rintro ⟨-, -, z | z⟩
        · exact hf0 z
        · obtain ⟨q, hq⟩ := hf3 z; exact hn q hq)]
    have e2 : spull m 1500 = (m, 0, [], false, false, decide (m.next < m.B.length)) := by
      unfold spull
      rw [if_neg (by rw [hlv]; decide), e1]
    rw [e2]
    exact ⟨hn, rfl, rfl⟩
end Go.Proofs.YtpdclbfjngmppaaDoor

namespace Go.Proofs.YtpdclbfjngmppaaDoor
open Go.RowKit
set_option linter.unusedVariables false
set_option linter.unusedSimpArgs false

/-- A piece of the text, as the receiving part gets it. -/
abbrev gpO (X : List Int) (a b : Nat) (f : Bool) : SRecvOp := ⟨1, (a : Int), 0, (X.drop a).take (b - a), f⟩
def Cov (X : List Int) (R : List SRecvOp) (q : Nat) : Prop := ∃ a b f, gpO X a b f ∈ R ∧ a ≤ q ∧ q < b ∧ b ≤ X.length
def FinIn (X : List Int) (R : List SRecvOp) : Prop := ∃ a, a ≤ X.length ∧ gpO X a X.length true ∈ R
def ValR (X : List Int) (R : List SRecvOp) : Prop := ∀ o ∈ R, ∃ a b f, o = gpO X a b f ∧ a ≤ b ∧ b ≤ X.length ∧ (f = true → b = X.length)
theorem Cov.more {X : List Int} {R S : List SRecvOp} {q : Nat} (h : Cov X R q) : Cov X (R ++ S) q := by
  obtain ⟨a, b, f, h1, h2⟩ := h
  exact ⟨a, b, f, List.mem_append_left _ h1, h2⟩
theorem FinIn.more {X : List Int} {R S : List SRecvOp} (h : FinIn X R) : FinIn X (R ++ S) := by
  obtain ⟨a, h0, h1⟩ := h
  exact ⟨a, h0, List.mem_append_left _ h1⟩
theorem ValR.more {X : List Int} {R : List SRecvOp} (h : ValR X R) (a b : Nat) (f : Bool) (hab : a ≤ b) (hb : b ≤ X.length) (hf : f = true → b = X.length) : ValR X (R ++ [gpO X a b f]) := fun o ho => by
  rcases List.mem_append.1 ho with h1 | h1
  · exact h o h1
  · exact ⟨a, b, f, by simpa using h1, hab, hb, hf⟩
/-- What the law puts behind an answer: an operation, a piece. -/
def addK (k : Int) (o : SSendObs) (R : List SSendOp) : List SSendOp := if o.f4 = true then R ++ [hrO k o.f2 (o.f3.length : Int) o.f5] else R
def addR (o : SSendObs) (R : List SRecvOp) : List SRecvOp := if o.f4 = true then R ++ [⟨1, o.f2, 0, o.f3, o.f5⟩] else R
def obF (X : List Int) (sz : Nat → Nat) (i : Nat) : SSendObs := (sobs (pkA X sz 60)).getD (3 + i) default
/-- Told as acknowledged or lost. -/
def pkB (X : List Int) (sz : Nat → Nat) (lo : Nat → Bool) : Nat → List SSendOp
  | 0 => pkA X sz 60
  | i + 1 => addK (if lo i = true then 6 else 5) (obF X sz i) (pkB X sz lo i)
def rvB (X : List Int) (sz : Nat → Nat) (lo : Nat → Bool) : Nat → List SRecvOp
  | 0 => []
  | i + 1 => if lo i = true then rvB X sz lo i else addR (obF X sz i) (rvB X sz lo i)
theorem pkB_succ (X : List Int) (sz : Nat → Nat) (lo : Nat → Bool) (i : Nat) : pkB X sz lo (i + 1) = addK (if lo i = true then 6 else 5) (obF X sz i) (pkB X sz lo i) := rfl
theorem rvB_succ (X : List Int) (sz : Nat → Nat) (lo : Nat → Bool) (i : Nat) : rvB X sz lo (i + 1) = if lo i = true then rvB X sz lo i else addR (obF X sz i) (rvB X sz lo i) := rfl
structure I2 (X : List Int) (sz : Nat → Nat) (m : SS) (R : List SRecvOp) (i : Nat) : Prop where
  pb : PB X m
  lw : ∀ q, q < pp X.length sz i → m.W.getD q 0 = 2 ∨ m.W.getD q 0 = 3
  hi : ∀ q, pp X.length sz i ≤ q → q < X.length → m.W.getD q 0 = 1
  cc : ∀ i', i' < i → ∀ q, pp X.length sz i' ≤ q → q + 1 < pp X.length sz (i' + 1) → (m.W.getD q 0 = 3 ↔ m.W.getD (q + 1) 0 = 3)
  f1 : pp X.length sz i < X.length → m.fin = 1
  f2 : pp X.length sz i = X.length → (m.fin = 2 ∧ m.W.getD (X.length - 1) 0 = 2 ∧ FinIn X R) ∨ (m.fin = 3 ∧ m.W.getD (X.length - 1) 0 = 3)
  cv : ∀ q, q < pp X.length sz i → m.W.getD q 0 = 2 → Cov X R q
  va : ValR X R
theorem obF_is (X : List Int) (sz : Nat → Nat) (h0 : 0 < X.length) (h1 : X.length ≤ 600) (hs : ∀ i, 10 ≤ sz i ∧ sz i ≤ 1500) (i : Nat) (hi : i < 60) :
    (pp X.length sz i < X.length → (obF X sz i).f2 = (pp X.length sz i : Nat) ∧ (obF X sz i).f3 = (X.drop (pp X.length sz i)).take (pp X.length sz (i + 1) - pp X.length sz i) ∧ (obF X sz i).f4 = true ∧ (obF X sz i).f5 = decide (pp X.length sz (i + 1) = X.length)) ∧
    (¬ pp X.length sz i < X.length → (obF X sz i).f4 = false) := by
  obtain ⟨st, e⟩ := pkA_obs X sz h0 (by omega) hs i 60 hi
  have e' : obF X sz i = _ := e
  constructor
  · intro c
    rw [if_pos c] at e'
    rw [e']
    exact ⟨rfl, rfl, rfl, rfl⟩
  · intro c
    rw [if_neg c] at e'
    rw [e']
theorem pc_length (X : List Int) (a b : Nat) (hab : a ≤ b) (hb : b ≤ X.length) : ((X.drop a).take (b - a)).length = b - a := by rw [List.length_take, List.length_drop]; omega
set_option maxHeartbeats 1000000 in
theorem i2_all (X : List Int) (sz : Nat → Nat) (lo : Nat → Bool) (h0 : 0 < X.length) (h1 : X.length ≤ 600) (hs : ∀ i, 10 ≤ sz i ∧ sz i ≤ 1500) : ∀ i, i ≤ 60 → I2 X sz (sfin (pkB X sz lo i)) (rvB X sz lo i) i
  | 0, _ => by
    have e : sfin (pkB X sz lo 0) = st1 X X.length := by
      show sfin (pkA X sz 60) = _
      rw [pkA_fin X sz h0 (by omega) hs 60, pp_end X.length sz (fun i => (hs i).1) h1]
    rw [e]
    have hW := fun q => st1_W X X.length q (Nat.le_refl _)
    refine ⟨pb_st1 X h0, fun q hq => by simp [pp] at hq, fun q _ hq => by rw [hW, if_pos hq], fun i' hi => by omega, fun _ => ?_, fun h => ?_, fun q hq => by simp [pp] at hq, fun o ho => by simp [rvB] at ho⟩
    · show (if X.length = X.length then 1 else 0) = 1; rw [if_pos rfl]
    · have : 0 = X.length := h; omega
  | i + 1, hi => by
    have I := i2_all X sz lo h0 h1 hs i (by omega)
    obtain ⟨k1, k2⟩ := obF_is X sz h0 h1 hs i (by omega)
    have hle := pp_le X.length sz i
    have hle1 := pp_le X.length sz (i + 1)
    have hup := pp_up X.length sz i
    by_cases c : pp X.length sz i < X.length
    · obtain ⟨e2, e3, e4, e5⟩ := k1 c
      have hlen : (obF X sz i).f3.length = pp X.length sz (i + 1) - pp X.length sz i := by rw [e3]; exact pc_length X _ _ hup hle1
      obtain ⟨a, ea⟩ : ∃ a, a = pp X.length sz i := ⟨_, rfl⟩
      obtain ⟨b, eb⟩ : ∃ b, b = pp X.length sz (i + 1) := ⟨_, rfl⟩
      obtain ⟨m, em⟩ : ∃ m, m = sfin (pkB X sz lo i) := ⟨_, rfl⟩
      obtain ⟨R, eR⟩ : ∃ R, R = rvB X sz lo i := ⟨_, rfl⟩
      have hab : a < b := by rw [ea, eb]; show _ < min _ (_ + sz i); have := (hs i).1; omega
      rw [← em, ← eR] at I
      have hst : m.st = 2 := by
        rcases I.pb.st with z | z
        · exact z
        · have := (I.pb.done.1 z).2 a (by omega)
          rw [I.hi a (by omega) (by omega)] at this; omega
      have hf1 := I.f1 c
      rw [← ea] at e2 e3 hlen c
      rw [← eb] at e3 e5 hlen
      obtain ⟨how, ehow⟩ : ∃ how, how = if lo i = true then 3 else 2 := ⟨_, rfl⟩
      have ek : (how = 2 ∧ (if lo i = true then (6 : Int) else 5) = 5) ∨ (how = 3 ∧ (if lo i = true then (6 : Int) else 5) = 6) := by
        cases hl : lo i
        · left; rw [ehow, hl]; exact ⟨rfl, rfl⟩
        · right; rw [ehow, hl]; exact ⟨rfl, rfl⟩
      obtain ⟨fb, efb⟩ : ∃ fb, fb = decide (b = X.length) := ⟨_, rfl⟩
      have H := I.pb.hear hst a b ((b : Int) - a) fb how _ ek (by omega) rfl (by omega) (fun z => ⟨by omega, by rw [efb] at z; simpa using z⟩)
      have e6 : pkB X sz lo (i + 1) = pkB X sz lo i ++ [hrO (if lo i = true then 6 else 5) (a : Int) ((b : Int) - a) fb] := by
        rw [pkB_succ]
        unfold addK
        rw [if_pos e4, e2, e5, hlen, ← efb, show (((b - a : Nat)) : Int) = (b : Int) - a by omega]
      rw [e6, (sfin_snoc _ _).1, ← em]
      obtain ⟨m', em'⟩ : ∃ m', m' = (sstep m (hrO (if lo i = true then 6 else 5) (a : Int) ((b : Int) - a) fb)).1 := ⟨_, rfl⟩
      rw [← em'] at H ⊢
      obtain ⟨hpb, hfin, hW⟩ := H
      have hW' : ∀ q, q < X.length → m'.W.getD q 0 = if a ≤ q ∧ q < b then how else m.W.getD q 0 := fun q hq => by
        rw [hW q hq]
        by_cases d : a ≤ q ∧ q < b
        · rw [if_pos d, if_pos ⟨d.1, d.2, by rw [I.hi q (by omega) hq]; omega⟩]
        · rw [if_neg d, if_neg (fun z => d ⟨z.1, z.2.1⟩)]
      have hh : how = 2 ∨ how = 3 := ek.imp And.left And.left
      have eR2 : rvB X sz lo (i + 1) = if how = 3 then R else R ++ [gpO X a b fb] := by
        rw [rvB_succ]
        cases hl : lo i
        · rw [if_neg (by decide), if_neg (by rw [ehow, hl]; decide), ← eR]
          unfold addR
          rw [if_pos e4, e2, e3, e5, ← efb]
        · rw [if_pos rfl, if_pos (by rw [ehow, hl]; rfl), ← eR]
      rw [eR2]
      refine ⟨hpb, fun q hq => ?_, fun q h1 h2 => ?_, fun i' hi' q h1 h2 => ?_, fun h => ?_, fun h => ?_, fun q hq h2 => ?_, ?_⟩
      · rw [hW' q (by omega)]
        split
        · exact hh
        · exact I.lw q (by omega)
      · rw [hW' q h2, if_neg (by omega)]
        exact I.hi q (by omega) h2
      · have hz := pp_le X.length sz (i' + 1)
        rw [hW' q (by omega), hW' (q + 1) (by omega)]
        by_cases z : i' = i
        · subst z
          rw [if_pos (by omega), if_pos (by omega)]
        · have hmono : ∀ d, pp X.length sz (i' + 1) ≤ pp X.length sz (i' + 1 + d) := by
            intro d; induction d with
            | zero => exact Nat.le_refl _
            | succ d ih => exact Nat.le_trans ih (pp_up X.length sz (i' + 1 + d))
          have := hmono (i - (i' + 1))
          rw [show i' + 1 + (i - (i' + 1)) = i by omega] at this
          rw [if_neg (by omega), if_neg (by omega)]
          exact I.cc i' (by omega) q h1 h2
      · have : fb = false := by rw [efb, decide_eq_false]; omega
        rw [hfin, this, if_neg (by simp)]
        exact hf1
      · have hb : b = X.length := by omega
        have : fb = true := by rw [efb, decide_eq_true hb]
        rw [hfin, this, if_pos ⟨rfl, by omega⟩, hW' _ (by omega), if_pos (by omega)]
        rcases hh with z | z
        · left
          refine ⟨z, z, ?_⟩
          rw [if_neg (by omega), hb]
          exact ⟨a, by omega, List.mem_append_right _ (by simp)⟩
        · right; exact ⟨z, z⟩
      · by_cases d : a ≤ q ∧ q < b
        · rw [hW' q (by omega), if_pos d] at h2
          rw [if_neg (by omega)]
          exact ⟨a, b, fb, List.mem_append_right _ (by simp), d.1, d.2, by omega⟩
        · rw [hW' q (by omega), if_neg d] at h2
          have := I.cv q (by omega) h2
          split
          · exact this
          · exact this.more
      · split
        · exact I.va
        · exact I.va.more a b fb (by omega) (by omega) (fun z => by rw [efb] at z; simpa using z)
    · have e4 := k2 c
      have ep : pp X.length sz (i + 1) = pp X.length sz i := by omega
      have e6 : pkB X sz lo (i + 1) = pkB X sz lo i := by
        rw [pkB_succ]
        unfold addK
        rw [if_neg (by rw [e4]; decide)]
      have e7 : rvB X sz lo (i + 1) = rvB X sz lo i := by
        rw [rvB_succ]
        unfold addR
        rw [if_neg (c := (obF X sz i).f4 = true) (by rw [e4]; decide)]
        split <;> rfl
      rw [e6, e7]
      refine ⟨I.pb, by rw [ep]; exact I.lw, by rw [ep]; exact I.hi, fun i' hi' q h1 h2 => ?_, by rw [ep]; exact I.f1, by rw [ep]; exact I.f2, by rw [ep]; exact I.cv, I.va⟩
      by_cases z : i' = i
      · subst z; omega
      · exact I.cc i' (by omega) q h1 h2
end Go.Proofs.YtpdclbfjngmppaaDoor

namespace Go.Proofs.YtpdclbfjngmppaaDoor
open Go.RowKit
set_option linter.unusedVariables false
set_option linter.unusedSimpArgs false

theorem sstep_stP (m : SS) (o : SSendOp) : (sstep m o).2.f1 = ((sstep m o).1.st : Int) := by
  unfold sstep
  by_cases c1 : o.f0 = 1
  · rw [if_pos c1]
  rw [if_neg c1]
  by_cases c2 : o.f0 = 2
  · rw [if_pos c2]
  rw [if_neg c2]
  by_cases c3 : o.f0 = 3
  · rw [if_pos c3]
  rw [if_neg c3]
  by_cases c4 : o.f0 = 4
  · rw [if_pos c4]
    split <;> rfl
  rw [if_neg c4]
  by_cases c5 : o.f0 = 5
  · rw [if_pos c5]
  rw [if_neg c5]
  by_cases c6 : o.f0 = 6
  · rw [if_pos c6]
  rw [if_neg c6]
  by_cases c7 : o.f0 = 7
  · rw [if_pos c7]
    split <;> rfl
  rw [if_neg c7]
  by_cases c8 : o.f0 = 8
  · rw [if_pos c8]
    split <;> rfl
  rw [if_neg c8]
/-- Pulled anew. -/
def pkC (X : List Int) (sz : Nat → Nat) (lo : Nat → Bool) : Nat → List SSendOp
  | 0 => pkB X sz lo 60
  | j + 1 => pkC X sz lo j ++ [plO 1500]
theorem pkC_succ (X : List Int) (sz : Nat → Nat) (lo : Nat → Bool) (j : Nat) : pkC X sz lo (j + 1) = pkC X sz lo j ++ [plO 1500] := rfl
theorem pkC_zero (X : List Int) (sz : Nat → Nat) (lo : Nat → Bool) : pkC X sz lo 0 = pkB X sz lo 60 := rfl
theorem pkC_len (X : List Int) (sz : Nat → Nat) (lo : Nat → Bool) : ∀ j, (pkC X sz lo j).length = (pkB X sz lo 60).length + j
  | 0 => by rw [pkC_zero, Nat.add_zero]
  | j + 1 => by rw [pkC_succ, List.length_append, pkC_len X sz lo j, List.length_singleton, Nat.add_assoc]
def obS (X : List Int) (sz : Nat → Nat) (lo : Nat → Bool) (j : Nat) : SSendObs := (sstep (sfin (pkC X sz lo j)) (plO 1500)).2
theorem obS_is (X : List Int) (sz : Nat → Nat) (lo : Nat → Bool) (j : Nat) : ∀ n, j < n → (sobs (pkC X sz lo n)).getD ((pkB X sz lo 60).length + j) default = obS X sz lo j
  | 0, h => by omega
  | n + 1, h => by
    have hl := pkC_len X sz lo n
    have hs := sobs_len (pkC X sz lo n)
    rw [pkC_succ]
    by_cases c : j < n
    · rw [sobs_app _ _ _ (by omega)]
      exact obS_is X sz lo j n c
    · obtain rfl : j = n := by omega
      rw [(sfin_snoc _ _).2, List.getD_eq_getElem?_getD, List.getElem?_append_right (by omega), show (pkB X sz lo 60).length + j - (sobs (pkC X sz lo j)).length = 0 by omega]
      rfl
def rvC (X : List Int) (sz : Nat → Nat) (lo : Nat → Bool) : Nat → List SRecvOp
  | 0 => rvB X sz lo 60
  | j + 1 => addR (obS X sz lo j) (rvC X sz lo j)
theorem rvC_succ (X : List Int) (sz : Nat → Nat) (lo : Nat → Bool) (j : Nat) : rvC X sz lo (j + 1) = addR (obS X sz lo j) (rvC X sz lo j) := rfl
/-- An answer that brings q. -/
def Brings (o : SSendObs) (q : Nat) : Prop := o.f4 = true ∧ o.f2 ≤ (q : Int) ∧ (q : Int) < o.f2 + o.f3.length
structure I3 (X : List Int) (sz : Nat → Nat) (lo : Nat → Bool) (m : SS) (R : List SRecvOp) (j : Nat) : Prop where
  pb : PB X m
  wv : ∀ q, q < X.length → m.W.getD q 0 = 1 ∨ m.W.getD q 0 = 2 ∨ m.W.getD q 0 = 3
  cc : ∀ i', i' < 60 → ∀ q, pp X.length sz i' ≤ q → q + 1 < pp X.length sz (i' + 1) → (m.W.getD q 0 = 3 ↔ m.W.getD (q + 1) 0 = 3)
  n3 : ∀ q, q < pp X.length sz j → m.W.getD q 0 ≠ 3
  fn : (m.fin = 1 ∧ FinIn X R ∧ ∃ j', j' < j ∧ (obS X sz lo j').f4 = true ∧ (obS X sz lo j').f5 = true) ∨ (m.fin = 2 ∧ m.W.getD (X.length - 1) 0 = 2 ∧ FinIn X R) ∨ (m.fin = 3 ∧ m.W.getD (X.length - 1) 0 = 3)
  cv : ∀ q, q < X.length → m.W.getD q 0 ≠ 3 → Cov X R q
  c1 : ∀ q, q < X.length → m.W.getD q 0 = 1 → ∃ j', j' < j ∧ Brings (obS X sz lo j') q
  va : ValR X R
  ov : ∀ j', j' < j → (obS X sz lo j').f4 = true → ∃ a b f, (obS X sz lo j').f2 = ((a : Nat) : Int) ∧ (obS X sz lo j').f3 = (X.drop a).take (b - a) ∧ (obS X sz lo j').f5 = f ∧ a < b ∧ b ≤ X.length ∧ (f = true → b = X.length)
set_option maxHeartbeats 1000000 in
theorem i3_all (X : List Int) (sz : Nat → Nat) (lo : Nat → Bool) (h0 : 0 < X.length) (h1 : X.length ≤ 600) (hs : ∀ i, 10 ≤ sz i ∧ sz i ≤ 1500) : ∀ j, j ≤ 60 → I3 X sz lo (sfin (pkC X sz lo j)) (rvC X sz lo j) j
  | 0, _ => by
    have I := i2_all X sz lo h0 h1 hs 60 (Nat.le_refl _)
    have he := pp_end X.length sz (fun i => (hs i).1) h1
    show I3 X sz lo (sfin (pkB X sz lo 60)) (rvB X sz lo 60) 0
    refine ⟨I.pb, fun q hq => Or.inr (I.lw q (by omega)), I.cc, fun q hq => by simp [pp] at hq, Or.inr (I.f2 he), fun q hq h => ?_, fun q hq h => ?_, I.va, fun j' hj => by omega⟩
    · rcases I.lw q (by omega) with z | z
      · exact I.cv q (by omega) z
      · exact absurd z h
    · rcases I.lw q (by omega) with z | z <;> omega
  | j + 1, hj => by
    have I := i3_all X sz lo h0 h1 hs j (by omega)
    have eo : obS X sz lo j = (sstep (sfin (pkC X sz lo j)) (plO 1500)).2 := rfl
    obtain ⟨m, em⟩ : ∃ m, m = sfin (pkC X sz lo j) := ⟨_, rfl⟩
    obtain ⟨R, eR⟩ : ∃ R, R = rvC X sz lo j := ⟨_, rfl⟩
    rw [pkC_succ, (sfin_snoc _ _).1, rvC_succ]
    rw [← em] at I eo ⊢
    rw [← eR] at I ⊢
    have hle := pp_le X.length sz j
    have hle1 := pp_le X.length sz (j + 1)
    have hup := pp_up X.length sz j
    -- nothing new
    have same : (sstep m (plO 1500)).1 = m → (obS X sz lo j).f4 = false → (∀ q, q < X.length → m.W.getD q 0 ≠ 3) → I3 X sz lo (sstep m (plO 1500)).1 (addR (obS X sz lo j) R) (j + 1) := fun e1 e2 e3 => by
      have e4 : addR (obS X sz lo j) R = R := by unfold addR; rw [if_neg (by rw [e2]; decide)]
      rw [e1, e4]
      refine ⟨I.pb, I.wv, I.cc, fun q hq => e3 q (by omega), ?_, I.cv, fun q hq h => ?_, I.va, fun j' hj' h => ?_⟩
      · rcases I.fn with ⟨z1, z2, j', z3, z4⟩ | z | z
        · exact Or.inl ⟨z1, z2, j', by omega, z4⟩
        · exact Or.inr (Or.inl z)
        · exact Or.inr (Or.inr z)
      · obtain ⟨j', z1, z2⟩ := I.c1 q hq h
        exact ⟨j', by omega, z2⟩
      · by_cases z : j' = j
        · subst z; rw [e2] at h; cases h
        · exact I.ov j' (by omega) h
    rcases I.pb.st with hst | hst
    · have hf0 : m.fin ≠ 0 := by rcases I.fn with ⟨z, _⟩ | ⟨z, _⟩ | ⟨z, _⟩ <;> omega
      have hf3 : m.fin = 3 → ∃ q, m.W.getD q 0 = 3 := fun z => by
        rcases I.fn with ⟨y, _⟩ | ⟨y, _⟩ | ⟨_, y⟩
        · omega
        · omega
        · exact ⟨_, y⟩
      rcases I.pb.pull hst h1 h0 hf0 hf3 with ⟨a1, a2, a3⟩ | ⟨a, b, hab, hb, h3, hfst, hend, o2, o3, o4, o5, hpb, hfin, hW⟩
      · exact same a2 (by rw [eo]; exact a3) (fun q _ => a1 q)
      · rw [← eo] at o2 o3 o4 o5
        obtain ⟨f, ef⟩ : ∃ f, f = (decide (b = X.length) && decide (m.fin ≠ 2)) := ⟨_, rfl⟩
        rw [← ef] at o5 hfin
        have hfb : f = true → b = X.length := fun z => by rw [ef] at z; simp at z; exact z.1
        have e4 : addR (obS X sz lo j) R = R ++ [gpO X a b f] := by unfold addR; rw [if_pos o4, o2, o3, o5]
        rw [e4]
        obtain ⟨m', em'⟩ : ∃ m', m' = (sstep m (plO 1500)).1 := ⟨_, rfl⟩
        rw [← em'] at hpb hfin hW ⊢
        have hnew : ∀ q, a ≤ q → q < b → Brings (obS X sz lo j) q := fun q q1 q2 => by
          refine ⟨o4, by rw [o2]; omega, ?_⟩
          rw [o2, o3, pc_length X a b (by omega) hb]
          omega
        refine ⟨hpb, fun q hq => ?_, fun i' hi' q q1 q2 => ?_, fun q hq => ?_, ?_, fun q hq h => ?_, fun q hq h => ?_, I.va.more a b f (by omega) hb hfb, fun j' hj' h => ?_⟩
        · rw [hW q hq]
          split
          · exact Or.inl rfl
          · exact I.wv q hq
        · have hz := pp_le X.length sz (i' + 1)
          rw [hW q (by omega), hW (q + 1) (by omega)]
          have hc := I.cc i' hi' q q1 q2
          by_cases z : a ≤ q ∧ q < b
          · have w1 := hc.1 (h3 q z.1 z.2)
            have : q + 1 < b := by
              rcases Nat.lt_or_ge (q + 1) b with y | y
              · exact y
              · have : q + 1 = b := by omega
                rw [this] at w1; exact absurd w1 hend
            rw [if_pos z, if_pos ⟨by omega, this⟩]
          · by_cases y : a ≤ q + 1 ∧ q + 1 < b
            · have w1 := hc.2 (h3 (q + 1) y.1 y.2)
              exact absurd w1 (hfst q (by omega))
            · rw [if_neg z, if_neg y]; exact hc
        · rw [hW q (by omega)]
          by_cases z : a ≤ q ∧ q < b
          · rw [if_pos z]; omega
          · rw [if_neg z]
            by_cases y : q < pp X.length sz j
            · exact I.n3 q y
            · rcases Nat.lt_or_ge q a with x | x
              · exact hfst q x
              · -- a and q lie in piece j
                intro hq3
                have ha : pp X.length sz j ≤ a := by
                  rcases Nat.lt_or_ge a (pp X.length sz j) with v | v
                  · exact absurd (h3 a (Nat.le_refl _) hab) (I.n3 a v)
                  · exact v
                have run : ∀ d, a + d < pp X.length sz (j + 1) → m.W.getD (a + d) 0 = 3 := by
                  intro d
                  induction d with
                  | zero => intro _; exact h3 a (Nat.le_refl _) hab
                  | succ d ih =>
                    intro hd
                    have := ih (by omega)
                    exact (I.cc j (by omega) (a + d) (by omega) (by omega)).1 this
                have := run (b - a) (by omega)
                rw [show a + (b - a) = b by omega] at this
                exact hend this
        · cases hff : f
          · rw [hff] at hfin
            rw [if_neg (by decide)] at hfin
            rcases I.fn with ⟨z1, z2, j', z3, z4⟩ | ⟨z1, z2, z3⟩ | ⟨z1, z2⟩
            · exact Or.inl ⟨by rw [hfin]; exact z1, z2.more, j', by omega, z4⟩
            · refine Or.inr (Or.inl ⟨by rw [hfin]; exact z1, ?_, z3.more⟩)
              rw [hW _ (by omega), if_neg, z2]
              intro y
              have := h3 _ y.1 y.2
              omega
            · have hbn : b ≠ X.length := fun y => by
                rw [ef, decide_eq_true y, decide_eq_true (show m.fin ≠ 2 by omega)] at hff
                cases hff
              refine Or.inr (Or.inr ⟨by rw [hfin]; exact z1, ?_⟩)
              rw [hW _ (by omega), if_neg (by omega)]
              exact z2
          · rw [hff] at hfin
            rw [if_pos rfl] at hfin
            have hbl := hfb hff
            refine Or.inl ⟨hfin, ⟨a, by omega, List.mem_append_right _ (by rw [hbl]; simp)⟩, j, by omega, o4, by rw [o5]; exact hff⟩
        · rw [hW q hq] at h
          by_cases z : a ≤ q ∧ q < b
          · exact ⟨a, b, f, List.mem_append_right _ (by simp), z.1, z.2, hb⟩
          · rw [if_neg z] at h
            exact (I.cv q hq h).more
        · rw [hW q hq] at h
          by_cases z : a ≤ q ∧ q < b
          · exact ⟨j, by omega, hnew q z.1 z.2⟩
          · rw [if_neg z] at h
            obtain ⟨j', z1, z2⟩ := I.c1 q hq h
            exact ⟨j', by omega, z2⟩
        · by_cases z : j' = j
          · subst z; exact ⟨a, b, f, o2, o3, o5, hab, hb, hfb⟩
          · exact I.ov j' (by omega) h
    · obtain ⟨a1, a2⟩ := I.pb.pullD hst
      exact same a1 (by rw [eo]; exact a2) (fun q hq h => by have := (I.pb.done.1 hst).2 q hq; omega)
def pkD (X : List Int) (sz : Nat → Nat) (lo : Nat → Bool) : Nat → List SSendOp
  | 0 => pkC X sz lo 60
  | k + 1 => addK 5 (obS X sz lo k) (pkD X sz lo k)
theorem pkD_succ (X : List Int) (sz : Nat → Nat) (lo : Nat → Bool) (k : Nat) : pkD X sz lo (k + 1) = addK 5 (obS X sz lo k) (pkD X sz lo k) := rfl
structure I4 (X : List Int) (sz : Nat → Nat) (lo : Nat → Bool) (m : SS) (k : Nat) : Prop where
  pb : PB X m
  wv : ∀ q, q < X.length → m.W.getD q 0 = 1 ∨ m.W.getD q 0 = 2
  r1 : ∀ q, q < X.length → m.W.getD q 0 = 1 → ∃ j', k ≤ j' ∧ j' < 60 ∧ Brings (obS X sz lo j') q
  fn : (m.fin = 1 ∧ ∃ j', k ≤ j' ∧ j' < 60 ∧ (obS X sz lo j').f4 = true ∧ (obS X sz lo j').f5 = true) ∨ m.fin = 2
theorem i4_all (X : List Int) (sz : Nat → Nat) (lo : Nat → Bool) (h0 : 0 < X.length) (h1 : X.length ≤ 600) (hs : ∀ i, 10 ≤ sz i ∧ sz i ≤ 1500) : ∀ k, k ≤ 60 → I4 X sz lo (sfin (pkD X sz lo k)) k
  | 0, _ => by
    have I := i3_all X sz lo h0 h1 hs 60 (Nat.le_refl _)
    have he := pp_end X.length sz (fun i => (hs i).1) h1
    have hn3 : ∀ q, q < X.length → (sfin (pkC X sz lo 60)).W.getD q 0 ≠ 3 := fun q hq => I.n3 q (by omega)
    show I4 X sz lo (sfin (pkC X sz lo 60)) 0
    refine ⟨I.pb, fun q hq => ?_, fun q hq h => ?_, ?_⟩
    · have := hn3 q hq
      rcases I.wv q hq with z | z | z
      · exact Or.inl z
      · exact Or.inr z
      · exact absurd z this
    · obtain ⟨j', z1, z2⟩ := I.c1 q hq h
      exact ⟨j', by omega, z1, z2⟩
    · rcases I.fn with ⟨z1, z2, j', z3, z4⟩ | z | z
      · exact Or.inl ⟨z1, j', by omega, z3, z4⟩
      · exact Or.inr z.1
      · exact absurd z.2 (hn3 _ (by omega))
  | k + 1, hk => by
    have I := i4_all X sz lo h0 h1 hs k (by omega)
    have O := (i3_all X sz lo h0 h1 hs 60 (Nat.le_refl _)).ov k (by omega)
    rw [pkD_succ]
    unfold addK
    by_cases c : (obS X sz lo k).f4 = true
    · rw [if_pos c, (sfin_snoc _ _).1]
      obtain ⟨a, b, f, o2, o3, o5, hab, hb, hfb⟩ := O c
      have hlen : (obS X sz lo k).f3.length = b - a := by rw [o3]; exact pc_length X a b (by omega) hb
      obtain ⟨m, em⟩ : ∃ m, m = sfin (pkD X sz lo k) := ⟨_, rfl⟩
      rw [← em] at I ⊢
      rcases I.pb.st with hst | hst
      · have hf0 : m.fin ≠ 0 := by rcases I.fn with ⟨z, _⟩ | z <;> omega
        have H := I.pb.hear hst a b ((b : Int) - a) f 2 5 (Or.inl ⟨rfl, rfl⟩) (by omega) rfl hb (fun z => ⟨hf0, hfb z⟩)
        rw [o2, o5, hlen, show (((b - a : Nat)) : Int) = (b : Int) - a by omega]
        obtain ⟨m', em'⟩ : ∃ m', m' = (sstep m (hrO 5 (a : Int) ((b : Int) - a) f)).1 := ⟨_, rfl⟩
        rw [← em'] at H ⊢
        obtain ⟨hpb, hfin, hW⟩ := H
        refine ⟨hpb, fun q hq => ?_, fun q hq h => ?_, ?_⟩
        · rw [hW q hq]
          split
          · exact Or.inr rfl
          · exact I.wv q hq
        · rw [hW q hq] at h
          by_cases z : a ≤ q ∧ q < b ∧ m.W.getD q 0 ≠ 2
          · rw [if_pos z] at h; omega
          · rw [if_neg z] at h
            obtain ⟨j', z1, z2, z3⟩ := I.r1 q hq h
            by_cases y : j' = k
            · subst y
              obtain ⟨-, y1, y2⟩ := z3
              rw [o2] at y1 y2
              rw [hlen] at y2
              exact absurd ⟨by omega, by omega, by omega⟩ z
            · exact ⟨j', by omega, z2, z3⟩
        · rcases I.fn with ⟨z1, j', z2, z3, z4, z5⟩ | z
          · cases hff : f
            · rw [hff] at hfin
              rw [if_neg (by simp)] at hfin
              left
              refine ⟨by rw [hfin]; exact z1, j', ?_, z3, z4, z5⟩
              by_cases y : j' = k
              · subst y; rw [o5, hff] at z5; cases z5
              · omega
            · rw [hff] at hfin
              rw [if_pos ⟨rfl, by omega⟩] at hfin
              exact Or.inr hfin
          · right
            rw [hfin, if_neg (fun y => y.2 z)]
            exact z
      · rw [I.pb.dead hst 5 _ _ _ (Or.inl rfl)]
        have hd := I.pb.done.1 hst
        exact ⟨I.pb, I.wv, fun q hq h => by have := hd.2 q hq; omega, Or.inr hd.1⟩
    · rw [if_neg c]
      refine ⟨I.pb, I.wv, fun q hq h => ?_, ?_⟩
      · obtain ⟨j', z1, z2, z3⟩ := I.r1 q hq h
        by_cases y : j' = k
        · subst y; exact absurd z3.1 c
        · exact ⟨j', by omega, z2, z3⟩
      · rcases I.fn with ⟨z1, j', z2, z3, z4, z5⟩ | z
        · left
          refine ⟨z1, j', ?_, z3, z4, z5⟩
          by_cases y : j' = k
          · subst y; exact absurd z4 c
          · omega
        · exact Or.inr z
/-- All acknowledged: done. -/
theorem pipe_done (X : List Int) (sz : Nat → Nat) (lo : Nat → Bool) (h0 : 0 < X.length) (h1 : X.length ≤ 600) (hs : ∀ i, 10 ≤ sz i ∧ sz i ≤ 1500) : (sfin (pkD X sz lo 60)).st = 3 := by
  have I := i4_all X sz lo h0 h1 hs 60 (Nat.le_refl _)
  refine I.pb.done.2 ⟨?_, fun q hq => ?_⟩
  · rcases I.fn with ⟨-, j', z1, z2, -⟩ | z
    · omega
    · exact z
  · rcases I.wv q hq with z | z
    · obtain ⟨j', z1, z2, -⟩ := I.r1 q hq z
      omega
    · exact z
/-- The receiving part got all. -/
theorem pipe_got (X : List Int) (sz : Nat → Nat) (lo : Nat → Bool) (h0 : 0 < X.length) (h1 : X.length ≤ 600) (hs : ∀ i, 10 ≤ sz i ∧ sz i ≤ 1500) : ValR X (rvC X sz lo 60) ∧ FinIn X (rvC X sz lo 60) ∧ ∀ q, q < X.length → Cov X (rvC X sz lo 60) q := by
  have I := i3_all X sz lo h0 h1 hs 60 (Nat.le_refl _)
  have he := pp_end X.length sz (fun i => (hs i).1) h1
  have hn3 : ∀ q, q < X.length → (sfin (pkC X sz lo 60)).W.getD q 0 ≠ 3 := fun q hq => I.n3 q (by omega)
  refine ⟨I.va, ?_, fun q hq => I.cv q hq (hn3 q hq)⟩
  rcases I.fn with z | z | z
  · exact z.2.1
  · exact z.2.2
  · exact absurd z.2 (hn3 _ (by omega))
theorem addK_len (k : Int) (o : SSendObs) (R : List SSendOp) : (addK k o R).length ≤ R.length + 1 := by
  unfold addK
  split
  · simp
  · omega
theorem addR_len (o : SSendObs) (R : List SRecvOp) : (addR o R).length ≤ R.length + 1 := by
  unfold addR
  split
  · simp
  · omega
theorem pkB_len (X : List Int) (sz : Nat → Nat) (lo : Nat → Bool) : ∀ i, (pkB X sz lo i).length ≤ 63 + i
  | 0 => by show (pkA X sz 60).length ≤ _; rw [pkA_len]; omega
  | i + 1 => by have := pkB_len X sz lo i; have := addK_len (if lo i = true then 6 else 5) (obF X sz i) (pkB X sz lo i); rw [pkB_succ]; omega
theorem pkD_len (X : List Int) (sz : Nat → Nat) (lo : Nat → Bool) : ∀ k, (pkD X sz lo k).length ≤ 183 + k
  | 0 => by show (pkC X sz lo 60).length ≤ _; rw [pkC_len]; have := pkB_len X sz lo 60; omega
  | k + 1 => by have := pkD_len X sz lo k; have := addK_len 5 (obS X sz lo k) (pkD X sz lo k); rw [pkD_succ]; omega
theorem rvB_len (X : List Int) (sz : Nat → Nat) (lo : Nat → Bool) : ∀ i, (rvB X sz lo i).length ≤ i
  | 0 => Nat.le_refl _
  | i + 1 => by have := rvB_len X sz lo i; have := addR_len (obF X sz i) (rvB X sz lo i); rw [rvB_succ]; split <;> omega
theorem rvC_len (X : List Int) (sz : Nat → Nat) (lo : Nat → Bool) : ∀ j, (rvC X sz lo j).length ≤ 60 + j
  | 0 => rvB_len X sz lo 60
  | j + 1 => by have := rvC_len X sz lo j; have := addR_len (obS X sz lo j) (rvC X sz lo j); rw [rvC_succ]; omega
/-- The last answer tells the state. -/
theorem sobs_last (A : List SSendOp) (h : 0 < A.length) : ((sobs A).getD (A.length - 1) default).f1 = ((sfin A).st : Int) := by
  have e := srun_at A (A.length - 1) A.length (by omega)
  unfold sobs sfin
  rw [e]
  obtain ⟨n, en⟩ : ∃ n, A.length = n + 1 := ⟨A.length - 1, by omega⟩
  rw [en, Nat.add_sub_cancel]
  exact sstep_stP _ _
end Go.Proofs.YtpdclbfjngmppaaDoor

namespace Go.Proofs.YtpdclbfjngmppaaDoor
open Go.RowKit
set_option linter.unusedVariables false

/-! FnRecvPrefix: what its operations do to a receiving part. -/
/-- Where a text of N bytes is cut, so far. -/
structure CutsI (C : List Int) (N : Nat) : Prop where
  len : 1 ≤ C.length
  z : C.getD 0 0 = 0
  up : ∀ j, j + 1 < C.length → C.getD j 0 < C.getD (j + 1) 0 ∧ C.getD (j + 1) 0 ≤ C.getD j 0 + 40
  le : ∀ j, j < C.length → (j : Int) ≤ C.getD j 0 ∧ C.getD j 0 ≤ N
theorem getD_snoc {α : Type} (L : List α) (x d : α) (j : Nat) : (L ++ [x]).getD j d = if j < L.length then L.getD j d else if j = L.length then x else d := by
  by_cases h : j < L.length
  · rw [if_pos h]; simp [List.getD, List.getElem?_append_left h]
  · rw [if_neg h]
    by_cases e : j = L.length
    · rw [if_pos e, e]; simp [List.getD]
    · rw [if_neg e]
      simp only [List.getD]
      rw [List.getElem?_eq_none (by simp; omega)]; rfl
theorem cuts0 (N : Nat) : CutsI [0] N := ⟨by simp, rfl, fun j hj => by simp at hj, fun j hj => by
  have : j = 0 := by simp at hj; exact hj
  subst this; simp⟩
theorem CutsI.next {C : List Int} {N : Nat} (h : CutsI C N) (a : Int) (ha : 0 ≤ a) (ha2 : a < 40) (hl : C.getD (C.length - 1) 0 < N) : CutsI (C ++ [min (N : Int) (C.getD (C.length - 1) 0 + 1 + a)]) N := by
  have h1 := h.len
  have h2 := h.le (C.length - 1) (by omega)
  refine ⟨by simp, ?_, fun j hj => ?_, fun j hj => ?_⟩
  · rw [getD_snoc, if_pos (by omega)]; exact h.z
  · rw [List.length_append, List.length_singleton] at hj
    rw [getD_snoc, getD_snoc]
    by_cases e : j + 1 < C.length
    · rw [if_pos (by omega), if_pos e]; exact h.up j e
    · rw [if_pos (by omega), if_neg e, if_pos (by omega)]
      rw [show j = C.length - 1 by omega]
      omega
  · rw [List.length_append, List.length_singleton] at hj
    rw [getD_snoc]
    by_cases e : j < C.length
    · rw [if_pos e]; exact h.le j e
    · rw [if_neg e, if_pos (by omega)]
      omega
theorem CutsI.length {C : List Int} {N : Nat} (h : CutsI C N) : C.length ≤ N + 1 := by
  have := h.len
  have := h.le (C.length - 1) (by omega)
  omega
/-- A piece of the text, as an operation; a read. -/
def pcO (C X : List Int) (k : Nat) : SRecvOp := ⟨1, C.getD k 0, 0, (X.drop (C.getD k 0).toNat).take ((C.getD (k + 1) 0).toNat - (C.getD k 0).toNat), decide (k + 2 = C.length)⟩
def rdO (n : Int) : SRecvOp := ⟨3, 0, n, [], false⟩
/-- Which piece comes in round i. -/
def kkV (n a i : Nat) : Nat := if i < n then (if n % 7 = 0 then n - 1 - i else (i * 7 + a) % n) else i % n
theorem kkV_lt (n a i : Nat) (hn : 0 < n) : kkV n a i < n := by
  unfold kkV
  split
  · split
    · omega
    · exact Nat.mod_lt _ hn
  · exact Nat.mod_lt _ hn
theorem seven (r q : Nat) (hr : r < 7) (h0 : r ≠ 0) (hq : q < 7) : ∃ t, t < 7 ∧ (q + t * r) % 7 = 0 := by
  have : ∀ r : Fin 7, r.val ≠ 0 → ∀ q : Fin 7, ∃ t : Fin 7, (q.val + t.val * r.val) % 7 = 0 := by decide
  obtain ⟨t, ht⟩ := this ⟨r, hr⟩ h0 ⟨q, hq⟩
  exact ⟨t.val, t.isLt, ht⟩
theorem kkV_all (n a k : Nat) (hk : k < n) : ∃ i, i < n ∧ kkV n a i = k := by
  by_cases h7 : n % 7 = 0
  · refine ⟨n - 1 - k, by omega, ?_⟩
    unfold kkV; rw [if_pos (by omega), if_pos h7]; omega
  · obtain ⟨q, hq, eq⟩ : ∃ q, q < n ∧ (q + a) % n = k := by
      have ham := Nat.mod_lt a (show 0 < n by omega)
      by_cases c : a % n ≤ k
      · refine ⟨k - a % n, by omega, ?_⟩
        rw [Nat.add_mod, Nat.mod_eq_of_lt (show k - a % n < n by omega), show k - a % n + a % n = k by omega, Nat.mod_eq_of_lt hk]
      · refine ⟨n + k - a % n, by omega, ?_⟩
        rw [Nat.add_mod, Nat.mod_eq_of_lt (show n + k - a % n < n by omega), show n + k - a % n + a % n = k + n by omega, Nat.add_mod_right, Nat.mod_eq_of_lt hk]
    obtain ⟨t, ht, et⟩ := seven (n % 7) (q % 7) (by omega) h7 (by omega)
    have e7 : (q + t * n) % 7 = 0 := by rw [Nat.add_mod, Nat.mul_mod]; rw [Nat.add_mod, Nat.mul_mod, Nat.mod_mod, Nat.mod_mod] at et; exact et
    have hb : t * n ≤ 6 * n := Nat.mul_le_mul_right n (by omega)
    refine ⟨(q + t * n) / 7, by omega, ?_⟩
    have e8 : (q + t * n) / 7 * 7 = q + t * n := by omega
    unfold kkV
    rw [if_pos (by omega), if_neg h7, e8, show q + t * n + a = (q + a) + n * t by rw [Nat.mul_comm n t]; omega, Nat.add_mul_mod_self_left]
    exact eq
/-- The operations so far. -/
structure OpsI (C X : List Int) (n a i : Nat) (R : List SRecvOp) : Prop where
  each : ∀ j, j < R.length → (∃ k, k < n ∧ R.getD j default = pcO C X k) ∨ (∃ r : Int, 1 ≤ r ∧ R.getD j default = rdO r)
  has : ∀ i', i' < i → ∃ j, j < R.length ∧ R.getD j default = pcO C X (kkV n a i')
theorem ops0 (C X : List Int) (n a : Nat) : OpsI C X n a 0 [] := ⟨fun j hj => by simp at hj, fun i hi => by omega⟩
theorem OpsI.read {C X : List Int} {n a i : Nat} {R : List SRecvOp} (h : OpsI C X n a i R) (r : Int) (hr : 1 ≤ r) : OpsI C X n a i (R ++ [rdO r]) := by
  refine ⟨fun j hj => ?_, fun i' hi => ?_⟩
  · rw [List.length_append, List.length_singleton] at hj
    rw [getD_snoc]
    by_cases e : j < R.length
    · rw [if_pos e]; exact h.each j e
    · rw [if_neg e, if_pos (by omega)]; exact Or.inr ⟨r, hr, rfl⟩
  · obtain ⟨j, hj, ej⟩ := h.has i' hi
    exact ⟨j, by simp; omega, by rw [getD_snoc, if_pos hj]; exact ej⟩
theorem OpsI.piece {C X : List Int} {n a i : Nat} {R : List SRecvOp} (h : OpsI C X n a i R) (hn : 0 < n) : OpsI C X n a (i + 1) (R ++ [pcO C X (kkV n a i)]) := by
  refine ⟨fun j hj => ?_, fun i' hi => ?_⟩
  · rw [List.length_append, List.length_singleton] at hj
    rw [getD_snoc]
    by_cases e : j < R.length
    · rw [if_pos e]; exact h.each j e
    · rw [if_neg e, if_pos (by omega)]; exact Or.inl ⟨_, kkV_lt n a i hn, rfl⟩
  · by_cases e : i' = i
    · subst e
      exact ⟨R.length, by simp, by rw [getD_snoc, if_neg (by omega), if_pos rfl]⟩
    · obtain ⟨j, hj, ej⟩ := h.has i' (by omega)
      exact ⟨j, by simp; omega, by rw [getD_snoc, if_pos hj]; exact ej⟩

/-! The places behind data. -/
theorem put1_g (T : PL) (p q : Nat) (v : Int) (hp : p < T.length) : PL.g (put1 T p v) q = if q = p ∧ (PL.g T p).1 = false then (true, v) else PL.g T q := by
  unfold put1
  by_cases h : (PL.g T p).1 = true
  · rw [if_pos h, if_neg (by rw [h]; simp)]
  · have h' : (PL.g T p).1 = false := by simpa using h
    rw [if_neg h, g_set T p q _ hp]
    by_cases e : q = p
    · rw [if_pos e, if_pos ⟨e, h'⟩]
    · rw [if_neg e, if_neg (fun x => e x.1)]
theorem putF_g (T : PL) (off : Nat) (D : List Int) (q : Nat) : ∀ i, off + i ≤ T.length → PL.g (putF T off D i) q = if off ≤ q ∧ q < off + i ∧ (PL.g T q).1 = false then (true, D.getD (q - off) 0) else PL.g T q
  | 0, _ => by rw [if_neg (by omega)]; rfl
  | i + 1, hi => by
    have ih := putF_g T off D q i (by omega)
    show PL.g (put1 (putF T off D i) (off + i) (D.getD i 0)) q = _
    rw [put1_g _ _ _ _ (by rw [putF_length]; omega)]
    by_cases e : q = off + i
    · subst e
      have e1 : PL.g (putF T off D i) (off + i) = PL.g T (off + i) := by rw [ih, if_neg (by omega)]
      rw [e1]
      by_cases f : (PL.g T (off + i)).1 = false
      · rw [if_pos ⟨rfl, f⟩, if_pos ⟨by omega, by omega, f⟩, Nat.add_sub_cancel_left]
      · rw [if_neg (fun x => f x.2), if_neg (fun x => f x.2.2)]
    · rw [if_neg (fun x => e x.1), ih]
      by_cases c : off ≤ q ∧ q < off + i ∧ (PL.g T q).1 = false
      · rw [if_pos c, if_pos ⟨c.1, by omega, c.2.2⟩]
      · rw [if_neg c, if_neg (fun x => c ⟨x.1, by omega, x.2.2⟩)]
theorem all_there (T : PL) (f : Int) : (wholeM true f T = true) ↔ f ≤ (T.length : Int) ∧ ∀ p, p < f.toNat → (PL.g T p).1 = true := by
  unfold wholeM
  simp only [Bool.true_and, Bool.and_eq_true, decide_eq_true_eq, List.all_eq_true, List.mem_range]
/-- What holds of the part while pieces of X come. -/
structure PrI (X : List Int) (m : MS) : Prop where
  st : m.st ≤ 3
  told : 1000 ≤ m.told
  tl : m.T.length ≤ X.length
  val : ∀ p, (PL.g m.T p).1 = true → (PL.g m.T p).2 = X.getD p 0
  fin : m.sized = true → m.final = X.length
  nw : m.st < 2 → wholeM m.sized m.final m.T = false
  full : 2 ≤ m.st → m.sized = true ∧ ∀ p, p < X.length → (PL.g m.T p).1 = true
  rd : m.st = 3 → m.read = X.length
/-- One operation: nothing goes away. -/
structure PrS (X : List Int) (m m' : MS) (o : SRecvObs) : Prop where
  pi : PrI X m'
  code : o.f0 = 0
  sto : o.f1 = m'.st
  tol : o.f2 = m'.told
  told : m.told ≤ m'.told
  rle : m.read ≤ m'.read
  rd : X.take m'.read = X.take m.read ++ o.f3
  e : o.f4 = true → m'.read = X.length
  keep : ∀ p, (PL.g m.T p).1 = true → (PL.g m'.T p).1 = true
  sz : m.sized = true → m'.sized = true
theorem pc_len (C X : List Int) (N k : Nat) (hX : X.length = N) (h : CutsI C N) (hk : k + 1 < C.length) : (pcO C X k).f3.length = (C.getD (k + 1) 0).toNat - (C.getD k 0).toNat ∧ (C.getD k 0).toNat + (pcO C X k).f3.length = (C.getD (k + 1) 0).toNat ∧ (pcO C X k).f3.length ≤ 40 := by
  have h1 := h.up k hk
  have h2 := h.le (k + 1) hk
  have h3 := h.le k (by omega)
  have e : (pcO C X k).f3.length = (C.getD (k + 1) 0).toNat - (C.getD k 0).toNat := by
    show ((X.drop _).take _).length = _
    simp only [List.length_take, List.length_drop]; omega
  omega
theorem take_drop_getD (X : List Int) (a b q : Nat) (h : q < b) : ((X.drop a).take b).getD q 0 = X.getD (a + q) 0 := by
  simp only [List.getD]
  rw [List.getElem?_take_of_lt h, List.getElem?_drop]
theorem pc_at (C X : List Int) (N k q : Nat) (hX : X.length = N) (h : CutsI C N) (hk : k + 1 < C.length) (hq : q < (pcO C X k).f3.length) : (pcO C X k).f3.getD q 0 = X.getD ((C.getD k 0).toNat + q) 0 := by
  have h1 := pc_len C X N k hX h hk
  exact take_drop_getD X _ _ q (by omega)
theorem data_pr (C X : List Int) (N n k : Nat) (m : MS) (hX : X.length = N) (hN : N ≤ 604) (h : CutsI C N) (hn : C.length = n + 1) (he : C.getD n 0 = N) (hk : k < n) (I : PrI X m) :
    PrS X m (mstep 1000 m (pcO C X k)).1 (mstep 1000 m (pcO C X k)).2 ∧ (∀ p, (C.getD k 0).toNat ≤ p → p < (C.getD (k + 1) 0).toNat → (PL.g (mstep 1000 m (pcO C X k)).1.T p).1 = true) ∧ (k + 1 = n → (mstep 1000 m (pcO C X k)).1.sized = true) := by
  have hk1 : k + 1 < C.length := by omega
  have l0 := pc_len C X N k hX h hk1
  have l1 := h.le k (by omega)
  have l2 := h.le (k + 1) hk1
  have hat := fun q => pc_at C X N k q hX h hk1
  have hfb : (pcO C X k).f4 = true → C.getD (k + 1) 0 = N := fun e => by
    have : k + 2 = C.length := by simpa [pcO] using e
    rw [show k + 1 = n by omega]; exact he
  have hfb2 : k + 1 = n → (pcO C X k).f4 = true := fun e => by show decide (k + 2 = C.length) = true; rw [decide_eq_true_eq]; omega
  have e1 : mstep 1000 m (pcO C X k) = ((mdata m (C.getD k 0) (pcO C X k).f3 (pcO C X k).f4).1, ⟨(mdata m (C.getD k 0) (pcO C X k).f3 (pcO C X k).f4).2, (mdata m (C.getD k 0) (pcO C X k).f3 (pcO C X k).f4).1.st, (mdata m (C.getD k 0) (pcO C X k).f3 (pcO C X k).f4).1.told, [], false⟩) := rfl
  rw [e1]
  generalize (pcO C X k).f3 = D at *
  generalize (pcO C X k).f4 = fb at *
  obtain ⟨of, eo⟩ : ∃ of : Nat, C.getD k 0 = (of : Int) := ⟨(C.getD k 0).toNat, by omega⟩
  obtain ⟨en, ee⟩ : ∃ en : Nat, C.getD (k + 1) 0 = (en : Int) := ⟨(C.getD (k + 1) 0).toNat, by omega⟩
  have eo' : (C.getD k 0).toNat = of := by omega
  have ee' : (C.getD (k + 1) 0).toNat = en := by omega
  rw [eo', ee'] at l0 ⊢
  rw [eo]
  simp only [eo'] at hat
  have ht := I.told
  have htl := I.tl
  have g1 : ¬ (1500 < D.length ∨ (of : Int) < 0 ∨ 4611686018427387903 - (D.length : Int) < (of : Int)) := by omega
  have g2 : ¬ m.told < (of : Int) + D.length := by omega
  have g3 : ¬ ((m.sized = true ∧ (m.final < (of : Int) + D.length ∨ (fb = true ∧ (of : Int) + D.length ≠ m.final))) ∨ (fb = true ∧ (of : Int) + D.length < m.T.length)) := by
    rintro (⟨hs, hq⟩ | ⟨hf, hq⟩)
    · have := I.fin hs
      rcases hq with hq | ⟨hf, hq⟩
      · omega
      · have := hfb hf; omega
    · have := hfb hf; omega
  by_cases g4 : ¬ m.st < 2
  · have em : mdata m (of : Int) D fb = (m, 0) := by unfold mdata; rw [if_neg g1, if_neg g2, if_neg g3, if_pos g4]
    rw [em]
    have hf := I.full (by omega)
    exact ⟨⟨I, rfl, rfl, rfl, Int.le_refl _, Nat.le_refl _, by simp, fun e => by simp at e, fun p hp => hp, fun hs => hs⟩, fun p hp hp2 => hf.2 p (by omega), fun _ => hf.1⟩
  · have g4' : m.st < 2 := Decidable.not_not.1 g4
    obtain ⟨T2, eT⟩ : ∃ T2, T2 = putF (pad m.T (of + D.length)) of D D.length := ⟨_, rfl⟩
    have em : mdata m (of : Int) D fb = ({ m with st := if wholeM (m.sized || fb) (if fb then (of : Int) + D.length else m.final) T2 then 2 else if fb then 1 else m.st, sized := m.sized || fb, final := if fb then (of : Int) + D.length else m.final, T := T2 }, 0) := by
      unfold mdata; rw [if_neg g1, if_neg g2, if_neg g3, if_neg g4, eT]; rfl
    rw [em]
    have hg : ∀ p, PL.g T2 p = if of ≤ p ∧ p < of + D.length ∧ (PL.g m.T p).1 = false then (true, D.getD (p - of) 0) else PL.g m.T p := fun p => by
      rw [eT, putF_g _ _ _ _ _ (by rw [pad_length]; omega), pad_g]
    have hl : T2.length = max m.T.length (of + D.length) := by rw [eT, putF_length, pad_length]
    have hkeep : ∀ p, (PL.g m.T p).1 = true → (PL.g T2 p).1 = true := fun p hp => by
      rw [hg]; split
      · rfl
      · exact hp
    have hin : ∀ p, of ≤ p → p < en → (PL.g T2 p).1 = true := fun p hp hp2 => by
      rw [hg]; split
      · rfl
      · rename_i c
        cases hb : (PL.g m.T p).1 with
        | true => rfl
        | false => exact absurd ⟨hp, by omega, hb⟩ c
    have hval : ∀ p, (PL.g T2 p).1 = true → (PL.g T2 p).2 = X.getD p 0 := fun p hp => by
      rw [hg] at hp ⊢
      split
      · rename_i c
        show D.getD (p - of) 0 = _
        rw [hat (p - of) (by omega), show of + (p - of) = p by omega]
      · rename_i c
        rw [if_neg c] at hp
        exact I.val p hp
    have hfin : (m.sized || fb) = true → (if fb then (of : Int) + D.length else m.final) = X.length := fun hs => by
      cases hfb' : fb with
      | true => have := hfb hfb'; simp; omega
      | false => rw [hfb'] at hs; simp at hs; simpa using I.fin hs
    refine ⟨⟨⟨?_, I.told, by show T2.length ≤ _; rw [hl]; omega, hval, hfin, ?_, ?_, ?_⟩, rfl, rfl, rfl, Int.le_refl _, Nat.le_refl _, by simp, fun e => by simp at e, hkeep, fun hs => by show (m.sized || fb) = true; rw [hs]; rfl⟩, hin, fun e => by show (m.sized || fb) = true; rw [hfb2 e]; simp⟩
    · show (if wholeM (m.sized || fb) (if fb then (of : Int) + D.length else m.final) T2 then 2 else if fb then 1 else m.st) ≤ 3
      generalize wholeM (m.sized || fb) (if fb then (of : Int) + D.length else m.final) T2 = W
      split
      · omega
      · split <;> omega
    · show (if wholeM (m.sized || fb) (if fb then (of : Int) + D.length else m.final) T2 then 2 else if fb then 1 else m.st) < 2 → wholeM (m.sized || fb) (if fb then (of : Int) + D.length else m.final) T2 = false
      intro hh
      cases hw : wholeM (m.sized || fb) (if fb then (of : Int) + D.length else m.final) T2 with
      | false => rfl
      | true => rw [hw] at hh; simp at hh
    · show 2 ≤ (if wholeM (m.sized || fb) (if fb then (of : Int) + D.length else m.final) T2 then 2 else if fb then 1 else m.st) → (m.sized || fb) = true ∧ _
      intro hh
      cases hw : wholeM (m.sized || fb) (if fb then (of : Int) + D.length else m.final) T2 with
      | false =>
        rw [hw] at hh
        simp only [Bool.false_eq_true, if_false] at hh
        split at hh <;> omega
      | true =>
        have hs : (m.sized || fb) = true := by
          cases hs : (m.sized || fb) with
          | true => rfl
          | false => rw [hs, whole_no] at hw; cases hw
        refine ⟨hs, ?_⟩
        rw [hs, hfin hs] at hw
        have := ((all_there _ _).1 hw).2
        simpa using this
    · show (if wholeM (m.sized || fb) (if fb then (of : Int) + D.length else m.final) T2 then 2 else if fb then 1 else m.st) = 3 → m.read = X.length
      generalize wholeM (m.sized || fb) (if fb then (of : Int) + D.length else m.final) T2 = W
      intro hh
      split at hh
      · omega
      · split at hh <;> omega
theorem take_read (X : List Int) (T : PL) (a k : Nat) (hv : ∀ p, (PL.g T p).1 = true → (PL.g T p).2 = X.getD p 0) (ha : ∀ i, i < k → (PL.g T (a + i)).1 = true) (hl : a + k ≤ T.length) (hx : T.length ≤ X.length) :
    X.take (a + k) = X.take a ++ ((T.drop a).take k).map (·.2) := by
  apply List.ext_getElem (by simp; omega)
  intro i h1 h2
  by_cases c : i < a
  · rw [List.getElem_append_left (by simp; omega)]
    simp
  · rw [List.getElem_append_right (by simp; omega)]
    have h3 : i < a + k := by simp at h1; omega
    simp only [List.getElem_map, List.getElem_take, List.getElem_drop, List.length_take]
    have e1 := hv i (by have := ha (i - a) (by omega); rwa [show a + (i - a) = i by omega] at this)
    rw [g_in T i (by omega)] at e1
    have e2 : X.getD i 0 = X[i]'(by omega) := by simp [List.getD, show i < X.length by omega]
    rw [e2] at e1
    rw [← e1]
    congr 2
    omega
theorem read_pr (X : List Int) (N : Nat) (j : Nat) (m : MS) (r : Int) (hr : 1 ≤ r) (hX : X.length = N) (hN : N ≤ 604) (I : PrI X m) (M : MI 1000 j m) (hj : j ≤ 400) :
    PrS X m (mstep 1000 m (rdO r)).1 (mstep 1000 m (rdO r)).2 ∧ (mstep 1000 m (rdO r)).1.T = m.T ∧ ((X.length : Int) ≤ r → 2 ≤ m.st → (mstep 1000 m (rdO r)).1.st = 3 ∧ (mstep 1000 m (rdO r)).2.f4 = true) := by
  have hst := I.st
  have hrd := M.read
  have hrl := rdk_len m.T m.read r.toNat hrd.2
  have hall := rdk_all m.T m.read r.toNat
  have htd := M.told
  have htl := I.tl
  have hto := I.told
  have htt := M.toldT
  obtain ⟨k, ek⟩ : ∃ k, k = rdk m.T m.read r.toNat := ⟨_, rfl⟩
  obtain ⟨s2, es⟩ : ∃ s2, s2 = if m.st = 2 ∧ ((m.read + k : Nat) : Int) = m.final then 3 else m.st := ⟨_, rfl⟩
  obtain ⟨t2, et⟩ : ∃ t2, t2 = if s2 = 0 then cnV ((m.read + k : Nat) : Int) 1000 m.told else m.told := ⟨_, rfl⟩
  have e1 : mstep 1000 m (rdO r) = ({ m with st := s2, read := m.read + k, told := t2 }, ⟨0, s2, t2, ((m.T.drop m.read).take k).map (·.2), decide ((0 : Int) = 0 ∧ s2 = 3)⟩) := by
    have e2 : mread 1000 m r = ({ m with st := s2, read := m.read + k, told := t2 }, ((m.T.drop m.read).take k).map (·.2), 0) := by
      unfold mread; rw [if_neg (by omega), if_neg (by omega), et, es, ek]; rfl
    show (let z := mread 1000 m r; (z.1, (⟨z.2.2, z.1.st, z.1.told, z.2.1, decide (z.2.2 = 0 ∧ z.1.st = 3)⟩ : SRecvObs))) = _
    rw [e2]
  rw [e1]
  rw [← ek] at hrl hall
  have hcn := cnV_le ((m.read + k : Nat) : Int) 1000 m.told (by omega) (by omega) (by omega) (by omega) (by omega) (by omega) (by omega)
  have ht2 : m.told ≤ t2 := by rw [et]; split <;> omega
  have hs2 : s2 = m.st ∨ (m.st = 2 ∧ s2 = 3 ∧ ((m.read + k : Nat) : Int) = m.final) := by
    rw [es]; split
    · rename_i c; exact Or.inr ⟨c.1, rfl, c.2⟩
    · exact Or.inl rfl
  have hrd3 : s2 = 3 → m.read + k = X.length := fun e => by
    rcases hs2 with c | ⟨c1, c2, c3⟩
    · have := I.rd (by omega); omega
    · have hf := I.full (by omega)
      have := I.fin hf.1
      omega
  refine ⟨⟨⟨by show s2 ≤ 3; omega, by show 1000 ≤ t2; omega, I.tl, I.val, I.fin, fun h => I.nw (by have : s2 < 2 := h; omega), fun h => I.full (by have : 2 ≤ s2 := h; omega), hrd3⟩, rfl, rfl, rfl, ht2, by show m.read ≤ m.read + k; omega, take_read X m.T m.read k I.val hall hrl I.tl, fun e => ?_, fun p hp => hp, fun hs => hs⟩, rfl, fun hr2 h2 => ?_⟩
  · have : s2 = 3 := by simpa using e
    exact hrd3 this
  · have hf := I.full h2
    have hfn := I.fin hf.1
    have hlen : X.length ≤ m.T.length := by
      rcases Nat.eq_zero_or_pos X.length with z | z
      · omega
      · have := hf.2 (X.length - 1) (by omega)
        rcases Nat.lt_or_ge (X.length - 1) m.T.length with q | q
        · omega
        · rw [g_out m.T _ q] at this; cases this
    have hk : m.read + k = X.length := by
      rcases rdk_end m.T m.read r.toNat with q | q
      · rw [← ek] at q; omega
      · rw [← ek] at q
        rcases Nat.lt_or_ge (m.read + k) X.length with z | z
        · rw [hf.2 _ z] at q; cases q
        · omega
    have : s2 = 3 := by
      rw [es]; split
      · rfl
      · rename_i c
        rcases Nat.lt_or_ge m.st 3 with z | z
        · exact absurd ⟨by omega, by omega⟩ c
        · omega
    refine ⟨this, ?_⟩
    show decide ((0 : Int) = 0 ∧ s2 = 3) = true
    simp [this]
/-- Behind all operations. -/
theorem run_pr (C X : List Int) (N n : Nat) (R : List SRecvOp) (hX : X.length = N) (hN : N ≤ 604) (h4 : 0 < N) (h : CutsI C N) (hn : C.length = n + 1) (he : C.getD n 0 = N) (hR : R.length ≤ 400)
    (each : ∀ j, j < R.length → (∃ k, k < n ∧ R.getD j default = pcO C X k) ∨ (∃ r : Int, 1 ≤ r ∧ R.getD j default = rdO r)) : ∀ j, j ≤ R.length → PrI X (mrun 1000 R j).1 ∧
      (∀ j' k, j' < j → k < n → R.getD j' default = pcO C X k → (∀ p, (C.getD k 0).toNat ≤ p → p < (C.getD (k + 1) 0).toNat → (PL.g (mrun 1000 R j).1.T p).1 = true) ∧ (k + 1 = n → (mrun 1000 R j).1.sized = true))
  | 0, _ => ⟨⟨by show (0 : Nat) ≤ 3; omega, by show (1000 : Int) ≤ 1000; omega, Nat.zero_le _, fun p hp => by simp [mrun, PL.g] at hp, fun e => by simp [mrun] at e, fun _ => rfl, fun e => by simp [mrun] at e, fun e => by simp [mrun] at e⟩, fun j' k hj' => by omega⟩
  | j + 1, hj => by
    obtain ⟨I, K⟩ := run_pr C X N n R hX hN h4 h hn he hR each j (by omega)
    have M := mrun_inv (win := 1000) (by omega) (by omega) R j (by omega)
    have em : (mrun 1000 R (j + 1)).1 = (mstep 1000 (mrun 1000 R j).1 (R.getD j default)).1 := rfl
    rw [em]
    rcases each j (by omega) with ⟨k, hk, ek⟩ | ⟨r, hr, er⟩
    · obtain ⟨S, P1, P2⟩ := data_pr C X N n k (mrun 1000 R j).1 hX hN h hn he hk I
      rw [ek]
      refine ⟨S.pi, fun j' k' hj' hk' e' => ?_⟩
      by_cases ej : j' = j
      · rw [ej, ek] at e'
        have e1 : C.getD k 0 = C.getD k' 0 := congrArg SRecvOp.f1 e'
        have ekk : k = k' := by
          rcases Nat.lt_trichotomy k k' with q | q | q
          · exfalso
            have : ∀ d, k + d < C.length → C.getD k 0 + d ≤ C.getD (k + d) 0 := by
              intro d; induction d with
              | zero => intro _; simp
              | succ d ih => intro hd; have a1 := ih (by omega); have a2 := h.up (k + d) (by omega); rw [Nat.add_assoc] at a2; omega
            have := this (k' - k) (by omega)
            rw [show k + (k' - k) = k' by omega] at this; omega
          · exact q
          · exfalso
            have : ∀ d, k' + d < C.length → C.getD k' 0 + d ≤ C.getD (k' + d) 0 := by
              intro d; induction d with
              | zero => intro _; simp
              | succ d ih => intro hd; have a1 := ih (by omega); have a2 := h.up (k' + d) (by omega); rw [Nat.add_assoc] at a2; omega
            have := this (k - k') (by omega)
            rw [show k' + (k - k') = k by omega] at this; omega
        subst ekk
        exact ⟨P1, P2⟩
      · obtain ⟨Q1, Q2⟩ := K j' k' (by omega) hk' e'
        exact ⟨fun p hp hp2 => S.keep p (Q1 p hp hp2), fun e => S.sz (Q2 e)⟩
    · obtain ⟨S, P1, P2⟩ := read_pr X N j (mrun 1000 R j).1 r hr hX hN I M (by omega)
      rw [er]
      refine ⟨S.pi, fun j' k' hj' hk' e' => ?_⟩
      by_cases ej : j' = j
      · rw [ej, er] at e'
        have : (3 : Int) = 1 := congrArg SRecvOp.f0 e'
        omega
      · obtain ⟨Q1, Q2⟩ := K j' k' (by omega) hk' e'
        exact ⟨fun p hp hp2 => S.keep p (Q1 p hp hp2), fun e => S.sz (Q2 e)⟩
theorem cut_of (C : List Int) (N n : Nat) (h : CutsI C N) (hn : C.length = n + 1) (he : C.getD n 0 = N) (p : Nat) (hp : p < N) : ∃ k, k < n ∧ (C.getD k 0).toNat ≤ p ∧ p < (C.getD (k + 1) 0).toNat := by
  have : ∀ d, d ≤ n → (p : Int) < C.getD d 0 → ∃ k, k < d ∧ (C.getD k 0).toNat ≤ p ∧ p < (C.getD (k + 1) 0).toNat := by
    intro d
    induction d with
    | zero => intro _ hd; rw [h.z] at hd; omega
    | succ d ih =>
      intro hd hc
      by_cases q : (p : Int) < C.getD d 0
      · obtain ⟨k, hk, hk2⟩ := ih (by omega) q
        exact ⟨k, by omega, hk2⟩
      · have := h.le d (by omega)
        exact ⟨d, by omega, by omega, by omega⟩
  exact this n (Nat.le_refl _) (by rw [he]; omega)
/-- What the law asks of an answer. -/
structure PrO (X : List Int) (f : Nat → Nat) (t : Nat → Int) (j : Nat) (o : SRecvObs) : Prop where
  code : o.f0 = 0
  tol : o.f2 = t (j + 1)
  told : t j ≤ t (j + 1)
  rle : f j ≤ f (j + 1)
  top : f (j + 1) ≤ X.length
  rd : X.take (f (j + 1)) = X.take (f j) ++ o.f3
  e : o.f4 = true → f (j + 1) = X.length
/-- All that the law asks of the answers. -/
theorem rp_main (C X : List Int) (N n a i : Nat) (R0 : List SRecvOp) (hX : X.length = N) (hN : N ≤ 604) (h4 : 0 < N) (h : CutsI C N) (hn : C.length = n + 1) (he : C.getD n 0 = N) (hi : n ≤ i) (O : OpsI C X n a i R0) (hR : R0.length + 1 ≤ 400) :
    ∃ (f : Nat → Nat) (t : Nat → Int), f 0 = 0 ∧ 0 ≤ t 0 ∧ f (R0.length + 1) = N ∧ (∀ j, j < R0.length + 1 → PrO X f t j ((mrun 1000 (R0 ++ [rdO 4611686018427387903]) (R0.length + 1)).2.getD j default)) ∧
      ((mrun 1000 (R0 ++ [rdO 4611686018427387903]) (R0.length + 1)).2.getD R0.length default).f4 = true ∧ ((mrun 1000 (R0 ++ [rdO 4611686018427387903]) (R0.length + 1)).2.getD R0.length default).f1 = 3 := by
  have O2 := O.read 4611686018427387903 (by omega)
  obtain ⟨R, eR⟩ : ∃ R, R = R0 ++ [rdO 4611686018427387903] := ⟨_, rfl⟩
  have hlR : R.length = R0.length + 1 := by rw [eR]; simp
  have hlast : R.getD R0.length default = rdO 4611686018427387903 := by rw [eR, getD_snoc, if_neg (by omega), if_pos rfl]
  have hpre : ∀ j, j < R0.length → R.getD j default = R0.getD j default := fun j hj => by rw [eR, getD_snoc, if_pos hj]
  rw [← eR] at O2 ⊢
  have A := run_pr C X N n R hX hN h4 h hn he (by omega) O2.each
  have step : ∀ j, j < R0.length + 1 → PrS X (mrun 1000 R j).1 (mrun 1000 R (j + 1)).1 (mstep 1000 (mrun 1000 R j).1 (R.getD j default)).2 := fun j hj => by
    have M := mrun_inv (win := 1000) (by omega) (by omega) R j (by omega)
    have I := (A j (by omega)).1
    show PrS X (mrun 1000 R j).1 (mstep 1000 (mrun 1000 R j).1 (R.getD j default)).1 _
    rcases O2.each j (by omega) with ⟨k, hk, ek⟩ | ⟨r, hr, er⟩
    · rw [ek]; exact (data_pr C X N n k (mrun 1000 R j).1 hX hN h hn he hk I).1
    · rw [er]; exact (read_pr X N j (mrun 1000 R j).1 r hr hX hN I M (by omega)).1
  have I := (A R0.length (by omega)).1
  have M := mrun_inv (win := 1000) (by omega) (by omega) R R0.length (by omega)
  have hcome : ∀ k, k < n → ∃ j, j < R0.length ∧ R.getD j default = pcO C X k := fun k hk => by
    obtain ⟨i', hi', ei⟩ := kkV_all n a k hk
    obtain ⟨j, hj, ej⟩ := O.has i' (by omega)
    exact ⟨j, hj, by rw [hpre j hj, ej, ei]⟩
  have hall : ∀ p, p < N → (PL.g (mrun 1000 R R0.length).1.T p).1 = true := fun p hp => by
    obtain ⟨k, hk, h1, h2⟩ := cut_of C N n h hn he p hp
    obtain ⟨j, hj, ej⟩ := hcome k hk
    exact ((A R0.length (by omega)).2 j k hj hk ej).1 p h1 h2
  have hn0 : 0 < n := by
    rcases Nat.eq_zero_or_pos n with z | z
    · rw [z, h.z] at he; omega
    · exact z
  have hsz : (mrun 1000 R R0.length).1.sized = true := by
    obtain ⟨j, hj, ej⟩ := hcome (n - 1) (by omega)
    exact ((A R0.length (by omega)).2 j (n - 1) hj (by omega) ej).2 (by omega)
  have h2 : 2 ≤ (mrun 1000 R R0.length).1.st := by
    rcases Nat.lt_or_ge (mrun 1000 R R0.length).1.st 2 with q | q
    · exfalso
      have nw := I.nw q
      have hf := I.fin hsz
      rw [hsz, hf] at nw
      have hlen : (X.length : Int) ≤ ((mrun 1000 R R0.length).1.T.length : Int) := by
        have hb := hall (N - 1) (by omega)
        rcases Nat.lt_or_ge (N - 1) (mrun 1000 R R0.length).1.T.length with z | z
        · omega
        · rw [g_out _ _ z] at hb; cases hb
      have hw : wholeM true (X.length : Int) (mrun 1000 R R0.length).1.T = true := (all_there _ _).2 ⟨hlen, fun p hp => hall p (by rw [Int.toNat_natCast] at hp; omega)⟩
      rw [hw] at nw; cases nw
    · exact q
  have L := (read_pr X N R0.length (mrun 1000 R R0.length).1 4611686018427387903 (by omega) hX hN I M (by omega)).2.2 (by omega) h2
  have E := mrun_at 1000 R
  refine ⟨fun j => (mrun 1000 R j).1.read, fun j => (mrun 1000 R j).1.told, rfl, by show (0 : Int) ≤ 1000; omega, ?_, fun j hj => ?_, ?_, ?_⟩
  · have S := step R0.length (by omega)
    rw [hlast] at S
    show (mrun 1000 R (R0.length + 1)).1.read = N
    rw [S.e L.2, hX]
  · rw [E j (R0.length + 1) hj]
    have S := step j hj
    have M1 := mrun_inv (win := 1000) (by omega) (by omega) R (j + 1) (by omega)
    have := M1.read
    have := S.pi.tl
    exact ⟨S.code, S.tol, S.told, S.rle, by show (mrun 1000 R (j + 1)).1.read ≤ _; omega, S.rd, S.e⟩
  · rw [E R0.length (R0.length + 1) (by omega), hlast]; exact L.2
  · rw [E R0.length (R0.length + 1) (by omega), hlast]
    have S := step R0.length (by omega)
    rw [hlast] at S
    rw [S.sto]
    have e3 : (mrun 1000 R (R0.length + 1)).1.st = 3 := by
      show (mstep 1000 (mrun 1000 R R0.length).1 (R.getD R0.length default)).1.st = 3
      rw [hlast]; exact L.1
    rw [e3]; rfl
end Go.Proofs.YtpdclbfjngmppaaDoor

namespace Go.Proofs.YtpdclbfjngmppaaDoor
open Go.RowKit
set_option linter.unusedVariables false
set_option linter.unusedSimpArgs false

theorem data_gen (win : Nat) (X : List Int) (of en : Nat) (fb : Bool) (m : MS) (hN : X.length ≤ 604) (hoe : of ≤ en) (hen : en ≤ X.length) (hfb0 : fb = true → en = X.length) (I : PrI X m) :
    PrS X m (mstep win m (gpO X of en fb)).1 (mstep win m (gpO X of en fb)).2 ∧ (∀ p, of ≤ p → p < en → (PL.g (mstep win m (gpO X of en fb)).1.T p).1 = true) ∧ (fb = true → (mstep win m (gpO X of en fb)).1.sized = true) ∧ (mstep win m (gpO X of en fb)).1.read = m.read := by
  have l0 : ((X.drop of).take (en - of)).length = en - of ∧ of + ((X.drop of).take (en - of)).length = en := by
    have := pc_length X of en hoe hen
    omega
  have hat : ∀ q, q < ((X.drop of).take (en - of)).length → ((X.drop of).take (en - of)).getD q 0 = X.getD (of + q) 0 := fun q hq => take_drop_getD X _ _ q (by omega)
  have e1 : mstep win m (gpO X of en fb) = ((mdata m (of : Int) ((X.drop of).take (en - of)) fb).1, ⟨(mdata m (of : Int) ((X.drop of).take (en - of)) fb).2, (mdata m (of : Int) ((X.drop of).take (en - of)) fb).1.st, (mdata m (of : Int) ((X.drop of).take (en - of)) fb).1.told, [], false⟩) := rfl
  rw [e1]
  generalize (X.drop of).take (en - of) = D at *
  obtain ⟨N, hX⟩ : ∃ N, X.length = N := ⟨_, rfl⟩
  have hfb : fb = true → (en : Int) = N := fun e => by have := hfb0 e; omega
  have ht := I.told
  have htl := I.tl
  have g1 : ¬ (1500 < D.length ∨ (of : Int) < 0 ∨ 4611686018427387903 - (D.length : Int) < (of : Int)) := by omega
  have g2 : ¬ m.told < (of : Int) + D.length := by omega
  have g3 : ¬ ((m.sized = true ∧ (m.final < (of : Int) + D.length ∨ (fb = true ∧ (of : Int) + D.length ≠ m.final))) ∨ (fb = true ∧ (of : Int) + D.length < m.T.length)) := by
    rintro (⟨hs, hq⟩ | ⟨hf, hq⟩)
    · have := I.fin hs
      rcases hq with hq | ⟨hf, hq⟩
      · omega
      · have := hfb hf; omega
    · have := hfb hf; omega
  by_cases g4 : ¬ m.st < 2
  · have em : mdata m (of : Int) D fb = (m, 0) := by unfold mdata; rw [if_neg g1, if_neg g2, if_neg g3, if_pos g4]
    rw [em]
    have hf := I.full (by omega)
    exact ⟨⟨I, rfl, rfl, rfl, Int.le_refl _, Nat.le_refl _, by simp, fun e => by simp at e, fun p hp => hp, fun hs => hs⟩, fun p hp hp2 => hf.2 p (by omega), fun _ => hf.1, rfl⟩
  · have g4' : m.st < 2 := Decidable.not_not.1 g4
    obtain ⟨T2, eT⟩ : ∃ T2, T2 = putF (pad m.T (of + D.length)) of D D.length := ⟨_, rfl⟩
    have em : mdata m (of : Int) D fb = ({ m with st := if wholeM (m.sized || fb) (if fb then (of : Int) + D.length else m.final) T2 then 2 else if fb then 1 else m.st, sized := m.sized || fb, final := if fb then (of : Int) + D.length else m.final, T := T2 }, 0) := by
      unfold mdata; rw [if_neg g1, if_neg g2, if_neg g3, if_neg g4, eT]; rfl
    rw [em]
    have hg : ∀ p, PL.g T2 p = if of ≤ p ∧ p < of + D.length ∧ (PL.g m.T p).1 = false then (true, D.getD (p - of) 0) else PL.g m.T p := fun p => by
      rw [eT, putF_g _ _ _ _ _ (by rw [pad_length]; omega), pad_g]
    have hl : T2.length = max m.T.length (of + D.length) := by rw [eT, putF_length, pad_length]
    have hkeep : ∀ p, (PL.g m.T p).1 = true → (PL.g T2 p).1 = true := fun p hp => by
      rw [hg]; split
      · rfl
      · exact hp
    have hin : ∀ p, of ≤ p → p < en → (PL.g T2 p).1 = true := fun p hp hp2 => by
      rw [hg]; split
      · rfl
      · rename_i c
        cases hb : (PL.g m.T p).1 with
        | true => rfl
        | false => exact absurd ⟨hp, by omega, hb⟩ c
    have hval : ∀ p, (PL.g T2 p).1 = true → (PL.g T2 p).2 = X.getD p 0 := fun p hp => by
      rw [hg] at hp ⊢
      split
      · rename_i c
        show D.getD (p - of) 0 = _
        rw [hat (p - of) (by omega), show of + (p - of) = p by omega]
      · rename_i c
        rw [if_neg c] at hp
        exact I.val p hp
    have hfin : (m.sized || fb) = true → (if fb then (of : Int) + D.length else m.final) = X.length := fun hs => by
      cases hfb' : fb with
      | true => have := hfb hfb'; simp; omega
      | false => rw [hfb'] at hs; simp at hs; simpa using I.fin hs
    refine ⟨⟨⟨?_, I.told, by show T2.length ≤ _; rw [hl]; omega, hval, hfin, ?_, ?_, ?_⟩, rfl, rfl, rfl, Int.le_refl _, Nat.le_refl _, by simp, fun e => by simp at e, hkeep, fun hs => by show (m.sized || fb) = true; rw [hs]; rfl⟩, hin, fun e => by show (m.sized || fb) = true; rw [e]; simp, rfl⟩
    · show (if wholeM (m.sized || fb) (if fb then (of : Int) + D.length else m.final) T2 then 2 else if fb then 1 else m.st) ≤ 3
      generalize wholeM (m.sized || fb) (if fb then (of : Int) + D.length else m.final) T2 = W
      split
      · omega
      · split <;> omega
    · show (if wholeM (m.sized || fb) (if fb then (of : Int) + D.length else m.final) T2 then 2 else if fb then 1 else m.st) < 2 → wholeM (m.sized || fb) (if fb then (of : Int) + D.length else m.final) T2 = false
      intro hh
      cases hw : wholeM (m.sized || fb) (if fb then (of : Int) + D.length else m.final) T2 with
      | false => rfl
      | true => rw [hw] at hh; simp at hh
    · show 2 ≤ (if wholeM (m.sized || fb) (if fb then (of : Int) + D.length else m.final) T2 then 2 else if fb then 1 else m.st) → (m.sized || fb) = true ∧ _
      intro hh
      cases hw : wholeM (m.sized || fb) (if fb then (of : Int) + D.length else m.final) T2 with
      | false =>
        rw [hw] at hh
        simp only [Bool.false_eq_true, if_false] at hh
        split at hh <;> omega
      | true =>
        have hs : (m.sized || fb) = true := by
          cases hs : (m.sized || fb) with
          | true => rfl
          | false => rw [hs, whole_no] at hw; cases hw
        refine ⟨hs, ?_⟩
        rw [hs, hfin hs] at hw
        have := ((all_there _ _).1 hw).2
        simpa using this
    · show (if wholeM (m.sized || fb) (if fb then (of : Int) + D.length else m.final) T2 then 2 else if fb then 1 else m.st) = 3 → m.read = X.length
      generalize wholeM (m.sized || fb) (if fb then (of : Int) + D.length else m.final) T2 = W
      intro hh
      split at hh
      · omega
      · split at hh <;> omega
theorem read_fin (win : Nat) (X : List Int) (m : MS) (r : Int) (hr : (X.length : Int) ≤ r) (h0 : 0 < X.length) (I : PrI X m) (hrd : m.read = 0) (hsz : m.sized = true) (hall : ∀ p, p < X.length → (PL.g m.T p).1 = true) :
    (mstep win m (rdO r)).2.f4 = true ∧ (mstep win m (rdO r)).2.f3 = X := by
  have hfin := I.fin hsz
  have hlen : X.length ≤ m.T.length := by
    have := hall (X.length - 1) (by omega)
    rcases Nat.lt_or_ge (X.length - 1) m.T.length with q | q
    · omega
    · rw [g_out m.T _ q] at this; cases this
  have htl := I.tl
  have hst : m.st = 2 := by
    have h3 := I.st
    have hw : wholeM m.sized m.final m.T = true := by
      rw [hsz, hfin]
      refine (all_there _ _).2 ⟨by omega, fun p hp => hall p (by omega)⟩
    have h2 : ¬ m.st < 2 := fun z => by have := I.nw z; rw [hw] at this; cases this
    have h4 : m.st ≠ 3 := fun z => by have := I.rd z; omega
    omega
  obtain ⟨k, ek⟩ : ∃ k, k = rdk m.T m.read r.toNat := ⟨_, rfl⟩
  have hrl := rdk_len m.T m.read r.toNat (by omega)
  have hal := rdk_all m.T m.read r.toNat
  rw [← ek] at hrl hal
  have hk : k = X.length := by
    rcases rdk_end m.T m.read r.toNat with q | q
    · rw [← ek] at q; omega
    · rw [← ek] at q
      rcases Nat.lt_or_ge (m.read + k) X.length with z | z
      · rw [hall _ z] at q; cases q
      · omega
  obtain ⟨s2, es⟩ : ∃ s2, s2 = if m.st = 2 ∧ ((m.read + k : Nat) : Int) = m.final then 3 else m.st := ⟨_, rfl⟩
  have hs2 : s2 = 3 := by rw [es, if_pos ⟨hst, by rw [hfin]; omega⟩]
  obtain ⟨t2, et⟩ : ∃ t2, t2 = if s2 = 0 then cnV ((m.read + k : Nat) : Int) win m.told else m.told := ⟨_, rfl⟩
  have e2 : mread win m r = ({ m with st := s2, read := m.read + k, told := t2 }, ((m.T.drop m.read).take k).map (·.2), 0) := by
    unfold mread; rw [if_neg (by omega), if_neg (by omega), et, es, ek]
  have e1 : (mstep win m (rdO r)).2 = ⟨0, s2, t2, ((m.T.drop m.read).take k).map (·.2), decide ((0 : Int) = 0 ∧ s2 = 3)⟩ := by
    show (let z := mread win m r; (z.1, (⟨z.2.2, z.1.st, z.1.told, z.2.1, decide (z.2.2 = 0 ∧ z.1.st = 3)⟩ : SRecvObs))).2 = _
    rw [e2]
  rw [e1]
  refine ⟨by simp [hs2], ?_⟩
  have ht := take_read X m.T m.read k I.val hal hrl I.tl
  rw [hrd] at ht ⊢
  simp only [Nat.zero_add, List.take_zero, List.nil_append] at ht
  show ((m.T.drop 0).take k).map (·.2) = X
  rw [← ht, hk, List.take_length]
theorem mem_snoc_take {α : Type} [Inhabited α] (P : List α) (j : Nat) (hj : j < P.length) (x : α) (h : x ∈ P.take (j + 1)) : x ∈ P.take j ∨ x = P.getD j default := by
  have e : P.take (j + 1) = P.take j ++ [P.getD j default] := by
    rw [List.take_add_one, List.getD_eq_getElem?_getD, List.getElem?_eq_getElem hj]
    rfl
  rw [e] at h
  rcases List.mem_append.1 h with z | z
  · exact Or.inl z
  · exact Or.inr (by simpa using z)
theorem run_gen (win : Nat) (hw : 1000 ≤ win) (X : List Int) (P T : List SRecvOp) (hN : X.length ≤ 604) (hv : ValR X P) : ∀ j, j ≤ P.length → PrI X (mrun win (P ++ T) j).1 ∧ (mrun win (P ++ T) j).1.read = 0 ∧
    ∀ a b f, gpO X a b f ∈ P.take j → (∀ p, a ≤ p → p < b → b ≤ X.length → (PL.g (mrun win (P ++ T) j).1.T p).1 = true) ∧ (f = true → (mrun win (P ++ T) j).1.sized = true)
  | 0, _ => ⟨⟨by show (0 : Nat) ≤ 3; omega, by show (1000 : Int) ≤ (win : Int); omega, Nat.zero_le _, fun p hp => by simp [mrun, PL.g] at hp, fun e => by simp [mrun] at e, fun _ => rfl, fun e => by simp [mrun] at e, fun e => by simp [mrun] at e⟩, rfl, fun a b f h => by simp at h⟩
  | j + 1, hj => by
    obtain ⟨I, hr, K⟩ := run_gen win hw X P T hN hv j (by omega)
    have eg : (P ++ T).getD j default = P.getD j default := by simp [List.getD, List.getElem?_append_left (show j < P.length by omega)]
    have em : (mrun win (P ++ T) (j + 1)).1 = (mstep win (mrun win (P ++ T) j).1 ((P ++ T).getD j default)).1 := rfl
    rw [em, eg]
    have hmem : P.getD j default ∈ P := by
      rw [List.getD_eq_getElem?_getD, List.getElem?_eq_getElem (show j < P.length by omega)]
      exact List.getElem_mem _
    obtain ⟨a, b, f, eo, hab, hb, hf⟩ := hv _ hmem
    rw [eo]
    obtain ⟨S, P1, P2, P3⟩ := data_gen win X a b f (mrun win (P ++ T) j).1 hN hab hb hf I
    refine ⟨S.pi, by rw [P3]; exact hr, fun a' b' f' h => ?_⟩
    rcases mem_snoc_take P j (by omega) _ h with z | z
    · obtain ⟨Q1, Q2⟩ := K a' b' f' z
      exact ⟨fun p p1 p2 p3 => S.keep p (Q1 p p1 p2 p3), fun e => S.sz (Q2 e)⟩
    · rw [eo] at z
      have z1 : (a' : Int) = (a : Int) := congrArg SRecvOp.f1 z
      have z2 : ((X.drop a').take (b' - a')).length = ((X.drop a).take (b - a)).length := congrArg (fun o => (SRecvOp.f3 o).length) z
      have z3 : f' = f := congrArg SRecvOp.f4 z
      rw [List.length_take, List.length_drop, List.length_take, List.length_drop] at z2
      exact ⟨fun p p1 p2 p3 => P1 p (by omega) (by omega), fun e => P2 (by rw [← z3]; exact e)⟩
/-- All that came is read, and the end told. -/
theorem recv_all (win : Nat) (hw : 1000 ≤ win) (X : List Int) (P : List SRecvOp) (r : Int) (hr : (X.length : Int) ≤ r) (h0 : 0 < X.length) (hN : X.length ≤ 604) (hv : ValR X P) (hf : FinIn X P) (hc : ∀ q, q < X.length → Cov X P q) :
    ((mrun win (P ++ [rdO r]) (P ++ [rdO r]).length).2.getD P.length default).f4 = true ∧ ((mrun win (P ++ [rdO r]) (P ++ [rdO r]).length).2.getD P.length default).f3 = X := by
  obtain ⟨I, hrd, K⟩ := run_gen win hw X P [rdO r] hN hv P.length (Nat.le_refl _)
  rw [List.take_length] at K
  rw [mrun_at win (P ++ [rdO r]) P.length (P ++ [rdO r]).length (by simp)]
  have eg : (P ++ [rdO r]).getD P.length default = rdO r := by simp [List.getD]
  rw [eg]
  refine read_fin win X _ r hr h0 I hrd ?_ (fun p hp => ?_)
  · obtain ⟨a, ha, h⟩ := hf
    exact (K a X.length true h).2 rfl
  · obtain ⟨a, b, f, h, h1, h2, h3⟩ := hc p hp
    exact (K a b f h).1 p h1 h2 h3
end Go.Proofs.YtpdclbfjngmppaaDoor

namespace Go.Proofs.YtpdclbfjngmppaaDoor
open Go.RowKit
set_option linter.unusedVariables false

theorem conv_anyP {P : Program} {w : World} {e ts tstr : Nat} {v : Value} {xs : List Int} (hs : P.underlying ts = some (.slice e)) (he : P.underlying e = some (.int .u8)) (hd : P.underlying tstr = some .string)
    (h : Row w .u8 v xs) : (convert ts tstr v).run P w = .ok (.string (strOfNums xs)) w := by
  by_cases h0 : 0 < xs.length
  · obtain ⟨b, off, cap, rfl, hb, hc⟩ := h.at h0
    exact run_convert_bytes_arg w ts e hs he b off xs.length cap xs rfl hc tstr hd
  · obtain rfl : xs = [] := List.eq_nil_of_length_eq_zero (by omega)
    obtain ⟨ao, cap, rfl⟩ := h.form
    cases ao with
    | none => exact run_convert_bytes_nil w ts e hs he 0 cap tstr hd
    | some p => simp [convert, run_underlying hs, run_underlying he, run_underlying hd, Conv.bytesToString, loadCells, loadCellsFrom, strOfNums]; rfl
theorem sameP (va vb : Value) (xs : List Int) (w : World) (ha : Row w .u8 va xs) (hb : Row w .u8 vb xs) :
    Calls Tryd.prog 7 #[va, vb] w fun e w' => e = .returned (.bool true) ∧ w' = w := by
  have c1 := conv_anyP (P := Tryd.prog) Tryd.underlying22 Tryd.underlying5 Tryd.underlying9 ha
  have c2 := conv_anyP (P := Tryd.prog) Tryd.underlying22 Tryd.underlying5 Tryd.underlying9 hb
  clear ha hb
  generalize strOfNums xs = s at c1 c2
  have ht : (s.toList == s.toList) = true := by simp
  go_enter Tryd.func7, Tryd.ntmps7
  go_wp2
  go_ret
  exact ⟨rfl, rfl⟩
/-- What at tells, whatever n from 1 on. -/
def atN (ys : List Int) (i n : Nat) : Nat := if n = 1 then 0 else (atV ys i (n : Int)).toNat
theorem atN_lt (ys : List Int) (i n : Nat) (hn : 1 ≤ n) : atN ys i n < n := by
  unfold atN
  split
  · omega
  · have hb := atV_bd ys i (n : Int) (by omega)
    omega
theorem infoI64 : (Tryd.prog.info? 3).map (fun i => (i.zero, i.size, i.bytes)) = some (some (.int .i64 0), 1, 8) := by kernel_rfl
/-- 'append(own, x)' of a number, a step of a region that draws. -/
theorem step_append_i {w : World} {ops : Array Oper} {o : Oper} {a : Act} {K : Act → World → Prop} {Q : Exit → Act → World → Prop} {E : Prop} (hgd : o.guard = none) (p q : Operand)
    (ho : o.op = .call { callee := .builtin .append, args := #[p, q], argTypes := #[38, 38] })
    (base : Nat) (v : Value) (L : List Int) (hp : a.eval p = v) (hown : w.ownsRow base 3 1 v L.length (L.map (Value.int .i64))) (g : Nat) (x : Int) (hq : a.eval q = .slice (some ⟨g, 0, none⟩) 1 1) (hx : w.cell? ⟨g, 0, none⟩ = some (.int .i64 x)) (h63 : L.length + 1 ≤ 1099511627776) (hbase : base ≤ w.heap.size)
    (h : ∀ v' w', w'.ownsRow base 3 1 v' (L.length + 1) ((L ++ [x]).map (Value.int .i64)) → w.grownBy w' v.ownBlock → K (a.put o.dst v') w') :
    if Region.wanted o (yielded ops a.tmps) = true then Oper.wp Tryd.prog o a w K Q else E := by
  have hw : Region.wanted o (yielded ops a.tmps) = true := by simp [Region.wanted, hgd]
  rw [if_pos hw]
  obtain ⟨i0, hi, hz0, hz1, hz2⟩ := info_parts infoI64
  obtain ⟨v', w', hr, h2, h3, _⟩ := run_append_own (P := Tryd.prog) w base 38 o.type 3 i0 _ 1 8 Tryd.underlying38 hi hz0 hz1 hz2 rfl (by decide) v L.length _ hown ⟨g, 0, none⟩ 1 1 [.int .i64 x] rfl (by
    intro j u hj
    match j, hj with
    | 0, hj => simp at hj; subst hj; rw [Go.WideShapes.add_plain]; exact hx) (by intro u hu; simp at hu; subst hu; rfl) (by unfold maxLen; omega) (by omega) hbase
  unfold Oper.wp
  simp [execOp, ho, resolve, invoke, builtin, hp, hq, hr, Result.andThen]
  exact h v' w' (by simpa using h2) h3
theorem ownsBlkP {w w' : World} {base e s n : Nat} {v : Value} {xs : List Value} (ho : w.ownsRow base e s v n xs) (hne : ∀ k, k < w.heap.size → v.ownBlock = some k → w'.heap[k]? = w.heap[k]?) : w'.ownsRow base e s v n xs := by
  obtain ⟨hl, h2⟩ := ho
  refine ⟨hl, ?_⟩
  rcases h2 with h2 | ⟨g', cap, cur, rfl, hg, hh, r⟩
  · exact Or.inl h2
  · exact Or.inr ⟨g', cap, cur, rfl, hg, (hne g' (Array.getElem?_eq_some_iff.1 hh).1 rfl).trans hh, r⟩
theorem constB (w : World) (C : Array Value) (n c : Nat) : (convert 22 22 (.slice (some ⟨w.heap.size, 0, none⟩) n c)).run Tryd.prog (w.alloc (.cells C 5)) = .ok (.slice (some ⟨w.heap.size, 0, none⟩) n c) (w.alloc (.cells C 5 (C.size, C.size + 1))) :=
  Lib.run_convert_bytes_const w 22 5 C n c Tryd.underlying22 Tryd.underlying5
theorem run_append_fullP {w : World} (ty : TypeId) (b off n : Nat) (xs : List Int) (en : xs.length = n) (hx : Row w .u8 (.slice (some ⟨b, off, none⟩) n n) xs)
    (v2 : Value) (ys : List Int) (hrow : Row w .u8 v2 ys) (h0 : 0 < ys.length) (h1 : 0 < n) (h63 : n + ys.length ≤ 1099511627776) :
    ∃ v' w', (Builtin.append_ #[22, 22] ty #[.slice (some ⟨b, off, none⟩) n n, v2]).run Tryd.prog w = .ok v' w' ∧ w'.ownsRow w.heap.size 5 1 v' (n + ys.length) ((xs ++ ys).map (Value.int .u8)) ∧ w.grownBy w' none := by
  obtain ⟨i, hi, hz, hsize, hby⟩ := info_parts infoBy
  obtain ⟨b2, off2, cap2, rfl, hb2, hc2⟩ := hrow.at h0
  obtain ⟨b1, off1, cap1, e1, hb1, hc1⟩ := hx.at (by omega)
  rw [en] at e1 hc1
  cases e1
  have rd : ∀ (zs : List Int) (bb oo : Nat), (∀ j, j < zs.length → w.cell? ⟨bb, oo + j, none⟩ = some (.int .u8 (zs.getD j 0))) → ∀ (j : Nat) (u : Value), (zs.map (Value.int .u8))[j]? = some u → w.cell? ((⟨bb, oo, none⟩ : Addr).add j) = some u := by
    intro zs bb oo hc j u hj
    have hj' : j < zs.length := by
      have := (List.getElem?_eq_some_iff.1 hj).1
      rwa [List.length_map] at this
    rw [Go.WideShapes.add_plain, hc j hj']
    rw [List.getElem?_map, List.getElem?_eq_getElem hj'] at hj
    simp only [Option.map_some, Option.some.injEq] at hj
    rw [← hj]
    simp [List.getD, hj']
  have hr := run_append_grow (P := Tryd.prog) w 22 ty 5 i (.int .u8 0) Tryd.underlying22 hi hz ⟨b, off, none⟩ n n (xs.map (Value.int .u8)) (by rw [hsize]; simp [en]) (rd xs b off (by rw [en]; exact hc1)) ⟨b2, off2, none⟩ ys.length cap2 (ys.map (Value.int .u8)) (by rw [hsize]; simp) (rd ys b2 off2 hc2) (by omega) (by omega) (growslice_fits (by omega) (by rw [hby]; omega))
  have hge := grownCap_ge w (n + ys.length) n 5
  have hcm : grownCap w (n + ys.length) n 5 ≤ maxLen := grownCap_le_maxLen w (n + ys.length) n 5 (by unfold maxLen; omega)
  refine ⟨_, _, hr, ⟨by simp [en], .inr ⟨w.heap.size, _, _, rfl, Nat.le_refl _, heap_alloc_new w.drew _, hge, hcm, ?_, ?_⟩⟩, ⟨rfl, rfl, rfl, by simp, fun k hk _ => Below.heap_alloc w.drew _ k hk⟩⟩
  · simp only [Array.size_append, List.size_toArray, size_zeroCells, List.length_map, en]
    show n + ys.length + (grownCap w (n + ys.length) n 5 - (n + ys.length)) * 1 = _
    omega
  · simp only [Array.toList_append, List.append_assoc]
    rw [← List.append_assoc, ← List.map_append]
    have e : (n + ys.length) * 1 = ((xs ++ ys).map (Value.int .u8)).length := by simp [en]
    rw [e]
    exact List.take_left
/-- 'append([]byte("text"), row...)'. -/
theorem wpList_append_txt {w : World} {ops : Array Oper} {rest : List Oper} {o : Oper} {a : Act} {Q : Exit → Act → World → Prop} (hgd : o.guard = none) (p q : Operand)
    (ho : o.op = .call { callee := .builtin .append, args := #[p, q], argTypes := #[22, 22] })
    (b n : Nat) (xs : List Int) (en : xs.length = n) (hp : a.eval p = .slice (some ⟨b, 0, none⟩) n n) (hx : Row w .u8 (.slice (some ⟨b, 0, none⟩) n n) xs)
    (v2 : Value) (ys : List Int) (hq : a.eval q = v2) (hrow : Row w .u8 v2 ys) (h1 : 0 < n) (h63 : n + ys.length ≤ 1099511627776)
    (h : ∀ v' w', Row w' .u8 v' (xs ++ ys) → Below w.heap.size w w' → wpList Tryd.prog ops Q rest (a.put o.dst v') w') :
    wpList Tryd.prog ops Q (o :: rest) a w := by
  by_cases h0 : 0 < ys.length
  · obtain ⟨v', w', hr, h2, h3⟩ := run_append_fullP o.type b 0 n xs en hx v2 ys hrow h0 h1 h63
    refine wpList_plain hgd fun K hK => ?_
    unfold Oper.wp
    simp [execOp, ho, resolve, invoke, builtin, hp, hq, hr, Result.andThen]
    refine hK _ _ (h v' w' ?_ ((Below.refl _ _).grown h3 (Nat.le_refl _) (by intro k hk; cases hk)))
    have h2' : w'.ownsRow w.heap.size 5 1 v' (n + ys.length) ((xs ++ ys).map (Value.int .u8)) := h2
    exact row_of_owns h2'
  · have hn : ys = [] := List.eq_nil_of_length_eq_zero (by omega)
    subst hn
    obtain ⟨ao, cap, rfl⟩ := hrow.form
    obtain ⟨i, hi, hz, hsize, hby⟩ := info_parts infoBy
    have hrun : (Builtin.append_ #[22, 22] o.type #[.slice (some ⟨b, 0, none⟩) n n, .slice ao 0 cap]).run Tryd.prog w = .ok (.slice (some ⟨b, 0, none⟩) n n) w := by
      cases ao <;> simp [Builtin.append_, run_underlying Tryd.underlying22, sizeOf, typeInfo, hi, Builtin.lenOf, Builtin.firstCells, storeCells, loadCells, loadCellsFrom]
    refine wpList_plain hgd fun K hK => ?_
    unfold Oper.wp
    simp only [List.length_nil] at hq
    simp [execOp, ho, resolve, invoke, builtin, hp, hq, hrun, Result.andThen]
    exact hK _ _ (h _ _ (by simpa using hx) (Below.refl _ _))
theorem txt_row (w : World) : Row (w.alloc (.cells #[.int .u8 116, .int .u8 101, .int .u8 120, .int .u8 116] 5 (4, 5))) .u8 (.slice (some ⟨w.heap.size, 0, none⟩) 4 4) [116, 101, 120, 116] := by
  refine Or.inr ⟨w.heap.size, 0, 4, rfl, by simp, ⟨Nat.le_refl _, by unfold maxLen; decide⟩, fun j hj => ?_⟩
  have hh := heap_alloc_new w (.cells #[.int .u8 116, .int .u8 101, .int .u8 120, .int .u8 116] 5 (4, 5))
  rw [Nat.zero_add]
  rw [blkS_cell hh]
  rcases (show j = 0 ∨ j = 1 ∨ j = 2 ∨ j = 3 by simp at hj; omega) with rfl | rfl | rfl | rfl <;> rfl
theorem own_formP {w : World} {base n : Nat} {v : Value} {xs : List Int} {T : TypeId} {k : IntKind} (h : w.ownsRow base T 1 v n (xs.map (Value.int k))) (hn : 0 < n) : ∃ g cap, v = .slice (some ⟨g, 0, none⟩) n cap ∧ g < w.heap.size ∧ base ≤ g ∧ n ≤ cap ∧ cap ≤ maxLen ∧ ∀ j, j < n → w.cell? ⟨g, j, none⟩ = some (.int k (xs.getD j 0)) := by
  have hl : xs.length = n := by have := h.1; simpa using this
  rcases h.2 with ⟨rfl, e⟩ | ⟨g, cap, cur, rfl, hg, hh, hnc, hcm, _⟩
  · omega
  · refine ⟨g, cap, rfl, (Array.getElem?_eq_some_iff.1 hh).1, hg, hnc, hcm, fun j hj => ?_⟩
    rw [h.cellAt j (by omega)]
    simp [List.getD, show j < xs.length by omega]
theorem row_cutP {w : World} {b off N ct : Nat} {X : List Int} (h : Row w .u8 (.slice (some ⟨b, off, none⟩) N ct) X) (hX : X.length = N) (p k : Nat) (hk : p + k ≤ N) : Row w .u8 (.slice (some ⟨b, off + p, none⟩) k (ct - p)) ((X.drop p).take k) := by
  rcases h with ⟨rfl, ao', cap', e⟩ | ⟨b', off', cap, e, hb, hc, hx⟩
  · simp at hX
    subst hX
    obtain rfl : k = 0 := by omega
    exact Or.inl ⟨by simp, _, _, rfl⟩
  · cases e
    refine Or.inr ⟨b, off + p, ct - p, by simp; omega, hb, ⟨by simp; omega, by omega⟩, fun j hj => ?_⟩
    have hj' : j < k := by simp at hj; omega
    have := hx (p + j) (by omega)
    rw [Nat.add_assoc, this]
    simp only [List.getD]
    rw [List.getElem?_take_of_lt hj', List.getElem?_drop]
theorem lit1P (w : World) (x : Value) (t : TypeId) : (w.alloc (.cells #[x] t)).cell? ⟨w.heap.size, 0, none⟩ = some x := bk_cell (heap_alloc_new w _) 0
end Go.Proofs.YtpdclbfjngmppaaDoor

namespace Go.Proofs.YtpdclbfjngmppaaDoor
open Go.RowKit
set_option linter.unusedVariables false
set_option linter.unusedSimpArgs false

theorem infoSO5P : (Tryd.prog.info? 32).map (fun i => (i.zero, i.size, i.bytes)) = some (some (.agg #[.int .i64 0, .int .i64 0, .int .i64 0, .slice none 0 0, .bool false]), 5, 56) := by kernel_rfl
/-- 'append(own, x)' of an operation: what it does. -/
theorem run_append_opS {w : World} (ty : TypeId) (base : Nat) (v : Value) (n : Nat) (ys : List Value) (hown : w.ownsRow base 32 5 v n ys) (g : Nat) (x0 x1 x2 x3 x4 : Value) (hx : x0.oneCell' = true ∧ x1.oneCell' = true ∧ x2.oneCell' = true ∧ x3.oneCell' = true ∧ x4.oneCell' = true)
    (hc : w.heap[g]? = some (.cells #[x0, x1, x2, x3, x4] 32 (0, 0))) (h63 : n + 1 ≤ 1099511627776) (hbase : base ≤ w.heap.size) :
    ∃ v' w', (Builtin.append_ #[23, 23] ty #[v, .slice (some ⟨g, 0, none⟩) 1 1]).run Tryd.prog w = .ok v' w' ∧ w'.ownsRow base 32 5 v' (n + 1) (ys ++ [x0, x1, x2, x3, x4]) ∧ w.grownBy w' v.ownBlock := by
  obtain ⟨i0, hi, hz0, hz1, hz2⟩ := info_parts infoSO5P
  obtain ⟨v', w', hr, h2, h3, _⟩ := run_append_own (P := Tryd.prog) w base 23 ty 32 i0 _ 5 56 Tryd.underlying23 hi hz0 hz1 hz2 rfl (by decide) v n ys hown ⟨g, 0, none⟩ 1 1 [x0, x1, x2, x3, x4] rfl (by
    intro j u hj
    rw [Go.WideShapes.add_plain]
    have e := bk_cell hc (0 + j)
    rw [e, Nat.zero_add]
    have hl : j < 5 := by have := (List.getElem?_eq_some_iff.1 hj).1; simpa using this
    rw [← hj]
    obtain rfl | rfl | rfl | rfl | rfl : j = 0 ∨ j = 1 ∨ j = 2 ∨ j = 3 ∨ j = 4 := by omega
    all_goals rfl) (by
    intro u hu
    simp only [List.mem_cons, List.not_mem_nil, or_false] at hu
    obtain ⟨a0, a1, a2, a3, a4⟩ := hx
    rcases hu with rfl | rfl | rfl | rfl | rfl <;> assumption) (by unfold maxLen; omega) (by omega) hbase
  exact ⟨v', w', hr, h2, h3⟩
theorem wpList_append_opS {w : World} {ops : Array Oper} {rest : List Oper} {o : Oper} {a : Act} {Q : Exit → Act → World → Prop} (hgd : o.guard = none) (p q : Operand)
    (ho : o.op = .call { callee := .builtin .append, args := #[p, q], argTypes := #[23, 23] })
    (base : Nat) (v : Value) (n : Nat) (ys : List Value) (hp : a.eval p = v) (hown : w.ownsRow base 32 5 v n ys) (g : Nat) (x0 x1 x2 x3 x4 : Value) (hx : x0.oneCell' = true ∧ x1.oneCell' = true ∧ x2.oneCell' = true ∧ x3.oneCell' = true ∧ x4.oneCell' = true)
    (hq : a.eval q = .slice (some ⟨g, 0, none⟩) 1 1) (hc : w.heap[g]? = some (.cells #[x0, x1, x2, x3, x4] 32 (0, 0))) (h63 : n + 1 ≤ 1099511627776) (hbase : base ≤ w.heap.size)
    (h : ∀ v' w', w'.ownsRow base 32 5 v' (n + 1) (ys ++ [x0, x1, x2, x3, x4]) → w.grownBy w' v.ownBlock → wpList Tryd.prog ops Q rest (a.put o.dst v') w') :
    wpList Tryd.prog ops Q (o :: rest) a w := by
  obtain ⟨v', w', hr, h2, h3⟩ := run_append_opS o.type base v n ys hown g x0 x1 x2 x3 x4 hx hc h63 hbase
  refine wpList_plain hgd fun K hK => ?_
  unfold Oper.wp
  simp [execOp, ho, resolve, invoke, builtin, hp, hq, hr, Result.andThen]
  exact hK _ _ (h v' w' h2 h3)
/-- The operations as the law's own list. -/
structure OpS (w : World) (base : Nat) (v : Value) (R : List SSendOp) (U : Nat → Value) (zs : List Value) : Prop where
  ow : w.ownsRow base 32 5 v R.length zs
  cs : ∀ j, j < R.length → ∀ f, f < 5 → zs[j * 5 + f]? = ((R.getD j default).c (U j))[f]?
  inn : ∀ j, j < R.length → w.ownsRow base 5 1 (U j) (R.getD j default).d.length ((R.getD j default).d.map (Value.int .u8))
theorem OpS.brow {w : World} {base : Nat} {v : Value} {R : List SSendOp} {U : Nat → Value} {zs : List Value} (h : OpS w base v R U zs) : BRow 5 SSendOp.c SSendOp.d w v R :=
  ⟨U, GOwns.row (T := 32) (base := base) ⟨zs, by rw [zl_length]; exact h.ow, fun j hj f hf => by rw [zl_length] at hj; rw [zl_at _ _ _ _ hj]; exact h.cs j hj f hf⟩, fun j hj => row_of_owns (h.inn j hj)⟩
theorem OpS.below {w w' : World} {base : Nat} {v : Value} {R : List SSendOp} {U : Nat → Value} {zs : List Value} (h : OpS w base v R U zs) (hb : Below w.heap.size w w') : OpS w' base v R U zs :=
  ⟨owns_below h.ow hb, h.cs, fun j hj => owns_below (h.inn j hj) hb⟩
theorem ops0S (w : World) (base : Nat) (hb : base ≤ w.heap.size) : OpS (w.alloc (.cells #[] 32)) base (.slice (some ⟨w.heap.size, 0, none⟩) 0 0) [] (fun _ => .slice none 0 0) [] :=
  ⟨World.ownsRow_lit _ #[] 0 hb (by decide) rfl, fun j hj => by simp at hj, fun j hj => by simp at hj⟩
/-- Behind an append: w is the world ahead of it, with the literal and what it holds. -/
theorem OpS.push {w w' : World} {base : Nat} {v v' : Value} {R : List SSendOp} {U : Nat → Value} {zs : List Value} (h : OpS w base v R U zs) (o : SSendOp) (u : Value) (hu : w.ownsRow base 5 1 u o.d.length (o.d.map (Value.int .u8)))
    (o6 : w'.ownsRow base 32 5 v' (R.length + 1) (zs ++ o.c u)) (g6 : w.grownBy w' v.ownBlock) : OpS w' base v' (R ++ [o]) (fun j => if j = R.length then u else U j) (zs ++ o.c u) := by
  have hzl : zs.length = R.length * 5 := h.ow.1
  have keep : ∀ {z : Value} {n : Nat} {L : List Value}, w.ownsRow base 5 1 z n L → w'.ownsRow base 5 1 z n L := fun hz =>
    ownsBlkP hz (fun k hk e => g6.block k hk (fun e2 => types_apartB (by decide) h.ow hz k e2.symm e.symm))
  refine ⟨by simpa using o6, fun j hj f hf => ?_, fun j hj => ?_⟩
  · rw [List.length_append, List.length_singleton] at hj
    rw [getD_snoc]
    by_cases e : j < R.length
    · rw [if_pos e, if_neg (by omega), List.getElem?_append_left (by rw [hzl]; exact jK_lt e hf)]
      exact h.cs j e f hf
    · have e2 : j = R.length := by omega
      subst e2
      rw [if_neg e, if_pos rfl, if_pos rfl, List.getElem?_append_right (by rw [hzl]; omega), hzl, Nat.add_sub_cancel_left]
  · rw [List.length_append, List.length_singleton] at hj
    rw [getD_snoc]
    by_cases e : j < R.length
    · rw [if_pos e, if_neg (by omega)]; exact keep (h.inn j e)
    · rw [if_neg e, if_pos (by omega), if_pos (by omega)]; exact keep hu
theorem own_keepP {w w' : World} {T e b1 b2 s1 s2 n1 n2 : Nat} {v u : Value} {x1 x2 : List Value} (hT : T ≠ e) (hv : w.ownsRow b1 T s1 v n1 x1) (g : w.grownBy w' v.ownBlock) (h : w.ownsRow b2 e s2 u n2 x2) : w'.ownsRow b2 e s2 u n2 x2 :=
  ownsBlkP h (fun k hk e2 => g.block k hk (fun e3 => by
    obtain ⟨c1, t1⟩ := owns_typeB hv k e3.symm
    obtain ⟨c2, t2⟩ := owns_typeB h k e2
    rw [t1] at t2
    have := Option.some.inj t2
    injection this with _ ht
    exact hT ht))
theorem BOwns.keepP {α : Type} [Inhabited α] {w w' : World} {T T2 b1 b2 s1 n1 K : Nat} {v u : Value} {x1 : List Value} {c : α → Value → List Value} {d : α → List Int} {L : List α} (hT : T ≠ T2) (hT8 : T ≠ 5) (hv : w.ownsRow b1 T s1 v n1 x1) (g : w.grownBy w' v.ownBlock) (h : BOwns T2 K c d w b2 u L) : BOwns T2 K c d w' b2 u L := by
  obtain ⟨U, ⟨zs, o, hz⟩, r, a⟩ := h
  exact ⟨U, ⟨zs, own_keepP hT hv g o, hz⟩, fun j hj => own_keepP hT8 hv g (r j hj), a⟩
/-- What SendRun asks of its operations. -/
def GoodS (A : List SSendOp) : Prop := ∀ o ∈ A, o.d.length ≤ 65536 ∧ o.f2 ≤ 9223372036854775807
theorem GoodS.at {A : List SSendOp} (h : GoodS A) (j : Nat) (hj : j < A.length) : (A.getD j default).d.length ≤ 140737488355328 ∧ (A.getD j default).f2 ≤ 9223372036854775807 := by
  have hm : A.getD j default ∈ A := by
    rw [List.getD_eq_getElem?_getD, List.getElem?_eq_getElem hj]
    exact List.getElem_mem _
  have := h _ hm
  omega
theorem GoodS.more {A : List SSendOp} (h : GoodS A) (o : SSendOp) (h1 : o.d.length ≤ 65536) (h2 : o.f2 ≤ 9223372036854775807) : GoodS (A ++ [o]) := fun x hx => by
  rcases List.mem_append.1 hx with z | z
  · exact h x z
  · have : x = o := by simpa using z
    rw [this]; exact ⟨h1, h2⟩
theorem sstep_lenP (m : SS) (o : SSendOp) (h : m.B.length ≤ 65536) : (sstep m o).2.f3.length ≤ 65536 := by
  unfold sstep
  split
  · exact Nat.zero_le _
  split
  · exact Nat.zero_le _
  split
  · exact Nat.zero_le _
  split
  · split
    · exact Nat.zero_le _
    · show (spull m o.f2.toNat).2.2.1.length ≤ _
      unfold spull
      split
      · exact Nat.zero_le _
      · split
        · exact Nat.zero_le _
        · simp only [List.length_take, List.length_drop]; omega
  split
  · exact Nat.zero_le _
  split
  · exact Nat.zero_le _
  split
  · split <;> exact Nat.zero_le _
  split
  · split <;> exact Nat.zero_le _
  · exact Nat.zero_le _
theorem sobs_f3 (A : List SSendOp) (j : Nat) (hj : j < A.length) : ((sobs A).getD j default).f3.length ≤ 65536 := by
  unfold sobs
  rw [srun_at A j A.length hj]
  exact sstep_lenP _ _ (srun_SI A j).big
theorem good_addK {A : List SSendOp} (h : GoodS A) (k : Int) (o : SSendObs) (ho : o.f3.length ≤ 65536) : GoodS (addK k o A) := by
  unfold addK
  split
  · exact h.more _ (Nat.zero_le _) (by show (o.f3.length : Int) ≤ _; omega)
  · exact h
theorem good_pkA (X : List Int) (sz : Nat → Nat) (h1 : X.length ≤ 65536) (hs : ∀ i, sz i ≤ 1500) : ∀ i, GoodS (pkA X sz i)
  | 0 => fun o ho => by
    have : o = ⟨1, 0, 0, X, false⟩ ∨ o = ⟨2, 0, 0, [], false⟩ ∨ o = ⟨3, 0, (X.length : Int), [], false⟩ := by simpa [pkA, op3] using ho
    rcases this with rfl | rfl | rfl
    · exact ⟨h1, by show (0 : Int) ≤ _; omega⟩
    · exact ⟨Nat.zero_le _, by show (0 : Int) ≤ _; omega⟩
    · exact ⟨Nat.zero_le _, by show (X.length : Int) ≤ _; omega⟩
  | i + 1 => (good_pkA X sz h1 hs i).more _ (Nat.zero_le _) (by have := hs i; show (sz i : Int) ≤ _; omega)
theorem good_pkB (X : List Int) (sz : Nat → Nat) (lo : Nat → Bool) (h1 : X.length ≤ 65536) (hs : ∀ i, sz i ≤ 1500) : ∀ i, i ≤ 60 → GoodS (pkB X sz lo i)
  | 0, _ => good_pkA X sz h1 hs 60
  | i + 1, h => by rw [pkB_succ]; exact good_addK (good_pkB X sz lo h1 hs i (by omega)) _ _ (sobs_f3 _ _ (by rw [pkA_len]; omega))
theorem good_pkC (X : List Int) (sz : Nat → Nat) (lo : Nat → Bool) (h1 : X.length ≤ 65536) (hs : ∀ i, sz i ≤ 1500) : ∀ j, GoodS (pkC X sz lo j)
  | 0 => good_pkB X sz lo h1 hs 60 (Nat.le_refl _)
  | j + 1 => by rw [pkC_succ]; exact (good_pkC X sz lo h1 hs j).more _ (Nat.zero_le _) (by show (1500 : Int) ≤ _; omega)
theorem good_pkD (X : List Int) (sz : Nat → Nat) (lo : Nat → Bool) (h1 : X.length ≤ 65536) (hs : ∀ i, sz i ≤ 1500) : ∀ k, k ≤ 60 → GoodS (pkD X sz lo k)
  | 0, _ => good_pkC X sz lo h1 hs 60
  | k + 1, h => by rw [pkD_succ]; exact good_addK (good_pkD X sz lo h1 hs k (by omega)) _ _ (by rw [← obS_is X sz lo k 60 (by omega)]; exact sobs_f3 _ _ (by rw [pkC_len]; omega))
/-- SendRun of one of these lists. -/
theorem sendP (A : List SSendOp) (w2 wx : World) (ov : Value) (U : Nat → Value) (zs : List Value) (w : World) (hw : Below w.heap.size w wx) (ht : TabF w) (hS : OpS wx w2.heap.size ov A U zs) (hg : GoodS A) (hl : A.length ≤ 400) :
    Calls Tryd.prog 6 #[ov] wx fun e w' => ∃ r, e = .returned (.tuple #[r, .int .i64 0]) ∧ BOwns 30 7 SSendObs.c SSendObs.d w' wx.heap.size r (sobs A) ∧ Below wx.heap.size wx w' := by
  have h0 : 0 < w.heap.size := by
    refine Nat.lt_of_not_le (fun hn => ?_)
    have e : w.heap[0]? = none := Array.getElem?_eq_none (by omega)
    have := ht.c0
    simp [World.cell?, e] at this
  have C := implSR ov A wx (ht.below hw h0) (Nat.lt_of_lt_of_le h0 hw.size) hS.brow (by omega) (fun j hj => (hg.at j hj).1) (fun j hj => (hg.at j hj).2)
  have e1 : srC A = 0 := by unfold srC; rw [if_neg (by omega)]
  have e2 : srY A = sobs A := by unfold srY sobs; rw [if_neg (by omega)]
  rw [e1, e2] at C
  exact C
end Go.Proofs.YtpdclbfjngmppaaDoor

namespace Go.Proofs.YtpdclbfjngmppaaDoor
open Go.RowKit
set_option linter.unusedVariables false
set_option linter.unusedSimpArgs false

def txP (xs : List Int) : List Int := [116, 101, 120, 116] ++ xs.take 600
theorem txP_len (xs : List Int) : (txP xs).length = 4 + min 600 xs.length := by simp [txP]; omega
theorem row_pre {w : World} {ao : Option Addr} {cp k : Nat} {xs : List Int} (h : Row w .u8 (.slice ao xs.length cp) xs) (hk : k ≤ xs.length) : Row w .u8 (.slice ao k cp) (xs.take k) := by
  rcases h with ⟨rfl, ao', cap', e⟩ | ⟨b, off, cap, e, hb, hc, hx⟩
  · obtain rfl : k = 0 := by simpa using hk
    exact Or.inl ⟨rfl, ao, cp, rfl⟩
  · cases e
    refine Or.inr ⟨b, off, cp, by simp; omega, hb, ⟨by simp; omega, hc.2⟩, fun j hj => ?_⟩
    have hj' : j < k := by simp at hj; omega
    rw [hx j (by omega)]
    simp [List.getD, List.getElem?_take_of_lt hj']
theorem cell_ltP {w : World} {b o : Nat} {u : Value} (h : w.cell? ⟨b, o, none⟩ = some u) : b < w.heap.size := by
  refine Nat.lt_of_not_le (fun hn => ?_)
  have e : w.heap[b]? = none := Array.getElem?_eq_none (by omega)
  simp [World.cell?, e] at h
end Go.Proofs.YtpdclbfjngmppaaDoor
