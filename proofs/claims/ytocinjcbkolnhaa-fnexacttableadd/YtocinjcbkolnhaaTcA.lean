import Derived.Test.YtocinjcbkolnhaaTcG
import Derived.Laws.CopyRow
import Derived.Laws.CopyOwn
namespace Go.Proofs.Ytocinjcbkolnhaa
open Go.RowKit
set_option linter.unusedVariables false


/-- The ring's cells. -/
def rcF : List SField → List Value
  | [] => []
  | x :: r => .string x.f0 :: .string x.f1 :: rcF r
theorem rc_lengthF : ∀ L, (rcF L).length = 2 * L.length
  | [] => rfl
  | x :: r => by simp [rcF, rc_lengthF r]; omega
theorem rc_get0F : ∀ (L : List SField) (j : Nat), j < L.length → (rcF L)[j * 2]? = some (.string (L.getD j default).f0)
  | [], j, h => by simp at h
  | x :: r, 0, h => by simp [rcF]
  | x :: r, j + 1, h => by
    have := rc_get0F r j (by simpa using h)
    rw [show (j + 1) * 2 = j * 2 + 1 + 1 by omega]
    simpa [rcF] using this
theorem rc_get1F : ∀ (L : List SField) (j : Nat), j < L.length → (rcF L)[j * 2 + 1]? = some (.string (L.getD j default).f1)
  | [], j, h => by simp at h
  | x :: r, 0, h => by simp [rcF]
  | x :: r, j + 1, h => by
    have := rc_get1F r j (by simpa using h)
    rw [show (j + 1) * 2 + 1 = j * 2 + 1 + 1 + 1 by omega]
    simpa [rcF] using this
def rgBF (w : World) (c : Nat) (L : List SField) : Prop := w.heap[c]? = some (.cells (rcF L).toArray 35 (0, 0))


theorem run_copy2F {P : Program} (w : World) (dT sT ty elem : TypeId) (g o dLen dCap : Nat) (a : Addr) (sLen sCap : Nat) (cur : Array Value) (t : TypeId) (cs : List Value)
    (hu : P.underlying dT = some (.slice elem)) (hs : (P.info? elem).map (·.size) = some 2)
    (hg : w.heap[g]? = some (.cells cur t (0, 0))) (hn : cs.length = Nat.min sLen dLen * 2)
    (hsrc : ∀ j v, cs[j]? = some v → w.cell? (a.add j) = some v) (hfit : o + cs.length ≤ cur.size) (h1 : ∀ v ∈ cs, v.oneCell' = true) :
    (Builtin.copy_ #[dT, sT] ty #[.slice (some ⟨g, o, none⟩) dLen dCap, .slice (some a) sLen sCap]).run P w =
      .ok (goInt (Nat.min sLen dLen)) (w.setRow g (cur.toList.take o ++ cs ++ cur.toList.drop (o + cs.length)).toArray) := by
  have hl := run_loadCells_list (P := P) w a cs hsrc
  have hst := run_storeCells_at P g o t cs 0 cur w hg (by simpa using hfit) h1
  cases hq : P.info? elem with
  | none => simp [hq] at hs
  | some i =>
    have hi : i.size = 2 := by simpa [hq] using hs
    rw [hn] at hl
    simp [Builtin.copy_, run_underlying hu, Builtin.lenOf, Builtin.firstCells, sizeOf, typeInfo, hq, hi, hl, hst]
theorem zeros2F (n : Nat) : (Builtin.zeroCells #[Value.string ⟨#[]⟩, Value.string ⟨#[]⟩] n).toList = rcF (List.replicate n default) := by
  apply List.ext_getElem?
  intro i
  simp only [Builtin.zeroCells, Array.toList_map, Array.toList_range]
  by_cases h : i < n * 2
  · obtain ⟨j, hj⟩ : ∃ j, i = j * 2 ∨ i = j * 2 + 1 := ⟨i / 2, by omega⟩
    rcases hj with rfl | rfl
    · rw [rc_get0F _ j (by simp; omega)]
      simp [show j * 2 < n * 2 by omega, show j < n by omega]; rfl
    · rw [rc_get1F _ j (by simp; omega)]
      simp [show j * 2 + 1 < n * 2 by omega, show j < n by omega, show (j * 2 + 1) % 2 = 1 by omega]; rfl
  · rw [List.getElem?_eq_none (by simp; omega), List.getElem?_eq_none (by rw [rc_lengthF]; simp; omega)]
theorem run_clear2F {P : Program} (w : World) (T ty elem : TypeId) (g o n cap : Nat) (cur : Array Value) (t : TypeId) (h0 : 0 < n)
    (hu : P.underlying T = some (.slice elem)) (hz : (P.info? elem).map (·.zero) = some (some (.agg #[.string ⟨#[]⟩, .string ⟨#[]⟩])))
    (hg : w.heap[g]? = some (.cells cur t (0, 0))) (hfit : o + n * 2 ≤ cur.size) :
    (Builtin.clear_ #[T] ty #[.slice (some ⟨g, o, none⟩) n cap]).run P w = .ok (.tuple #[]) (w.setRow g (cur.toList.take o ++ rcF (List.replicate n default) ++ cur.toList.drop (o + n * 2)).toArray) := by
  have hlen : (rcF (List.replicate n (default : SField))).length = n * 2 := by rw [rc_lengthF]; simp; omega
  have hone : ∀ v ∈ rcF (List.replicate n (default : SField)), v.oneCell' = true := by
    intro v hv
    obtain ⟨i, hi, e⟩ := List.getElem_of_mem hv
    have hg' := List.getElem?_eq_getElem hi
    rw [e] at hg'
    obtain ⟨j, hj⟩ : ∃ j, i = j * 2 ∨ i = j * 2 + 1 := ⟨i / 2, by omega⟩
    rcases hj with rfl | rfl
    · rw [rc_get0F _ j (by simp; omega)] at hg'; cases hg'; rfl
    · rw [rc_get1F _ j (by simp; omega)] at hg'; cases hg'; rfl
  have hst := run_storeCells_at P g o t (rcF (List.replicate n default)) 0 cur w hg (by rw [hlen]; simpa using hfit) hone
  rw [hlen] at hst
  cases hq : P.info? elem with
  | none => simp [hq] at hz
  | some i =>
    have hi : i.zero = some (.agg #[.string ⟨#[]⟩, .string ⟨#[]⟩]) := by simpa [hq] using hz
    have hc : (Value.agg #[.string ⟨#[]⟩, .string ⟨#[]⟩]).cells = #[.string ⟨#[]⟩, .string ⟨#[]⟩] := rfl
    obtain ⟨m, rfl⟩ : ∃ m, n = m + 1 := ⟨n - 1, by omega⟩
    simp [Builtin.clear_, run_underlying hu, zeroValue, typeInfo, hq, hi, hc, zeros2F, hst]


theorem rc_appendF : ∀ A B : List SField, rcF (A ++ B) = rcF A ++ rcF B
  | [], B => rfl
  | x :: r, B => by simp [rcF, rc_appendF r B]
theorem rc_takeF : ∀ (L : List SField) (k : Nat), (rcF L).take (k * 2) = rcF (L.take k)
  | [], k => by simp [rcF]
  | x :: r, 0 => by simp [rcF]
  | x :: r, k + 1 => by
    rw [show (k + 1) * 2 = k * 2 + 1 + 1 by omega]
    simp [rcF, rc_takeF r k]
theorem rc_dropF : ∀ (L : List SField) (k : Nat), (rcF L).drop (k * 2) = rcF (L.drop k)
  | [], k => by simp [rcF]
  | x :: r, 0 => by simp [rcF]
  | x :: r, k + 1 => by
    rw [show (k + 1) * 2 = k * 2 + 1 + 1 by omega]
    simp [rcF, rc_dropF r k]
theorem rc_oneF (L : List SField) : ∀ v ∈ rcF L, v.oneCell' = true := by
  induction L with
  | nil => simp [rcF]
  | cons x r ih =>
    intro v hv
    simp only [rcF, List.mem_cons] at hv
    rcases hv with rfl | rfl | hv
    · rfl
    · rfl
    · exact ih v hv
theorem rg_srcF {w : World} {c : Nat} {L : List SField} (h : rgBF w c L) (r m : Nat) (hm : r + m ≤ L.length) :
    ∀ j v, (rcF ((L.drop r).take m))[j]? = some v → w.cell? ((⟨c, r * 2, none⟩ : Addr).add j) = some v := by
  intro j v hj
  have hadd : (⟨c, r * 2, none⟩ : Addr).add j = ⟨c, r * 2 + j, none⟩ := by unfold Addr.add; split <;> simp_all
  rw [hadd, bk_cell h, List.getElem?_toArray]
  rw [← rc_takeF, ← rc_dropF] at hj
  rw [List.getElem?_take] at hj
  split at hj
  · rw [List.getElem?_drop] at hj; exact hj
  · cases hj
theorem only_setRowSF (w : World) (g : Nat) (cs : Array Value) : Only (some g) w (w.setRow g cs) :=
  ⟨rfl, rfl, rfl, by simp [World.setRow], fun k hk => setRow_other w g k cs (by simpa using hk)⟩
theorem run_copy_none2F {P : Program} (w : World) (dT sT ty elem : TypeId) (d a : Option Addr) (dLen dCap sLen sCap : Nat) (hu : P.underlying dT = some (.slice elem)) (hs : (P.info? elem).map (·.size) = some 2) (hn : Nat.min sLen dLen = 0) :
    (Builtin.copy_ #[dT, sT] ty #[.slice d dLen dCap, .slice a sLen sCap]).run P w = .ok (goInt 0) w := by
  cases hq : P.info? elem with
  | none => simp [hq] at hs
  | some i =>
    have hl : ∀ (x : Addr), (loadCells x 0).run P w = .ok #[] w := fun x => by simpa using run_loadCells_list (P := P) w x [] (by simp)
    cases d <;> cases a <;> simp [Builtin.copy_, run_underlying hu, Builtin.lenOf, Builtin.firstCells, sizeOf, typeInfo, hq, hn, storeCells, hl]
/-- What a copy from the ring L, from r on, into the row O, from q on, leaves there. -/
def cpLF (O L : List SField) (q r m : Nat) : List SField := O.take q ++ ((L.drop r).take m ++ O.drop (q + m))
theorem run_copyRF {P : Program} (w : World) (dT sT ty elem : TypeId) (g c q r dLen dCap sLen sCap m : Nat) (O L : List SField) (dp sp : Option Addr)
    (hu : P.underlying dT = some (.slice elem)) (hs : (P.info? elem).map (·.size) = some 2) (hg : rgBF w g O) (hc : rgBF w c L) (hm : m = Nat.min sLen dLen) (hr : r + m ≤ L.length) (hq : q + m ≤ O.length)
    (ha : 0 < m → dp = some ⟨g, q * 2, none⟩ ∧ sp = some ⟨c, r * 2, none⟩) :
    ∃ w', (Builtin.copy_ #[dT, sT] ty #[.slice dp dLen dCap, .slice sp sLen sCap]).run P w = .ok (goInt m) w' ∧ rgBF w' g (cpLF O L q r m) ∧ Only (some g) w w' := by
  by_cases h0 : m = 0
  · subst h0
    refine ⟨w, run_copy_none2F w dT sT ty elem dp sp dLen dCap sLen sCap hu hs hm.symm, ?_, Only.refl _ _⟩
    have : cpLF O L q r 0 = O := by simp [cpLF]
    rw [this]; exact hg
  · obtain ⟨rfl, rfl⟩ := ha (by omega)
    have hl : (rcF ((L.drop r).take m)).length = m * 2 := by rw [rc_lengthF, List.length_take, List.length_drop]; omega
    have hcur : (rcF O).toArray.size = O.length * 2 := by simp [rc_lengthF]; omega
    have := run_copy2F (P := P) w dT sT ty elem g (q * 2) dLen dCap ⟨c, r * 2, none⟩ sLen sCap (rcF O).toArray 35 (rcF ((L.drop r).take m)) hu hs hg (by rw [hl, hm]) (rg_srcF hc r m hr) (by rw [hl, hcur]; omega) (rc_oneF _)
    rw [hl, ← hm] at this
    refine ⟨_, this, ?_, only_setRowSF _ _ _⟩
    unfold rgBF
    rw [setRow_heap w g _ _ 35 _ hg]
    congr 2
    unfold cpLF
    rw [rc_appendF, rc_appendF, ← rc_takeF O q, ← rc_dropF O, show q * 2 + m * 2 = (q + m) * 2 by omega]
    simp
/-- What a clearing of m places from r on leaves. -/
def clLF (L : List SField) (r m : Nat) : List SField := L.take r ++ (List.replicate m default ++ L.drop (r + m))
theorem run_clearRF {P : Program} (w : World) (T ty elem : TypeId) (c r m cap : Nat) (L : List SField) (sp : Option Addr)
    (hu : P.underlying T = some (.slice elem)) (hz : (P.info? elem).map (·.zero) = some (some (.agg #[.string ⟨#[]⟩, .string ⟨#[]⟩]))) (hc : rgBF w c L) (hr : r + m ≤ L.length) (ha : 0 < m → sp = some ⟨c, r * 2, none⟩) :
    ∃ w', (Builtin.clear_ #[T] ty #[.slice sp m cap]).run P w = .ok (.tuple #[]) w' ∧ rgBF w' c (clLF L r m) ∧ Only (some c) w w' := by
  by_cases h0 : m = 0
  · subst h0
    refine ⟨w, ?_, ?_, Only.refl _ _⟩
    · cases sp <;> simp [Builtin.clear_, run_underlying hu]
    · have : clLF L r 0 = L := by simp [clLF]
      rw [this]; exact hc
  · obtain rfl := ha (by omega)
    have hcur : (rcF L).toArray.size = L.length * 2 := by simp [rc_lengthF]; omega
    have := run_clear2F (P := P) w T ty elem c (r * 2) m cap (rcF L).toArray 35 (by omega) hu hz hc (by rw [hcur]; omega)
    refine ⟨_, this, ?_, only_setRowSF _ _ _⟩
    unfold rgBF
    rw [setRow_heap w c _ _ 35 _ hc]
    congr 2
    unfold clLF
    rw [rc_appendF, rc_appendF, ← rc_takeF, ← rc_dropF L, show r * 2 + m * 2 = (r + m) * 2 by omega]
    simp

def K2F (g c : Nat) : Nat → Prop := fun k => k = g ∨ k = c
/-- Of the old blocks only those of S may have turned. -/
structure ChgF (S : Nat → Prop) (w w' : World) : Prop where
  os : w'.os = w.os
  tape : w'.tape = w.tape
  output : w'.output = w.output
  size : w.heap.size ≤ w'.heap.size
  block : ∀ k, k < w.heap.size → ¬ S k → w'.heap[k]? = w.heap[k]?
theorem ChgF.trans {S : Nat → Prop} {a b c : World} (h : ChgF S a b) (k : ChgF S b c) : ChgF S a c :=
  ⟨k.os.trans h.os, k.tape.trans h.tape, k.output.trans h.output, Nat.le_trans h.size k.size, fun i hi hs => (k.block i (Nat.lt_of_lt_of_le hi h.size) hs).trans (h.block i hi hs)⟩
theorem ChgF.of_below {S : Nat → Prop} {w w' : World} (h : Below w.heap.size w w') : ChgF S w w' := ⟨h.os, h.tape, h.output, h.size, fun k hk _ => h.block k hk⟩
theorem ChgF.of_only {S : Nat → Prop} {g : Option Nat} {w w' : World} (h : Only g w w') (hs : ∀ k, g = some k → S k) : ChgF S w w' :=
  ⟨h.os, h.tape, h.output, Nat.le_of_eq h.size.symm, fun k hk hn => h.block k (fun e => hn (hs k e.symm))⟩
theorem ChgF.below {S : Nat → Prop} {w w' : World} (h : ChgF S w w') {B : Nat} (hB : B ≤ w.heap.size) (hs : ∀ k, S k → B ≤ k) : Below B w w' :=
  ⟨h.os, h.tape, h.output, h.size, fun k hk => h.block k (by omega) (fun e => by have := hs k e; omega)⟩
theorem ChgF.set' {S : Nat → Prop} {w w' : World} (h : ChgF S w w') (g i : Nat) (u : Value) (hg : S g) : ChgF S w (w'.setCell ⟨g, i, none⟩ u) :=
  ⟨h.os, h.tape, h.output, by have := h.size; simpa [World.setCell] using this, fun k hk hs => (bk_other (k := k) (g := g) (fun e => hs (by rw [e]; exact hg)) i u).trans (h.block k hk hs)⟩
end Go.Proofs.Ytocinjcbkolnhaa
