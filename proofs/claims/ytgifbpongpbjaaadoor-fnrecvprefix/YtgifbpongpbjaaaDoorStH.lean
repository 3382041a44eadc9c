import Derived.Test.YtgifbpongpbjaaaDoorStC
namespace Go.Proofs.YtgifbpongpbjaaaDoor
open Go.RowKit
set_option linter.unusedVariables false

theorem rc_append : ∀ A B : List (Bool × Int), rc (A ++ B) = rc A ++ rc B
  | [], B => rfl
  | x :: r, B => by simp [rc, rc_append r B]
theorem rc_take : ∀ (L : List (Bool × Int)) (k : Nat), (rc L).take (k * 2) = rc (L.take k)
  | [], k => by simp [rc]
  | x :: r, 0 => by simp [rc]
  | x :: r, k + 1 => by
    rw [show (k + 1) * 2 = k * 2 + 1 + 1 by omega]
    simp [rc, rc_take r k]
theorem rc_drop : ∀ (L : List (Bool × Int)) (k : Nat), (rc L).drop (k * 2) = rc (L.drop k)
  | [], k => by simp [rc]
  | x :: r, 0 => by simp [rc]
  | x :: r, k + 1 => by
    rw [show (k + 1) * 2 = k * 2 + 1 + 1 by omega]
    simp [rc, rc_drop r k]
theorem rc_one (L : List (Bool × Int)) : ∀ v ∈ rc L, v.oneCell' = true := by
  induction L with
  | nil => simp [rc]
  | cons x r ih =>
    intro v hv
    simp only [rc, List.mem_cons] at hv
    rcases hv with rfl | rfl | hv
    · rfl
    · rfl
    · exact ih v hv
theorem rg_src {w : World} {c : Nat} {L : List (Bool × Int)} (h : rgB w c L) (r m : Nat) (hm : r + m ≤ L.length) :
    ∀ j v, (rc ((L.drop r).take m))[j]? = some v → w.cell? ((⟨c, r * 2, none⟩ : Addr).add j) = some v := by
  intro j v hj
  have hadd : (⟨c, r * 2, none⟩ : Addr).add j = ⟨c, r * 2 + j, none⟩ := by unfold Addr.add; split <;> simp_all
  rw [hadd, bk_cell h, List.getElem?_toArray]
  rw [← rc_take, ← rc_drop] at hj
  rw [List.getElem?_take] at hj
  split at hj
  · rw [List.getElem?_drop] at hj; exact hj
  · cases hj
theorem only_setRowS (w : World) (g : Nat) (cs : Array Value) : Only (some g) w (w.setRow g cs) :=
  ⟨rfl, rfl, rfl, by simp [World.setRow], fun k hk => setRow_other w g k cs (by simpa using hk)⟩
theorem run_copy_none2 {P : Program} (w : World) (dT sT ty elem : TypeId) (d a : Option Addr) (dLen dCap sLen sCap : Nat) (hu : P.underlying dT = some (.slice elem)) (hs : (P.info? elem).map (·.size) = some 2) (hn : Nat.min sLen dLen = 0) :
    (Builtin.copy_ #[dT, sT] ty #[.slice d dLen dCap, .slice a sLen sCap]).run P w = .ok (goInt 0) w := by
  cases hq : P.info? elem with
  | none => simp [hq] at hs
  | some i =>
    have hl : ∀ (x : Addr), (loadCells x 0).run P w = .ok #[] w := fun x => by simpa using run_loadCells_list (P := P) w x [] (by simp)
    cases d <;> cases a <;> simp [Builtin.copy_, run_underlying hu, Builtin.lenOf, Builtin.firstCells, sizeOf, typeInfo, hq, hn, storeCells, hl]
/-- What a copy from the ring L, from r on, into the row O, from q on, leaves there. -/
def cpL (O L : List (Bool × Int)) (q r m : Nat) : List (Bool × Int) := O.take q ++ ((L.drop r).take m ++ O.drop (q + m))
theorem run_copyR {P : Program} (w : World) (dT sT ty elem : TypeId) (g c q r dLen dCap sLen sCap m : Nat) (O L : List (Bool × Int)) (dp sp : Option Addr)
    (hu : P.underlying dT = some (.slice elem)) (hs : (P.info? elem).map (·.size) = some 2) (hg : rgB w g O) (hc : rgB w c L) (hm : m = Nat.min sLen dLen) (hr : r + m ≤ L.length) (hq : q + m ≤ O.length)
    (ha : 0 < m → dp = some ⟨g, q * 2, none⟩ ∧ sp = some ⟨c, r * 2, none⟩) :
    ∃ w', (Builtin.copy_ #[dT, sT] ty #[.slice dp dLen dCap, .slice sp sLen sCap]).run P w = .ok (goInt m) w' ∧ rgB w' g (cpL O L q r m) ∧ Only (some g) w w' := by
  by_cases h0 : m = 0
  · subst h0
    refine ⟨w, run_copy_none2 w dT sT ty elem dp sp dLen dCap sLen sCap hu hs hm.symm, ?_, Only.refl _ _⟩
    have : cpL O L q r 0 = O := by simp [cpL]
    rw [this]; exact hg
  · obtain ⟨rfl, rfl⟩ := ha (by omega)
    have hl : (rc ((L.drop r).take m)).length = m * 2 := by rw [rc_length, List.length_take, List.length_drop]; omega
    have hcur : (rc O).toArray.size = O.length * 2 := by simp [rc_length]; omega
    have := run_copy2 (P := P) w dT sT ty elem g (q * 2) dLen dCap ⟨c, r * 2, none⟩ sLen sCap (rc O).toArray 55 (rc ((L.drop r).take m)) hu hs hg (by rw [hl, hm]) (rg_src hc r m hr) (by rw [hl, hcur]; omega) (rc_one _)
    rw [hl, ← hm] at this
    refine ⟨_, this, ?_, only_setRowS _ _ _⟩
    unfold rgB
    rw [setRow_heap w g _ _ 55 _ hg]
    congr 2
    unfold cpL
    rw [rc_append, rc_append, ← rc_take O q, ← rc_drop O, show q * 2 + m * 2 = (q + m) * 2 by omega]
    simp
/-- What a clearing of m places from r on leaves. -/
def clL (L : List (Bool × Int)) (r m : Nat) : List (Bool × Int) := L.take r ++ (List.replicate m (false, 0) ++ L.drop (r + m))
theorem run_clearR {P : Program} (w : World) (T ty elem : TypeId) (c r m cap : Nat) (L : List (Bool × Int)) (sp : Option Addr)
    (hu : P.underlying T = some (.slice elem)) (hz : (P.info? elem).map (·.zero) = some (some (.agg #[.bool false, .int .u8 0]))) (hc : rgB w c L) (hr : r + m ≤ L.length) (ha : 0 < m → sp = some ⟨c, r * 2, none⟩) :
    ∃ w', (Builtin.clear_ #[T] ty #[.slice sp m cap]).run P w = .ok (.tuple #[]) w' ∧ rgB w' c (clL L r m) ∧ Only (some c) w w' := by
  by_cases h0 : m = 0
  · subst h0
    refine ⟨w, ?_, ?_, Only.refl _ _⟩
    · cases sp <;> simp [Builtin.clear_, run_underlying hu]
    · have : clL L r 0 = L := by simp [clL]
      rw [this]; exact hc
  · obtain rfl := ha (by omega)
    have hcur : (rc L).toArray.size = L.length * 2 := by simp [rc_length]; omega
    have := run_clear2 (P := P) w T ty elem c (r * 2) m cap (rc L).toArray 55 (by omega) hu hz hc (by rw [hcur]; omega)
    refine ⟨_, this, ?_, only_setRowS _ _ _⟩
    unfold rgB
    rw [setRow_heap w c _ _ 55 _ hc]
    congr 2
    unfold clL
    rw [rc_append, rc_append, ← rc_take, ← rc_drop L, show r * 2 + m * 2 = (r + m) * 2 by omega]
    simp
end Go.Proofs.YtgifbpongpbjaaaDoor
