import Derived.Test.YtdjflbanbhhniaaDoorHdA
import Derived.Test.YtdjflbanbhhniaaDoorRqC
import Derived.Test.YtdjflbanbhhniaaDoorRqE
namespace Go.Proofs.YtdjflbanbhhniaaDoor
open Go.RowKit
set_option linter.unusedVariables false

/-- What the fields at the front have told so far. -/
structure Q4 where
  m : ByteArray
  s : ByteArray
  a : ByteArray
  p : ByteArray
abbrev q0 : Q4 := ⟨⟨#[]⟩, ⟨#[]⟩, ⟨#[]⟩, ⟨#[]⟩⟩
def qStep (q : Q4) (f : SField) : Option Q4 :=
  if f.f1.size = 0 then none else
  if f.f0 == mtN then (if q.m.size = 0 then some ⟨f.f1, q.s, q.a, q.p⟩ else none) else
  if f.f0 == scN then (if q.s.size = 0 then some ⟨q.m, f.f1, q.a, q.p⟩ else none) else
  if f.f0 == paN then (if q.p.size = 0 then some ⟨q.m, q.s, q.a, f.f1⟩ else none) else
  if f.f0 == auN then (if q.a.size = 0 then some ⟨q.m, q.s, f.f1, q.p⟩ else none) else none
def qAt (L : List SField) : Nat → Option Q4
  | 0 => some q0
  | k + 1 => match qAt L k with
    | none => none
    | some q => qStep q (L.getD k default)
theorem qAt_none (L : List SField) (k : Nat) (h : qAt L k = none) : ∀ n, k ≤ n → qAt L n = none := by
  intro n hn
  induction n with
  | zero => obtain rfl : k = 0 := by omega
            exact h
  | succ n ih =>
    by_cases e : k = n + 1
    · rw [← e]; exact h
    · simp only [qAt, ih (by omega)]
theorem qAt_succ {L : List SField} {k : Nat} {q : Q4} (h : qAt L k = some q) : qAt L (k + 1) = qStep q (L.getD k default) := by simp only [qAt, h]
theorem hd_ge {L : List SField} : ∀ k, k ≤ L.length → (∀ j, j < k → isH (L.getD j default) = true) → k ≤ hdN L := by
  intro k
  induction k generalizing L with
  | zero => intro _ _; omega
  | succ k ih =>
    intro hk ha
    match L, hk with
    | x :: r, hk =>
      have h0 : isH x = true := ha 0 (by omega)
      have := ih (L := r) (by simpa using hk) (fun j hj => by have := ha (j + 1) (by omega); simpa [List.getD] using this)
      unfold hdN at this ⊢
      simp only [List.takeWhile, h0, List.length_cons]
      omega
theorem hd_le (L : List SField) : hdN L ≤ L.length := by unfold hdN; exact (List.takeWhile_sublist _).length_le
theorem empTz (c : ByteArray) (h : c.size = 0) : c.toList.isEmpty = true := by
  rw [ByteArray.toList_eq, List.isEmpty_iff]
  exact List.eq_nil_of_length_eq_zero (by rw [Array.length_toList]; have q2 : c.size = c.data.size := rfl; omega)
theorem empFz (c : ByteArray) (h : ¬ c.size = 0) : c.toList.isEmpty = false := by
  rw [ByteArray.toList_eq, List.isEmpty_eq_false_iff]
  intro q
  have q3 : c.data.toList.length = 0 := by rw [q]; rfl
  rw [Array.length_toList] at q3
  have q2 : c.size = c.data.size := rfl
  omega
theorem results_rtZ {P : Program} {fn : Func} {p q : Tmp} {ty : TypeId} (h : fn.results = #[.cell p ty, .tmp q]) (tmps : Array Value) (w : World) (g : Nat) (t : TypeId) (cs : Array Value) (fr : Nat × Nat) (d : TypeDesc) (u : Value)
    (hp : tmps.getD p undef = .pointer (some ⟨g, 0, none⟩)) (hq : tmps.getD q undef = u) (hg : w.heap[g]? = some (.cells cs t fr))
    (hu : P.underlying ty = some d) (hd : (match d with | .struct _ | .array _ _ => true | _ => false) = true) (hi : (P.info? ty).map (·.size) = some cs.size) :
    (results fn tmps).run P w = .ok (.tuple #[.agg cs, u]) w := by
  have hp' : tmps[p]?.getD undef = .pointer (some ⟨g, 0, none⟩) := by simpa using hp
  have hq' : tmps[q]?.getD undef = u := by simpa using hq
  simp [results, h, hp', hq', asAddr, run_loadVar_row w g t ty cs fr d hg hu hd hi]
/-- A request in a block. -/
def QB (u : World) (g : Nat) (q : Q4) (r : Value) : Prop := u.heap[g]? = some (.cells #[.string q.m, .string q.s, .string q.a, .string q.p, r] 30 (0, 0))
theorem QB.lt {u : World} {g : Nat} {q : Q4} {r : Value} (h : QB u g q r) : g < u.heap.size := (Array.getElem?_eq_some_iff.1 h).1
theorem QB.below {u u' : World} {g B : Nat} {q : Q4} {r : Value} (h : QB u g q r) (hb : Below B u u') (hB : g < B) : QB u' g q r := (hb.block _ hB).trans h
theorem QB.cel {u : World} {g : Nat} {q : Q4} {r : Value} (h : QB u g q r) : u.cell? ⟨g, 0, none⟩ = some (.string q.m) ∧ u.cell? ⟨g, 1, none⟩ = some (.string q.s) ∧ u.cell? ⟨g, 2, none⟩ = some (.string q.a) ∧ u.cell? ⟨g, 3, none⟩ = some (.string q.p) ∧ u.cell? ⟨g, 4, none⟩ = some r :=
  ⟨by rw [bk_cell h]; rfl, by rw [bk_cell h]; rfl, by rw [bk_cell h]; rfl, by rw [bk_cell h]; rfl, by rw [bk_cell h]; rfl⟩
theorem QB.free {u : World} {g : Nat} {q : Q4} {r : Value} (h : QB u g q r) : u.frozen? ⟨g, 0, none⟩ = false ∧ u.frozen? ⟨g, 1, none⟩ = false ∧ u.frozen? ⟨g, 2, none⟩ = false ∧ u.frozen? ⟨g, 3, none⟩ = false ∧ u.frozen? ⟨g, 4, none⟩ = false :=
  ⟨bk_free h 0, bk_free h 1, bk_free h 2, bk_free h 3, bk_free h 4⟩
theorem QB.set0 {u : World} {g : Nat} {q : Q4} {r : Value} (h : QB u g q r) (c : ByteArray) : QB (u.setCell ⟨g, 0, none⟩ (.string c)) g ⟨c, q.s, q.a, q.p⟩ r := (bk_set h 0 _).trans rfl
theorem QB.set1 {u : World} {g : Nat} {q : Q4} {r : Value} (h : QB u g q r) (c : ByteArray) : QB (u.setCell ⟨g, 1, none⟩ (.string c)) g ⟨q.m, c, q.a, q.p⟩ r := (bk_set h 1 _).trans rfl
theorem QB.set2 {u : World} {g : Nat} {q : Q4} {r : Value} (h : QB u g q r) (c : ByteArray) : QB (u.setCell ⟨g, 2, none⟩ (.string c)) g ⟨q.m, q.s, c, q.p⟩ r := (bk_set h 2 _).trans rfl
theorem QB.set3 {u : World} {g : Nat} {q : Q4} {r : Value} (h : QB u g q r) (c : ByteArray) : QB (u.setCell ⟨g, 3, none⟩ (.string c)) g ⟨q.m, q.s, q.a, c⟩ r := (bk_set h 3 _).trans rfl
theorem QB.set4 {u : World} {g : Nat} {q : Q4} {r : Value} (h : QB u g q r) (c : Value) : QB (u.setCell ⟨g, 4, none⟩ c) g q c := (bk_set h 4 _).trans rfl
theorem QB.other {u : World} {g k i : Nat} {q : Q4} {r v : Value} (h : QB u g q r) (hk : k ≠ g) : QB (u.setCell ⟨k, i, none⟩ v) g q r := (bk_other (fun e => hk e.symm) _ _).trans h
theorem QB.all {u : World} {g : Nat} {q q' : Q4} {r r' : Value} (h : QB u g q r) : QB (((((u.setCell ⟨g, 0, none⟩ (.string q'.m)).setCell ⟨g, 1, none⟩ (.string q'.s)).setCell ⟨g, 2, none⟩ (.string q'.a)).setCell ⟨g, 3, none⟩ (.string q'.p)).setCell ⟨g, 4, none⟩ r') g q' r' := (((((h.set0 q'.m).set1 q'.s).set2 q'.a).set3 q'.p).set4 r')
theorem below5 {w u : World} {B g : Nat} (h : Below B w u) (hB : B ≤ g) (v0 v1 v2 v3 v4 : Value) : Below B w (((((u.setCell ⟨g, 0, none⟩ v0).setCell ⟨g, 1, none⟩ v1).setCell ⟨g, 2, none⟩ v2).setCell ⟨g, 3, none⟩ v3).setCell ⟨g, 4, none⟩ v4) := ((((h.setCell hB _).setCell hB _).setCell hB _).setCell hB _).setCell hB _
def Q4.fin (q : Q4) : Prop := q.m.size ≤ 9223372036854775807 ∧ q.s.size ≤ 9223372036854775807 ∧ q.a.size ≤ 9223372036854775807 ∧ q.p.size ≤ 9223372036854775807
theorem qStep_fin {q q' : Q4} {f : SField} (h : qStep q f = some q') (hq : q.fin) (hf : f.f1.size ≤ 9223372036854775807) : q'.fin := by
  obtain ⟨h1, h2, h3, h4⟩ := hq
  unfold qStep at h
  split at h
  · cases h
  · split at h
    · split at h
      · cases h; exact ⟨hf, h2, h3, h4⟩
      · cases h
    · split at h
      · split at h
        · cases h; exact ⟨h1, hf, h3, h4⟩
        · cases h
      · split at h
        · split at h
          · cases h; exact ⟨h1, h2, h3, hf⟩
          · cases h
        · split at h
          · split at h
            · cases h; exact ⟨h1, h2, hf, h4⟩
            · cases h
          · cases h
theorem qAt_fin {L : List SField} (hf : Go.Proofs.YtdjflbanbhhniaaDoor.fin L) : ∀ (k : Nat) (q : Q4), k ≤ L.length → qAt L k = some q → q.fin
  | 0, q, _, h => by cases h; exact ⟨by decide, by decide, by decide, by decide⟩
  | k + 1, q, hk, h => by
    cases e : qAt L k with
    | none => simp only [qAt, e] at h; cases h
    | some q1 =>
      simp only [qAt, e] at h
      exact qStep_fin h (qAt_fin hf k q1 (by omega) e) (hf k (by omega)).2
/-- What a request's fields tell. -/
structure RQ where
  q : Q4
  fs : List SField
  code : Int
def rzR (L : List SField) : RQ := if 64 < L.length then ⟨q0, [], 4⟩ else
  match qAt L (hdN L) with
  | none => ⟨q0, [], 17⟩
  | some q => if rqOK q.m q.s q.a q.p (L.drop (hdN L)) = true then ⟨q, L.drop (hdN L), 0⟩ else ⟨q0, [], 17⟩
end Go.Proofs.YtdjflbanbhhniaaDoor
