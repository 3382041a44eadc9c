import Derived.Test.YtocinjcbkolnhaaTgP
namespace Go.Proofs.Ytocinjcbkolnhaa
open Go.RowKit
set_option linter.unusedVariables false

theorem results_rt {P : Program} {fn : Func} {p q : Tmp} {ty : TypeId} (h : fn.results = #[.cell p ty, .tmp q]) (tmps : Array Value) (w : World) (g : Nat) (t : TypeId) (cs : Array Value) (fr : Nat × Nat) (d : TypeDesc) (u : Value)
    (hp : tmps.getD p undef = .pointer (some ⟨g, 0, none⟩)) (hq : tmps.getD q undef = u) (hg : w.heap[g]? = some (.cells cs t fr))
    (hu : P.underlying ty = some d) (hd : (match d with | .struct _ | .array _ _ => true | _ => false) = true) (hi : (P.info? ty).map (·.size) = some cs.size) :
    (results fn tmps).run P w = .ok (.tuple #[.agg cs, u]) w := by
  have hp' : tmps[p]?.getD undef = .pointer (some ⟨g, 0, none⟩) := by simpa using hp
  have hq' : tmps[q]?.getD undef = u := by simpa using hq
  simp [results, h, hp', hq', asAddr, run_loadVar_row w g t ty cs fr d hg hu hd hi]
def fV (x : SField) : Value := .agg #[.string x.f0, .string x.f1]
/-- What TableGet answers. -/
def tgR (t : TB) (i : Int) : SField × Int :=
  if tOK t = false then (default, 1) else if i < t.ad - t.es.length ∨ t.ad ≤ i then (default, 16) else (t.es.getD (i - (t.ad - t.es.length)).toNat default, 0)
theorem tg_len (t : TB) (h : tOK t = true) : t.nums ∧ t.es.length ≤ 124 := by
  unfold tOK at h
  simp only [Bool.and_eq_true, decide_eq_true_eq] at h
  obtain ⟨⟨h1, h2⟩, h3⟩ := h
  refine ⟨h1, ?_⟩
  obtain ⟨a1, a2, a3, a4, a5, a6⟩ := h1
  have key : ∀ L : List SField, fsOK L = true → 33 * (L.length : Int) ≤ csts L := by
    intro L
    induction L with
    | nil => intro _; simp [csts]
    | cons x l ih =>
      intro hx
      simp only [fsOK, List.all_cons, Bool.and_eq_true] at hx
      have h5 := ih hx.2
      have h6 : 1 ≤ x.f0.size := by
        have := hx.1
        simp only [fOK, nOK, Bool.and_eq_true, decide_eq_true_eq] at this
        exact this.1.1.1
      simp only [csts, cst, List.length_cons]
      omega
  have := key t.es h2
  omega
end Go.Proofs.Ytocinjcbkolnhaa
