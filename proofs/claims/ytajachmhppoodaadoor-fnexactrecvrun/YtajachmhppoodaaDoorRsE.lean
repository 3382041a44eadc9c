import Derived.Test.YtajachmhppoodaaDoorRsD
namespace Go.Proofs.YtajachmhppoodaaDoor
open Go.RowKit
set_option linter.unusedVariables false

theorem DU.self {D : Nat → Prop} {w : World} : DU D w w = D := by
  funext k; simp [DU]; omega
theorem MRep.same {w : World} {D : Nat → Prop} {g base win : Nat} {m : MS} (h : MRep w D g base win m) : MRep w (DU D w w) g base win m := by rw [DU.self]; exact h
theorem castIf (a b : Bool) (n : Nat) : ((if a = true then 2 else if b = true then 1 else n : Nat) : Int) = (if a = true then (2 : Int) else if b = true then 1 else (n : Int)) := by cases a <;> cases b <;> rfl
theorem takeM (g base win i : Nat) (m : MS) (off : Int) (v : Value) (X : List Int) (fb : Bool) (D : Nat → Prop) (w : World) (I : MI win i m) (hi : i ≤ 400) (hw2 : win ≤ 16384) (hR : MRep w D g base win m) (hrow : Row w .u8 v X) (hl : X.length ≤ 140737488355328) (ho : off ≤ 9223372036854775807)
    (hnD : ∀ b o l cp, v = .slice (some ⟨b, o, none⟩) l cp → 0 < X.length → ¬ D b) (hbase : base ≤ w.heap.size) :
    Calls Tryd.prog 25 #[.pointer (some ⟨g, 0, none⟩), .int .i64 off, v, .bool fb] w fun e w' => e = .returned (.int .i64 (mdata m off X fb).2) ∧ MRep w' (DU D w w') g base win (mdata m off X fb).1 ∧ Chg D w w' := by
  obtain ⟨vd, vt, hb, hA⟩ := id hR
  obtain ⟨aa, ac, ev⟩ := hrow.form
  have hrd := I.read
  have hct : cnt m.T ≤ m.T.length := List.countP_le_length
  have hcn := I.cnt
  have htd := I.told
  have htt := I.toldT
  have hfin := I.fin
  have hf : 0 ≤ m.final ∧ m.final ≤ 1000000 ∨ m.sized = false := by
    by_cases h : m.sized = true
    · have := hfin h; left; omega
    · right; simpa using h
  by_cases a0 : 1500 < X.length ∨ off < 0 ∨ 4611686018427387903 - (X.length : Int) < off
  · have e : mdata m off X fb = (m, 1) := by unfold mdata; rw [if_pos a0]
    rw [e, ev]
    have C := take_12 g m.st win m.told m.read m.final (m.T.length : Nat) off m.sized fb vd vt aa X.length ac w hb hl ho (Or.inl a0)
    rw [if_pos a0] at C
    refine C.mono ?_
    rintro e w' ⟨rfl, hw⟩
    subst hw
    exact ⟨rfl, hR.same, chg_of_eq _⟩
  by_cases a4 : m.told < off + X.length
  · have e : mdata m off X fb = (m, 8) := by unfold mdata; rw [if_neg a0, if_pos a4]
    rw [e, ev]
    have C := take_12 g m.st win m.told m.read m.final (m.T.length : Nat) off m.sized fb vd vt aa X.length ac w hb hl ho (Or.inr a4)
    rw [if_neg a0] at C
    refine C.mono ?_
    rintro e w' ⟨rfl, hw⟩
    subst hw
    exact ⟨rfl, hR.same, chg_of_eq _⟩
  by_cases a5 : (m.sized = true ∧ (m.final < off + X.length ∨ (fb = true ∧ off + X.length ≠ m.final))) ∨ (fb = true ∧ off + X.length < m.T.length)
  · have e : mdata m off X fb = (m, 10) := by unfold mdata; rw [if_neg a0, if_neg a4, if_pos a5]
    rw [e, ev]
    refine (take_3 g m.st win m.told m.read m.final (m.T.length : Nat) off m.sized fb vd vt aa X.length ac w hb (by omega) (by omega) (by omega) (by omega) a5).mono ?_
    rintro e w' ⟨rfl, hw⟩
    subst hw
    exact ⟨rfl, hR.same, chg_of_eq _⟩
  by_cases a8 : m.st < 2
  case neg =>
    have e : mdata m off X fb = (m, 0) := by unfold mdata; rw [if_neg a0, if_neg a4, if_neg a5, if_pos a8]
    rw [e, ev]
    refine (take_4 g m.st win m.told m.read m.final (m.T.length : Nat) off m.sized fb vd vt aa X.length ac w hb (by omega) (by omega) (by omega) (by omega) a5 a8).mono ?_
    rintro e w' ⟨rfl, hw⟩
    subst hw
    exact ⟨rfl, hR.same, chg_of_eq _⟩
  case pos =>
    obtain ⟨o, rfl⟩ : ∃ o : Nat, off = (o : Int) := ⟨off.toNat, by omega⟩
    have hto : ((o : Int)).toNat = o := rfl
    have e : mdata m o X fb = ({ m with st := if wholeM (m.sized || fb) (if fb then (o : Int) + X.length else m.final) (putF (pad m.T (o + X.length)) o X X.length) then 2 else if fb then 1 else m.st, sized := m.sized || fb, final := if fb then (o : Int) + X.length else m.final, T := putF (pad m.T (o + X.length)) o X X.length }, 0) := by
      unfold mdata
      rw [if_neg a0, if_neg a4, if_neg a5, if_neg (by omega), hto]
    rw [e]
    by_cases hsz : m.sized = true
    · have hff := hfin hsz
      refine (take_5 g base m.st win m.told m.read m.final o m.sized fb m.T D v X w ⟨vd, vt, hb, hA⟩ hrow hnD (by omega) (by omega) (by omega) (by omega) (by omega) (by omega) a5 a8 hbase).mono ?_
      rintro e w' ⟨rfl, ch, vd', vt', hb', hA'⟩
      refine ⟨rfl, ⟨vd', vt', ?_, hA'⟩, ch⟩
      dsimp only
      rw [castIf]; exact hb'
    · have hf0 : m.final = 0 := I.fz (by simpa using hsz)
      refine (take_5 g base m.st win m.told m.read m.final o m.sized fb m.T D v X w ⟨vd, vt, hb, hA⟩ hrow hnD (by omega) (by omega) (by omega) (by omega) (by omega) (by omega) a5 a8 hbase).mono ?_
      rintro e w' ⟨rfl, ch, vd', vt', hb', hA'⟩
      refine ⟨rfl, ⟨vd', vt', ?_, hA'⟩, ch⟩
      dsimp only
      rw [castIf]; exact hb'
end Go.Proofs.YtajachmhppoodaaDoor
