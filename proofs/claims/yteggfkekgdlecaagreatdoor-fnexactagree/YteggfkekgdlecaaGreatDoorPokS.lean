import Derived.Test.YteggfkekgdlecaaGreatDoorParP
import Derived.Deep.CutRange
namespace Go.Proofs.YteggfkekgdlecaaGreatDoor
open Go.RowKit
set_option linter.unusedVariables false

/-- Between two numbers. -/
def btw (l h x : Int) : Bool := decide (l ≤ x) && decide (x ≤ h)
/-- Whether each entry's field is valid, in the order of the table. -/
def pokL (p : PP) (s : Bool) : List Bool :=
  [decide (p.o.length = 0) || (s && decide (p.o.length ≤ 8)), btw 0 1000000000000 p.a0, decide (p.t.length = 0) || (s && decide (p.t.length = 8)), btw 1200 2000 p.a1, btw 1 16384 p.a2, btw 1 16384 p.a3,
   btw 0 64 p.a4, btw 0 64 p.a5, btw 0 1000000 p.a6, true, btw 2 16 p.a7, decide (p.f.length ≤ 8), btw 0 1500 p.a8]
def pok (p : PP) (s : Bool) : Bool := (pokL p s).all id
/-- What the model looks at first: true is wrong. -/
def pokB (s : Bool) (no nt nf : Nat) : Bool := (!s && (decide (0 < no) || decide (0 < nt))) || decide (8 < no) || decide (8 < nf) || (decide (nt ≠ 0) && decide (nt ≠ 8))
theorem pok_eq (p : PP) (s : Bool) : pok p s = (!pokB s p.o.length p.t.length p.f.length && ((btw 1 16384 p.a2 && btw 1 16384 p.a3) && (btw 0 64 p.a4 && btw 0 64 p.a5) && (btw 1200 2000 p.a1 && btw 0 1500 p.a8) && btw 0 1000000000000 p.a0 && btw 0 1000000 p.a6 && btw 2 16 p.a7)) := by
  obtain ⟨a0, a1, a2, a3, a4, a5, a6, a7, a8, m, o, t, f⟩ := p
  unfold pok pokL pokB
  dsimp only
  generalize o.length = no
  generalize t.length = nt
  generalize f.length = nf
  have e1 : (decide (no = 0) || (s && decide (no ≤ 8))) = !((!s && decide (0 < no)) || decide (8 < no)) := by
    rw [Bool.eq_iff_iff]; cases s <;> simp <;> omega
  have e2 : (decide (nt = 0) || (s && decide (nt = 8))) = !((!s && decide (0 < nt)) || (decide (nt ≠ 0) && decide (nt ≠ 8))) := by
    rw [Bool.eq_iff_iff]; cases s <;> simp <;> omega
  have e3 : decide (nf ≤ 8) = !decide (8 < nf) := by rw [Bool.eq_iff_iff]; simp
  simp only [List.all_cons, List.all_nil, id, Bool.and_true, Bool.true_and, e1, e2, e3]
  generalize decide (0 < no) = x0
  generalize decide (8 < no) = x1
  generalize decide (0 < nt) = x2
  generalize (decide (nt ≠ 0) && decide (nt ≠ 8)) = x3
  generalize decide (8 < nf) = x4
  generalize btw 1 16384 a2 = y0
  generalize btw 1 16384 a3 = y1
  generalize btw 0 64 a4 = y2
  generalize btw 0 64 a5 = y3
  generalize btw 1200 2000 a1 = y4
  generalize btw 0 1500 a8 = y5
  generalize btw 0 1000000000000 a0 = y6
  generalize btw 0 1000000 a6 = y7
  generalize btw 2 16 a7 = y8
  cases y0 <;> cases y1 <;> cases y2 <;> cases y3 <;> cases y4 <;> cases y5 <;> cases y6 <;> cases y7 <;> cases y8 <;> simp
  clear e1 e2 e3
  revert s x0 x1 x2 x3 x4
  decide
theorem timeC (x : Int) (w : World) : Calls Tryz.prog 65 #[.int .i64 x] w fun e w' => e = .returned (.bool (btw 0 1000000000000 x)) ∧ w' = w := by
  by_cases h1 : 0 ≤ x
  · by_cases h2 : x ≤ 1000000000000
    · have e : btw 0 1000000000000 x = true := by simp [btw, h1, h2]
      rw [e]
      clear e
      go_enter Tryz.func65, Tryz.ntmps65
      go_wp2
      go_ret
      exact ⟨rfl, rfl⟩
    · have e : btw 0 1000000000000 x = false := by simp [btw, h2]
      rw [e]
      clear e
      go_enter Tryz.func65, Tryz.ntmps65
      go_wp2
      go_ret
      exact ⟨rfl, rfl⟩
  · have e : btw 0 1000000000000 x = false := by simp [btw]; omega
    rw [e]
    clear e
    go_enter Tryz.func65, Tryz.ntmps65
    go_wp2
    go_ret
    exact ⟨rfl, rfl⟩
abbrev Pw (w : World) (p : PP) (v2 v3 v4 : Value) : World := w.alloc (.cells #[.int .i64 p.a0, .int .i64 p.a1, .int .i64 p.a2, .int .i64 p.a3, .int .i64 p.a4, .int .i64 p.a5, .int .i64 p.a6, .int .i64 p.a7, .int .i64 p.a8, .bool p.m, v2, v3, v4] 35)
set_option maxRecDepth 20000 in
set_option maxHeartbeats 2000000 in
theorem pokS (v : Value) (p : PP) (s : Bool) (w : World) (hr : PPRow w v p) (hs : p.small 9223372036854775807) :
    Calls Tryz.prog 44 #[v, .bool s] w fun e w' => e = .returned (.bool (pok p s)) ∧ Below w.heap.size w w' := by
  rw [pok_eq]
  obtain ⟨d2, d3, d4, p2, p3, p4, rfl, -, -, -⟩ := hr.parts
  clear hr
  obtain ⟨a0, a1, a2, a3, a4, a5, a6, a7, a8, m, o, t, f⟩ := p
  obtain ⟨s0, s1, s2⟩ := hs
  dsimp only at s0 s1 s2 ⊢
  generalize o.length = no at *
  generalize t.length = nt at *
  generalize f.length = nf at *
  obtain ⟨B, eB⟩ : ∃ B, B = pokB s no nt nf := ⟨_, rfl⟩
  rw [← eB]
  have HB : Hid _ := And.intro eB True.intro
  clear eB
  have C : Hid _ := And.intro (Below.refl w.heap.size w |>.alloc (Nat.le_refl _) (.cells #[.int .i64 a0, .int .i64 a1, .int .i64 a2, .int .i64 a3, .int .i64 a4, .int .i64 a5, .int .i64 a6, .int .i64 a7, .int .i64 a8, .bool m, .slice d2 no p2, .slice d3 nt p3, .slice d4 nf p4] 35)) True.intro
  go_enter Tryz.func44, Tryz.ntmps44
  go_upto_region 1 with fail
  go_cut [45] from 8 to 45 (fun cv wx => cv = .bool B ∧ wx = w.alloc (.cells #[.int .i64 a0, .int .i64 a1, .int .i64 a2, .int .i64 a3, .int .i64 a4, .int .i64 a5, .int .i64 a6, .int .i64 a7, .int .i64 a8, .bool m, .slice d2 no p2, .slice d3 nt p3, .slice d4 nf p4] 35))
  case first =>
    have HB2 := HB.out.1
    clear HB
    rcases (show no = 0 ∨ (0 < no ∧ no ≤ 8) ∨ 8 < no by omega) with rfl | ⟨h0, h1⟩ | h0 <;> rcases (show nt = 0 ∨ nt = 8 ∨ (nt ≠ 0 ∧ nt ≠ 8) by omega) with rfl | rfl | ⟨g0, g1⟩ <;> rcases (show nf ≤ 8 ∨ 8 < nf by omega) with k0 | k0 <;> cases s
    all_goals have HB : Hid _ := And.intro HB2 True.intro
    all_goals clear HB2
    all_goals go_wp2_with fail
    all_goals (go_meet; refine ⟨?_, rfl⟩; rw [HB.out.1]; first | (simp [pokB]; done) | (congr 1; rw [Bool.eq_iff_iff]; simp [pokB]; done) | (congr 1; rw [Bool.eq_iff_iff]; simp [pokB]; omega))
  case rest =>
  obtain ⟨rfl, rfl⟩ := hcut
  cases B
  · clear HB
    go_upto_region 3 with fail
    go_cut [5] from 46 to 63 (fun cv wx => cv = .bool (btw 1 16384 a2 && btw 1 16384 a3) ∧ wx = w.alloc (.cells #[.int .i64 a0, .int .i64 a1, .int .i64 a2, .int .i64 a3, .int .i64 a4, .int .i64 a5, .int .i64 a6, .int .i64 a7, .int .i64 a8, .bool m, .slice d2 no p2, .slice d3 nt p3, .slice d4 nf p4] 35))
    case first =>
      go_wp2_with fail
      all_goals (go_meet; refine ⟨?_, rfl⟩; first | (simp [btw]; done) | (congr 1; rw [Bool.eq_iff_iff]; simp [btw]; done) | (congr 1; rw [Bool.eq_iff_iff]; simp [btw]; omega))
    case rest =>
    obtain ⟨rfl, rfl⟩ := hcut
    go_upto_region 4 with fail
    go_cut [6] from 64 to 81 (fun cv wx => cv = .bool (btw 0 64 a4 && btw 0 64 a5) ∧ wx = w.alloc (.cells #[.int .i64 a0, .int .i64 a1, .int .i64 a2, .int .i64 a3, .int .i64 a4, .int .i64 a5, .int .i64 a6, .int .i64 a7, .int .i64 a8, .bool m, .slice d2 no p2, .slice d3 nt p3, .slice d4 nf p4] 35))
    case first =>
      go_wp2_with fail
      all_goals (go_meet; refine ⟨?_, rfl⟩; first | (simp [btw]; done) | (congr 1; rw [Bool.eq_iff_iff]; simp [btw]; done) | (congr 1; rw [Bool.eq_iff_iff]; simp [btw]; omega))
    case rest =>
    obtain ⟨rfl, rfl⟩ := hcut
    go_upto_region 5 with fail
    go_cut [7] from 82 to 99 (fun cv wx => cv = .bool (btw 1200 2000 a1 && btw 0 1500 a8) ∧ wx = w.alloc (.cells #[.int .i64 a0, .int .i64 a1, .int .i64 a2, .int .i64 a3, .int .i64 a4, .int .i64 a5, .int .i64 a6, .int .i64 a7, .int .i64 a8, .bool m, .slice d2 no p2, .slice d3 nt p3, .slice d4 nf p4] 35))
    case first =>
      go_wp2_with fail
      all_goals (go_meet; refine ⟨?_, rfl⟩; first | (simp [btw]; done) | (congr 1; rw [Bool.eq_iff_iff]; simp [btw]; done) | (congr 1; rw [Bool.eq_iff_iff]; simp [btw]; omega))
    case rest =>
    obtain ⟨rfl, rfl⟩ := hcut
    obtain ⟨y0, e0⟩ : ∃ y, y = (btw 1 16384 a2 && btw 1 16384 a3) := ⟨_, rfl⟩
    obtain ⟨y1, e1⟩ : ∃ y, y = (btw 0 64 a4 && btw 0 64 a5) := ⟨_, rfl⟩
    obtain ⟨y2, e2⟩ : ∃ y, y = (btw 1200 2000 a1 && btw 0 1500 a8) := ⟨_, rfl⟩
    rw [← e0, ← e1, ← e2]
    have CT := timeC a0 (w.alloc (.cells #[.int .i64 a0, .int .i64 a1, .int .i64 a2, .int .i64 a3, .int .i64 a4, .int .i64 a5, .int .i64 a6, .int .i64 a7, .int .i64 a8, .bool m, .slice d2 no p2, .slice d3 nt p3, .slice d4 nf p4] 35))
    obtain ⟨y3, e3⟩ : ∃ y, y = btw 0 1000000000000 a0 := ⟨_, rfl⟩
    rw [← e3] at CT
    have HT : Hid _ := And.intro CT (And.intro e0 (And.intro e1 (And.intro e2 e3)))
    clear CT e0 e1 e2 e3
    cases y0 <;> cases y1 <;> cases y2 <;> cases y3
    all_goals go_wp2_with (go_at_call 65; refine HT.out.1.mono ?_; rintro e w' ⟨rfl, hw⟩; subst w')
    all_goals go_ret
    all_goals (refine ⟨?_, C.out.1⟩; obtain ⟨-, e0, e1, e2, e3⟩ := HT.out; rw [← e0, ← e1, ← e2, ← e3]; first | (simp [btw]; done) | (simp [btw, *]; done) | (simp [btw]; omega) | (simp [btw]; intros; omega))
  · go_wp2
    go_ret
    exact ⟨by simp, C.out.1⟩
end Go.Proofs.YteggfkekgdlecaaGreatDoor
