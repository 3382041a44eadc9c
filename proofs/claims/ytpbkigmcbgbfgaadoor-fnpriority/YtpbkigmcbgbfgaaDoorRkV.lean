import Derived.RangeFuncNested
import Derived.RangeFuncBound
import Derived.RangeFuncCalls
import Derived.RangeFuncLeaves
import Derived.Shelf.Abstract
import Derived.Shelf.RegionOpen
import Derived.WalkKit
import Derived.OwnWalkIn
import Derived.TacticsInMore
import Derived.LoopNIn
import Derived.LoopIn
import Derived.WalkMore
import Derived.Deep.CutRange
import Derived.Test.YtpbkigmcbgbfgaaDoorRkU
import Derived.Test.YtpbkigmcbgbfgaaDoorBlocks
namespace Go.Proofs.YtpbkigmcbgbfgaaDoor
open Go.RowKit Go.Shelf
set_option linter.unusedVariables false
attribute [local go_sem] Oper.semAt_some

/-- What the loop's body holds: the two variables, the loop's record, the mark. -/
structure PA (w W : World) (rc : Loop) (u : Int × Bool) : Prop where
  cu : W.heap[w.heap.size]? = some (.cells #[.int .i64 u.1] 3 (0, 0))
  ct : W.heap[w.heap.size + 1]? = some (.cells #[.bool u.2] 4 (0, 0))
  dd : W.heap[w.heap.size + 5]? = some (.deferred (some []))
  ll : W.heap[w.heap.size + 6]? = some (.loop rc)
  bw : Below w.heap.size w W
/-- What the iterator holds: the text that is left, the comma, a nought. -/
structure PB (w W : World) (m : List UInt8) : Prop where
  cs : W.heap[w.heap.size + 2]? = some (.cells #[.string (bl m)] 9 (0, 0))
  cp : W.heap[w.heap.size + 3]? = some (.cells #[.string ⟨#[44]⟩] 9 (0, 0))
  cz : W.heap[w.heap.size + 4]? = some (.cells #[.int .i64 0] 3 (0, 0))
theorem PA.set {w W : World} {rc : Loop} {u : Int × Bool} (h : PA w W rc u) (v : Value) : PA w (W.setCell ⟨w.heap.size + 2, 0, none⟩ v) rc u :=
  ⟨(bk_other (by omega) 0 v).trans h.cu, (bk_other (by omega) 0 v).trans h.ct, (bk_other (by omega) 0 v).trans h.dd, (bk_other (by omega) 0 v).trans h.ll, h.bw.setCell (p := ⟨w.heap.size + 2, 0, none⟩) (by show _ ≤ w.heap.size + 2; omega) v⟩
theorem PB.set {w W : World} {m r : List UInt8} (h : PB w W m) : PB w (W.setCell ⟨w.heap.size + 2, 0, none⟩ (.string (bl r))) r :=
  ⟨bk_set h.cs 0 _, (bk_other (by omega) 0 _).trans h.cp, (bk_other (by omega) 0 _).trans h.cz⟩
def leftT (w W : World) : Nat := match W.cell? ⟨w.heap.size + 2, 0, none⟩ with
  | some (.string s) => s.size
  | _ => 0
theorem PB.left {w W : World} {m : List UInt8} (h : PB w W m) : leftT w W = m.length := by
  unfold leftT
  rw [bk_cell h.cs]
  simp [bl_size]
set_option maxRecDepth 20000 in
set_option maxHeartbeats 4000000 in
theorem iterR (w : World) (rc : Loop) (l : List UInt8) (n : Nat) (hl : l.length ≤ 1024) (u0 : Int × Bool) (W : World) (hA : PA w W rc u0) (hB : PB w W l)
    (hY : ∀ (p : List UInt8) (u : Int × Bool) (m : List UInt8) (W1 : World), p.length ≤ 1024 → PA w W1 rc u → PB w W1 m → YieldAt Fence.wide n Tryd.prog (w.heap.size + 6) #[.string (bl p)] W1 fun e W' => e = .returned (.bool true) ∧ PA w W' rc (stp u p) ∧ PB w W' m) :
    Calls Tryd.prog 26 #[.func (.yield (w.heap.size + 6)) #[] #[], .pointer (some ⟨w.heap.size + 3, 0, none⟩), .pointer (some ⟨w.heap.size + 2, 0, none⟩), .pointer (some ⟨w.heap.size + 4, 0, none⟩)] W fun e W' => (∃ v, e = .returned v) ∧ PA w W' rc ((pa l.length l).foldl stp u0) := by
  have HH : Hid _ := And.intro hA (And.intro hB hY)
  have hc : W.cell? ⟨w.heap.size + 3, 0, none⟩ = some (.string ⟨#[44]⟩) := (bk_cell hB.cp 0).trans rfl
  clear hA hB hY
  go_enter Tryd.func26, Tryd.ntmps26
  go_wp2_with fail
  go_loopw [] (fun wr => ∃ (m : List UInt8) (u : Int × Bool), m.length ≤ 1024 ∧ PA w wr rc u ∧ PB w wr m ∧ (pa m.length m).foldl stp u = (pa l.length l).foldl stp u0) (fun wr => leftT w wr)
  case atStart => exact ⟨l, u0, hl, HH.out.1, HH.out.2.1, rfl⟩
  case round =>
    obtain ⟨m, u, hm, hA, hB, hf⟩ := hrel
    have C := indexI m wr (by omega)
    have c2 : wr.cell? ⟨w.heap.size + 2, 0, none⟩ = some (.string (bl m)) := (bk_cell hB.cs 0).trans rfl
    have c3 : wr.cell? ⟨w.heap.size + 3, 0, none⟩ = some (.string ⟨#[44]⟩) := (bk_cell hB.cp 0).trans rfl
    have c4 : wr.cell? ⟨w.heap.size + 4, 0, none⟩ = some (.int .i64 0) := (bk_cell hB.cz 0).trans rfl
    have hz : (bl m).size = m.length := bl_size m
    by_cases hci : ci m < m.length
    · rw [if_pos hci] at C
      have HY := HH.out.2.2 (m.take (ci m)) u m wr (by rw [List.length_take]; omega) hA hB
      have e1 : bl (m.take (ci m)) = (bl m).extract 0 (ci m) := by rw [bl_ext]; simp
      have e2 : (bl m).extract (ci m + 1) m.length = bl (m.drop (ci m + 1)) := by rw [bl_ext]; congr 1; rw [List.take_of_length_le (by simp)]
      have e3 : (pa (m.drop (ci m + 1)).length (m.drop (ci m + 1))).foldl stp (stp u (m.take (ci m))) = (pa l.length l).foldl stp u0 := by rw [← hf, pa_yes m hci]; rfl
      rw [e1] at HY
      obtain ⟨fn, tmps, assign, body, hy, hR⟩ := HY
      obtain ⟨c, ec⟩ : ∃ c, c = ci m := ⟨_, rfl⟩
      obtain ⟨k, ek⟩ : ∃ k, k = m.length := ⟨_, rfl⟩
      obtain ⟨S, eS⟩ : ∃ S, S = bl m := ⟨_, rfl⟩
      rw [← ec, ← ek] at hci
      rw [← ec, ← ek, ← eS] at e2
      rw [← ec, ← eS] at hy C
      rw [← eS] at c2
      rw [← ek, ← eS] at hz
      rw [← ek] at hm
      have HM : Hid _ := And.intro C (And.intro hR (And.intro e2 (And.intro e3 (And.intro hB (And.intro ec (And.intro ek eS))))))
      have hci' : (c : Int) < k := by omega
      clear C hR e1 e2 e3 hA hB hf ec ek eS
      go_upto_region 8 with (go_at_call 28; refine HM.out.1.mono ?_; rintro e w1 ⟨rfl, hw⟩; subst hw)
      refine (wpIn_wide (n := n + 1)).1 ?_
      gi_wp2
      refine RoundIn.mono HM.out.2.1 ?_
      rintro e W3 ⟨rfl, hA3, hB3⟩
      have d2 : W3.cell? ⟨w.heap.size + 2, 0, none⟩ = some (.string S) := by rw [HM.out.2.2.2.2.2.2.2]; exact (bk_cell hB3.cs 0).trans rfl
      have d3 : W3.cell? ⟨w.heap.size + 3, 0, none⟩ = some (.string ⟨#[44]⟩) := (bk_cell hB3.cp 0).trans rfl
      have f2 := bk_free hB3.cs 0
      have H3 : Hid _ := And.intro hA3 hB3
      clear hA3 hB3 hy c2 c3 c4
      gi_wp2
      go_wp2
      go_roundw
      case rel =>
        have ec := HM.out.2.2.2.2.2.1
        rw [HM.out.2.2.1]
        rw [← ec] at H3
        have e4 := HM.out.2.2.2.1
        rw [← ec] at e4
        refine ⟨m.drop (c + 1), stp u (m.take c), by rw [List.length_drop]; have := HM.out.2.2.2.2.2.2.1; omega, H3.out.1.set _, ?_, e4⟩
        rw [ec]
        exact H3.out.2.set
      case measure =>
        have ec := HM.out.2.2.2.2.2.1
        rw [HM.out.2.2.1, H3.out.2.set.left, HM.out.2.2.2.2.1.left, List.length_drop]
        have := HM.out.2.2.2.2.2.2.1
        omega
    · rw [if_neg hci] at C
      have HY := HH.out.2.2 m u m wr hm hA hB
      have e3 : stp u m = (pa l.length l).foldl stp u0 := by rw [← hf, pa_not m hci]; rfl
      obtain ⟨fn, tmps, assign, body, hy, hR⟩ := HY
      obtain ⟨S, eS⟩ : ∃ S, S = bl m := ⟨_, rfl⟩
      rw [← eS] at hy C c2 hz
      have HM : Hid _ := And.intro C (And.intro hR (And.intro e3 True.intro))
      clear C hR e3 hA hB hf eS
      go_upto_region 10 with (go_at_call 28; refine HM.out.1.mono ?_; rintro e w1 ⟨rfl, hw⟩; subst hw)
      refine (wpIn_wide (n := n + 1)).1 ?_
      gi_wp2
      refine RoundIn.mono HM.out.2.1 ?_
      rintro e W3 ⟨rfl, hA3, hB3⟩
      have H3 : Hid _ := And.intro hA3 hB3
      clear hA3 hB3 hy c2 c3 c4
      gi_wp2
      go_wp2
      go_end0
      exact ⟨⟨_, rfl⟩, by rw [← HM.out.2.2.1]; exact H3.out.1⟩
end Go.Proofs.YtpbkigmcbgbfgaaDoor
