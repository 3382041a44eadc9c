import Derived.Test.YthbggabgklnhgaaDoorPjW
import Derived.Deep.RegionHeld3
import Derived.Deep.LoopGhost
namespace Go.Proofs.YthbggabgklnhgaaDoor
open Go.RowKit
set_option linter.unusedVariables false
set_option linter.unusedSimpArgs false

def tx3 (xs : List Int) : List Int := [1, 2, 3] ++ xs.take 500
theorem tx3_len (xs : List Int) : (tx3 xs).length = 3 + min 500 xs.length := by simp [tx3]; omega
theorem tx3_row (w : World) : Row (w.alloc (.cells #[.int .u8 1, .int .u8 2, .int .u8 3] 5)) .u8 (.slice (some ⟨w.heap.size, 0, none⟩) 3 3) [1, 2, 3] := by
  refine Or.inr ⟨w.heap.size, 0, 3, rfl, by simp, ⟨Nat.le_refl _, by unfold maxLen; decide⟩, fun j hj => ?_⟩
  have hh := heap_alloc_new w (.cells #[.int .u8 1, .int .u8 2, .int .u8 3] 5)
  rw [Nat.zero_add]
  rw [bk_cell hh]
  rcases (show j = 0 ∨ j = 1 ∨ j = 2 by simp at hj; omega) with rfl | rfl | rfl <;> rfl
/-- The first three operations. -/
theorem op3_mem (w3 : World) (base : Nat) (r : Value) (X : List Int) (hb : base ≤ w3.heap.size) (hr : w3.ownsRow base 5 1 r X.length (X.map (Value.int .u8))) :
    ∃ U zs, OpS (w3.alloc (.cells #[.int .i64 1, .int .i64 0, .int .i64 0, r, .bool false, .int .i64 2, .int .i64 0, .int .i64 0, .slice none 0 0, .bool false, .int .i64 3, .int .i64 0, .int .i64 (X.length : Int), .slice none 0 0, .bool false] 25)) base (.slice (some ⟨w3.heap.size, 0, none⟩) 3 3) (op3 X) U zs := by
  refine ⟨fun j => if j = 0 then r else .slice none 0 0, _, ⟨World.ownsRow_lit w3 #[.int .i64 1, .int .i64 0, .int .i64 0, r, .bool false, .int .i64 2, .int .i64 0, .int .i64 0, .slice none 0 0, .bool false, .int .i64 3, .int .i64 0, .int .i64 (X.length : Int), .slice none 0 0, .bool false] 3 hb (by decide) rfl, fun j hj f hf => ?_, fun j hj => ?_⟩⟩
  · have hj' : j = 0 ∨ j = 1 ∨ j = 2 := by have : j < 3 := hj; omega
    have hf' : f = 0 ∨ f = 1 ∨ f = 2 ∨ f = 3 ∨ f = 4 := by omega
    rcases hj' with rfl | rfl | rfl <;> rcases hf' with rfl | rfl | rfl | rfl | rfl <;> rfl
  · have hj' : j = 0 ∨ j = 1 ∨ j = 2 := by have : j < 3 := hj; omega
    rcases hj' with rfl | rfl | rfl
    · exact owns_below hr ((Below.refl _ _).alloc (Nat.le_refl _) _)
    · exact World.ownsRow_nil _ _ _ _
    · exact World.ownsRow_nil _ _ _ _
theorem box_keep {w w' : World} {b1 s1 n1 N : Nat} {v : Value} {x1 : List Value} {cs : Array Value} (hv : w.ownsRow b1 34 s1 v n1 x1) (g : w.grownBy w' v.ownBlock) (h : w.heap[N]? = some (.cells cs 33 (0, 0))) : w'.heap[N]? = some (.cells cs 33 (0, 0)) := by
  refine (g.block N (Array.getElem?_eq_some_iff.1 h).1 (fun e => ?_)).trans h
  obtain ⟨c2', t2⟩ := owns_typeB hv _ e.symm
  rw [h] at t2
  have t3 := Option.some.inj t2
  injection t3 with _ t4
  exact absurd t4 (by decide)
theorem num_next (i j : Nat) (ej : j = 3 + i) : Value.int .i64 ((j : Int) + 1) = Value.int .i64 ((3 + (i + 1) : Nat) : Int) := by
  have e : (j : Int) + 1 = ((3 + (i + 1) : Nat) : Int) := by omega
  rw [e]
theorem pm_no {w2 wx : World} {ov rv fv : Value} {X : List Int} {sz : Nat → Nat} {lo : Nat → Bool} {i : Nat} {F : List SSendObs} (hP : PM w2 wx ov rv fv (pkB X sz lo i) (rvB X sz lo i) F) (h : (obF X sz i).f4 = false) : PM w2 wx ov rv fv (pkB X sz lo (i + 1)) (rvB X sz lo (i + 1)) F := by
  have b1 : pkB X sz lo (i + 1) = pkB X sz lo i := by rw [pkB_succ]; unfold addK; rw [if_neg (by rw [h]; decide)]
  have b2 : rvB X sz lo (i + 1) = rvB X sz lo i := by
    rw [rvB_succ]
    unfold addR
    rw [if_neg (c := (obF X sz i).f4 = true) (by rw [h]; decide)]
    split <;> rfl
  rw [b1, b2]
  exact hP
/-- Told as lost. -/
theorem pm_lost {w2 wx w6 : World} {ov rv fv v6 : Value} {X : List Int} {sz : Nat → Nat} {lo : Nat → Bool} {i An : Nat} {F : List SSendObs} {U : Nat → Value} {zs : List Value} {q2 n : Int} {q5 : Bool} (hP : PM w2 wx ov rv fv (pkB X sz lo i) (rvB X sz lo i) F) (hS : OpS wx w2.heap.size ov (pkB X sz lo i) U zs) (h : (obF X sz i).f4 = true) (h2 : (obF X sz i).f2 = q2) (h3 : ((obF X sz i).f3.length : Int) = n) (h5 : (obF X sz i).f5 = q5) (hl : lo i = true) (eAn : An = (pkB X sz lo i).length)
    (o6 : w6.ownsRow w2.heap.size 25 5 v6 (An + 1) (zs ++ [.int .i64 6, .int .i64 q2, .int .i64 n, .slice none 0 0, .bool q5])) (g6 : wx.grownBy w6 ov.ownBlock) : PM w2 w6 v6 rv fv (pkB X sz lo (i + 1)) (rvB X sz lo (i + 1)) F := by
  have b1 : pkB X sz lo (i + 1) = pkB X sz lo i ++ [hrO 6 q2 n q5] := by rw [pkB_succ]; unfold addK; rw [if_pos h, h2, h3, h5, if_pos hl]
  have b2 : rvB X sz lo (i + 1) = rvB X sz lo i := by rw [rvB_succ, if_pos hl]
  rw [b1, b2]
  exact hP.pushS hS (hrO 6 q2 n q5) (.slice none 0 0) (World.ownsRow_nil _ _ _ _) (by rw [← eAn]; exact o6) g6
/-- Told as acknowledged, and given to the receiving part. -/
theorem pm_acked {w2 wx w6 : World} {ov rv fv v6 : Value} {X : List Int} {sz : Nat → Nat} {lo : Nat → Bool} {i An : Nat} {F : List SSendObs} {U : Nat → Value} {zs : List Value} {q2 n : Int} {q5 : Bool} (hP : PM w2 wx ov rv fv (pkB X sz lo i) (rvB X sz lo (i + 1)) F) (hS : OpS wx w2.heap.size ov (pkB X sz lo i) U zs) (h : (obF X sz i).f4 = true) (h2 : (obF X sz i).f2 = q2) (h3 : ((obF X sz i).f3.length : Int) = n) (h5 : (obF X sz i).f5 = q5) (hl : lo i = false) (eAn : An = (pkB X sz lo i).length)
    (o6 : w6.ownsRow w2.heap.size 25 5 v6 (An + 1) (zs ++ [.int .i64 5, .int .i64 q2, .int .i64 n, .slice none 0 0, .bool q5])) (g6 : wx.grownBy w6 ov.ownBlock) : PM w2 w6 v6 rv fv (pkB X sz lo (i + 1)) (rvB X sz lo (i + 1)) F := by
  have b1 : pkB X sz lo (i + 1) = pkB X sz lo i ++ [hrO 5 q2 n q5] := by rw [pkB_succ]; unfold addK; rw [if_pos h, h2, h3, h5, if_neg (by rw [hl]; decide)]
  rw [b1]
  exact hP.pushS hS (hrO 5 q2 n q5) (.slice none 0 0) (World.ownsRow_nil _ _ _ _) (by rw [← eAn]; exact o6) g6
theorem pm_got {w2 wx w6 : World} {ov rv fv v6 : Value} {X : List Int} {sz : Nat → Nat} {lo : Nat → Bool} {i Rn : Nat} {F : List SSendObs} {U : Nat → Value} {ys : List Value} {q2 : Int} {q3 : List Int} {q5 : Bool} {u : Value} (hP : PM w2 wx ov rv fv (pkB X sz lo i) (rvB X sz lo i) F) (hK : OpK wx w2.heap.size rv (rvB X sz lo i) U ys) (h : (obF X sz i).f4 = true) (h2 : (obF X sz i).f2 = q2) (h3 : (obF X sz i).f3 = q3) (h5 : (obF X sz i).f5 = q5) (hl : lo i = false) (eRn : Rn = (rvB X sz lo i).length)
    (hu : wx.ownsRow w2.heap.size 5 1 u q3.length (q3.map (Value.int .u8)))
    (o6 : w6.ownsRow w2.heap.size 34 5 v6 (Rn + 1) (ys ++ [.int .i64 1, .int .i64 q2, .int .i64 0, u, .bool q5])) (g6 : wx.grownBy w6 rv.ownBlock) : PM w2 w6 ov v6 fv (pkB X sz lo i) (rvB X sz lo (i + 1)) F := by
  have b2 : rvB X sz lo (i + 1) = rvB X sz lo i ++ [⟨1, q2, 0, q3, q5⟩] := by rw [rvB_succ]; unfold addR; rw [if_neg (by rw [hl]; decide), if_pos h, h2, h3, h5]
  rw [b2]
  exact hP.pushR hK ⟨1, q2, 0, q3, q5⟩ u hu (by rw [← eRn]; exact o6) g6
theorem pm_told {w2 wx w6 : World} {ov rv fv v6 : Value} {X : List Int} {sz : Nat → Nat} {lo : Nat → Bool} {i An : Nat} {F : List SSendObs} {U : Nat → Value} {zs : List Value} {q2 n kd : Int} {q5 : Bool} (hP : PM w2 wx ov rv fv (pkB X sz lo i) (rvB X sz lo (i + 1)) F) (hS : OpS wx w2.heap.size ov (pkB X sz lo i) U zs) (h : (obF X sz i).f4 = true) (h2 : (obF X sz i).f2 = q2) (h3 : ((obF X sz i).f3.length : Int) = n) (h5 : (obF X sz i).f5 = q5) (ekd : kd = if lo i = true then 6 else 5) (eAn : An = (pkB X sz lo i).length)
    (o6 : w6.ownsRow w2.heap.size 25 5 v6 (An + 1) (zs ++ [.int .i64 kd, .int .i64 q2, .int .i64 n, .slice none 0 0, .bool q5])) (g6 : wx.grownBy w6 ov.ownBlock) : PM w2 w6 v6 rv fv (pkB X sz lo (i + 1)) (rvB X sz lo (i + 1)) F := by
  have b1 : pkB X sz lo (i + 1) = pkB X sz lo i ++ [hrO kd q2 n q5] := by rw [pkB_succ]; unfold addK; rw [if_pos h, h2, h3, h5, ekd]
  rw [b1]
  exact hP.pushS hS (hrO kd q2 n q5) (.slice none 0 0) (World.ownsRow_nil _ _ _ _) (by rw [← eAn]; exact o6) g6
theorem pm_pull {w2 wx w6 : World} {ov rv fv v6 : Value} {X : List Int} {sz : Nat → Nat} {lo : Nat → Bool} {j An : Nat} {R : List SRecvOp} {F : List SSendObs} {U : Nat → Value} {zs : List Value} (hP : PM w2 wx ov rv fv (pkC X sz lo j) R F) (hS : OpS wx w2.heap.size ov (pkC X sz lo j) U zs) (eAn : An = (pkC X sz lo j).length)
    (o6 : w6.ownsRow w2.heap.size 25 5 v6 (An + 1) (zs ++ [.int .i64 4, .int .i64 0, .int .i64 1500, .slice none 0 0, .bool false])) (g6 : wx.grownBy w6 ov.ownBlock) : PM w2 w6 v6 rv fv (pkC X sz lo (j + 1)) R F := by
  rw [pkC_succ]
  exact hP.pushS hS (plO 1500) (.slice none 0 0) (World.ownsRow_nil _ _ _ _) (by rw [← eAn]; exact o6) g6
theorem pm_no4 {w2 wx : World} {ov rv fv : Value} {X : List Int} {sz : Nat → Nat} {lo : Nat → Bool} {i : Nat} {F : List SSendObs} (hP : PM w2 wx ov rv fv (pkD X sz lo i) (rvC X sz lo i) F) (h : (obS X sz lo i).f4 = false) : PM w2 wx ov rv fv (pkD X sz lo (i + 1)) (rvC X sz lo (i + 1)) F := by
  have b1 : pkD X sz lo (i + 1) = pkD X sz lo i := by rw [pkD_succ]; unfold addK; rw [if_neg (by rw [h]; decide)]
  have b2 : rvC X sz lo (i + 1) = rvC X sz lo i := by rw [rvC_succ]; unfold addR; rw [if_neg (by rw [h]; decide)]
  rw [b1, b2]
  exact hP
theorem pm_told4 {w2 wx w6 : World} {ov rv fv v6 : Value} {X : List Int} {sz : Nat → Nat} {lo : Nat → Bool} {i An : Nat} {F : List SSendObs} {U : Nat → Value} {zs : List Value} {q2 n : Int} {q5 : Bool} (hP : PM w2 wx ov rv fv (pkD X sz lo i) (rvC X sz lo (i + 1)) F) (hS : OpS wx w2.heap.size ov (pkD X sz lo i) U zs) (h : (obS X sz lo i).f4 = true) (h2 : (obS X sz lo i).f2 = q2) (h3 : ((obS X sz lo i).f3.length : Int) = n) (h5 : (obS X sz lo i).f5 = q5) (eAn : An = (pkD X sz lo i).length)
    (o6 : w6.ownsRow w2.heap.size 25 5 v6 (An + 1) (zs ++ [.int .i64 5, .int .i64 q2, .int .i64 n, .slice none 0 0, .bool q5])) (g6 : wx.grownBy w6 ov.ownBlock) : PM w2 w6 v6 rv fv (pkD X sz lo (i + 1)) (rvC X sz lo (i + 1)) F := by
  have b1 : pkD X sz lo (i + 1) = pkD X sz lo i ++ [hrO 5 q2 n q5] := by rw [pkD_succ]; unfold addK; rw [if_pos h, h2, h3, h5]
  rw [b1]
  exact hP.pushS hS (hrO 5 q2 n q5) (.slice none 0 0) (World.ownsRow_nil _ _ _ _) (by rw [← eAn]; exact o6) g6
theorem pm_got4 {w2 wx w6 : World} {ov rv fv v6 : Value} {X : List Int} {sz : Nat → Nat} {lo : Nat → Bool} {i Rn : Nat} {F : List SSendObs} {U : Nat → Value} {ys : List Value} {q2 : Int} {q3 : List Int} {q5 : Bool} {u : Value} (hP : PM w2 wx ov rv fv (pkD X sz lo i) (rvC X sz lo i) F) (hK : OpK wx w2.heap.size rv (rvC X sz lo i) U ys) (h : (obS X sz lo i).f4 = true) (h2 : (obS X sz lo i).f2 = q2) (h3 : (obS X sz lo i).f3 = q3) (h5 : (obS X sz lo i).f5 = q5) (eRn : Rn = (rvC X sz lo i).length)
    (hu : wx.ownsRow w2.heap.size 5 1 u q3.length (q3.map (Value.int .u8)))
    (o6 : w6.ownsRow w2.heap.size 34 5 v6 (Rn + 1) (ys ++ [.int .i64 1, .int .i64 q2, .int .i64 0, u, .bool q5])) (g6 : wx.grownBy w6 rv.ownBlock) : PM w2 w6 ov v6 fv (pkD X sz lo i) (rvC X sz lo (i + 1)) F := by
  have b2 : rvC X sz lo (i + 1) = rvC X sz lo i ++ [⟨1, q2, 0, q3, q5⟩] := by rw [rvC_succ]; unfold addR; rw [if_pos h, h2, h3, h5]
  rw [b2]
  exact hP.pushR hK ⟨1, q2, 0, q3, q5⟩ u hu (by rw [← eRn]; exact o6) g6
theorem recvP (X : List Int) (P : List SRecvOp) (w2 wx : World) (rv : Value) (U : Nat → Value) (ys : List Value) (w : World) (hw : Below w.heap.size w wx) (ht : TabF w) (hX : X.length ≤ 65536) (hv : ValR X P) (hK : OpK wx w2.heap.size rv (P ++ [rdO 4611686018427387903]) U ys) (hl : P.length ≤ 300) :
    Calls Tryd.prog 7 #[.int .i64 16384, rv] wx fun e w' => ∃ r, e = .returned (.tuple #[r, .int .i64 0]) ∧ BOwns 39 5 SRecvObs.c SRecvObs.d w' wx.heap.size r (mrun 16384 (P ++ [rdO 4611686018427387903]) (P ++ [rdO 4611686018427387903]).length).2 ∧ Below wx.heap.size wx w' := by
  have h0 : 0 < w.heap.size := cell_ltP ht.c0
  have hlen : (P ++ [rdO 4611686018427387903]).length = P.length + 1 := by simp
  have hg : ∀ j, j < (P ++ [rdO 4611686018427387903]).length → ((P ++ [rdO 4611686018427387903]).getD j default).d.length ≤ 140737488355328 ∧ ((P ++ [rdO 4611686018427387903]).getD j default).f1 ≤ 9223372036854775807 := fun j hj => by
    have hm : (P ++ [rdO 4611686018427387903]).getD j default ∈ P ++ [rdO 4611686018427387903] := by
      rw [List.getD_eq_getElem?_getD, List.getElem?_eq_getElem hj]
      exact List.getElem_mem _
    rcases List.mem_append.1 hm with z | z
    · obtain ⟨a, b, f, e, hab, hb, -⟩ := hv _ z
      rw [e]
      have := pc_length X a b hab hb
      exact ⟨by show ((X.drop a).take (b - a)).length ≤ _; omega, by show (a : Int) ≤ _; omega⟩
    · have : (P ++ [rdO 4611686018427387903]).getD j default = rdO 4611686018427387903 := by simpa using z
      rw [this]
      exact ⟨Nat.zero_le _, by show (0 : Int) ≤ _; omega⟩
  have C := implRR 16384 rv (P ++ [rdO 4611686018427387903]) wx (ht.below hw h0) (Nat.lt_of_lt_of_le h0 hw.size) hK.brow (by omega) (fun j hj => (hg j hj).1) (fun j hj => (hg j hj).2)
  have e1 : rrC 16384 (P ++ [rdO 4611686018427387903]) = 0 := by unfold rrC; rw [if_neg (by omega), if_neg (by omega)]
  have e2 : rrY 16384 (P ++ [rdO 4611686018427387903]) = (mrun 16384 (P ++ [rdO 4611686018427387903]) (P ++ [rdO 4611686018427387903]).length).2 := by unfold rrY; rw [if_neg (by omega)]; rfl
  rw [e1, e2] at C
  exact C
theorem pkD_pos (X : List Int) (sz : Nat → Nat) (lo : Nat → Bool) (k : Nat) : 0 < (pkD X sz lo k).length := by
  induction k with
  | zero => show 0 < (pkC X sz lo 60).length; rw [pkC_len]; omega
  | succ k ih =>
    rw [pkD_succ]
    unfold addK
    split
    · simp
    · exact ih
/-- The last operation of the receiving part is put; what the third run answered stands. -/
theorem pm_end {w2 wD w5 w6 : World} {ov fv tv v6 : Value} {ar : Option Addr} {Rm cr : Nat} {A : List SSendOp} {R : List SRecvOp} {F T : List SSendObs} {U : Nat → Value} {ys : List Value} (hP : PM w2 wD ov (.slice ar R.length cr) fv A R F) (hK : OpK wD w2.heap.size (.slice ar R.length cr) R U ys) (hKo : wD.ownsRow w2.heap.size 34 5 (.slice ar Rm cr) Rm ys) (eRm : Rm = R.length)
    (o5 : BOwns 33 7 SSendObs.c SSendObs.d w5 wD.heap.size tv T) (b5 : Below wD.heap.size wD w5)
    (o6 : w6.ownsRow w2.heap.size 34 5 v6 (Rm + 1) (ys ++ [.int .i64 3, .int .i64 0, .int .i64 4611686018427387903, .slice none 0 0, .bool false])) (g6 : (w5.alloc (.cells #[.int .i64 3, .int .i64 0, .int .i64 4611686018427387903, .slice none 0 0, .bool false] 34)).grownBy w6 (Value.slice ar Rm cr).ownBlock) :
    ∃ U ys, OpK w6 w2.heap.size v6 (R ++ [rdO 4611686018427387903]) U ys ∧ BOwns 33 7 SSendObs.c SSendObs.d w6 w2.heap.size tv T ∧ Below w2.heap.size w2 w6 := by
  have hs := hP.bw.size
  have ba : Below w5.heap.size w5 (w5.alloc (.cells #[.int .i64 3, .int .i64 0, .int .i64 4611686018427387903, .slice none 0 0, .bool false] 34)) := (Below.refl _ _).alloc (Nat.le_refl _) _
  have b2 : Below w2.heap.size w2 w5 := hP.bw.trans (b5.mono hs)
  have b3 := b2.alloc b2.size (.cells #[.int .i64 3, .int .i64 0, .int .i64 4611686018427387903, .slice none 0 0, .bool false] 34)
  have K3 := (hK.below b5).below ba
  have ho := owns_below (owns_below hKo b5) ba
  rw [eRm] at o6 g6 ho
  exact ⟨_, _, K3.push (rdO 4611686018427387903) (.slice none 0 0) (World.ownsRow_nil _ _ _ _) o6 g6, BOwns.keepP (by decide) (by decide) ho g6 ((o5.mono hs).below ba), b3.grown g6 b3.size (fun t ht => (ho.lt t ht).1)⟩
theorem num_next4 (i j B : Nat) (ej : j = B + i) : Value.int .i64 ((j : Int) + 1) = Value.int .i64 ((B + (i + 1) : Nat) : Int) := by
  have e : (j : Int) + 1 = ((B + (i + 1) : Nat) : Int) := by omega
  rw [e]
set_option maxRecDepth 20000 in
set_option maxHeartbeats 8000000 in
theorem fnPipe_walk (v0 : Value) (x0 : List Int) (v1 : Value) (x1 : List Int) (l0 : x0.length ≤ maxLen) (wf0 : ∀ x ∈ x0, (Lit.int .u8 x).wf = true) (l1 : x1.length ≤ maxLen) (wf1 : ∀ x ∈ x1, (Lit.int .u8 x).wf = true)
    (w : World) (row0 : Row w .u8 v0 x0) (row1 : Row w .u8 v1 x1) (ht : TabF w) :
    Calls Tryd.prog 3 #[v0, v1] w fun e w' => e = .returned (.bool true) ∧ Below w.heap.size w w' := by
  have hB := bytes_of_wf wf1
  obtain ⟨a0, c0, rfl⟩ := row0.form
  obtain ⟨a1, c1, rfl⟩ := row1.form
  have hl0 : x0.length ≤ 9223372036854775807 := Nat.le_trans l0 (by decide)
  have hl1 : x1.length ≤ 9223372036854775807 := Nat.le_trans l1 (by decide)
  by_cases hb0 : 1048576 < x0.length
  · have hb0' : (1048576 : Int) < (x0.length : Int) := by omega
    generalize x0.length = m0 at *
    generalize x1.length = m1 at *
    clear row0 row1 hB wf0 wf1
    go_enter Tryd.func3, Tryd.ntmps3
    go_wp2
    go_ret
    exact ⟨rfl, Below.refl _ _⟩
  by_cases hb1 : 1048576 < x1.length
  · have hb1' : (1048576 : Int) < (x1.length : Int) := by omega
    have hb0' : ¬ (1048576 : Int) < (x0.length : Int) := by omega
    generalize x0.length = m0 at *
    generalize x1.length = m1 at *
    clear row0 row1 hB wf0 wf1
    go_enter Tryd.func3, Tryd.ntmps3
    go_wp2
    go_ret
    exact ⟨rfl, Below.refl _ _⟩
  have hb0' : ¬ (1048576 : Int) < (x0.length : Int) := by omega
  have hb1' : ¬ (1048576 : Int) < (x1.length : Int) := by omega
  have hcp : x0.length ≤ c0 := by
    rcases row0 with ⟨rfl, _⟩ | ⟨b, off, cap, e, hb, hc, hx⟩
    · exact Nat.zero_le _
    · cases e; exact hc.1
  obtain ⟨k, ek⟩ : ∃ k, k = min 500 x0.length := ⟨_, rfl⟩
  have rk : Row w .u8 (.slice a0 k c0) (x0.take k) := row_pre row0 (by omega)
  have e500 : x0.take k = x0.take 500 := by rw [ek]; simp [List.take_eq_take_iff]
  have ekm : min (x0.length : Int) 500 = (k : Int) := by omega
  have AT : ∀ (i n : Nat) (wx : World), i ≤ 2147483648 → 1 ≤ n → n ≤ 2147483648 → Below w.heap.size w wx → Calls Tryd.prog 5 #[.slice a1 x1.length c1, .int .i64 (i : Int), .int .i64 (n : Int)] wx fun e w' => e = .returned (.int .i64 (atN x1 i n : Int)) ∧ ∃ m, w' = wx.drewN m :=
    fun i n wx hi h2 hn hb => atP _ x1 i n wx (row1.below hb) hB (by omega) hi h2 hn
  have kl : k ≤ 500 := by omega
  have kl0 : k ≤ c0 := by omega
  have hlen : (tx3 x0).length = 3 + k := by rw [tx3_len, ek]
  have B1 : Below w.heap.size w (w.alloc (.cells #[.int .u8 1, .int .u8 2, .int .u8 3] 5)) := (Below.refl _ _).alloc (Nat.le_refl _) _
  have HT : Hid _ := And.intro (rk.below B1) (And.intro B1 (And.intro e500 (And.intro hlen ekm)))
  have HH : Hid _ := And.intro AT (And.intro row1 ht)
  obtain ⟨m0, em0⟩ : ∃ m, m = x0.length := ⟨_, rfl⟩
  obtain ⟨m1, em1⟩ : ∃ m, m = x1.length := ⟨_, rfl⟩
  have EM : Hid _ := And.intro em0 em1
  rw [← em0] at hl0 hb0' hcp hb0 ekm ⊢
  rw [← em1] at hl1 hb1' hb1 ⊢
  rw [← em1] at HH
  clear row0 row1 hB wf0 wf1 l0 l1 AT rk e500 hlen B1 em0 em1 ek
  go_enter Tryd.func3, Tryd.ntmps3
  go_wp2_with (first
    | (at_builtin; (refine wpList_append_txt rfl _ _ rfl w.heap.size 3 [1, 2, 3] rfl rfl (tx3_row w) (.slice a0 k c0) (x0.take k) rfl HT.out.1 (by decide) (by simp; omega) ?_; intro v2 w2 r2 b2; rw [HT.out.2.2.1] at r2; have r3 : Row w2 .u8 v2 (tx3 x0) := r2; obtain ⟨at2, ct2, ev2⟩ := r3.form; rw [HT.out.2.2.2.1] at ev2; subst ev2; have H2 : Hid (Row w2 .u8 (.slice at2 (3 + k) ct2) (tx3 x0) ∧ Below w.heap.size w w2) := ⟨r3, HT.out.2.1.trans (b2.mono HT.out.2.1.size)⟩; clear r2 r3 b2))
    | (go_at_call 4; refine (copiedP _ _ w2 H2.out.1 (by have := HT.out.2.2.2.1; omega)).mono ?_; rintro e w3 ⟨r, rfl, o3, b3⟩; obtain ⟨ra, rc, er⟩ := own_form o3; rw [HT.out.2.2.2.1] at er; subst er; have H3 : Hid _ := And.intro o3 b3; clear o3 b3))
  obtain ⟨X, eX⟩ : ∃ X, X = tx3 x0 := ⟨_, rfl⟩
  obtain ⟨sz, esz⟩ : ∃ sz : Nat → Nat, sz = fun i => 10 + atN x1 i 30 := ⟨_, rfl⟩
  obtain ⟨lo, elo⟩ : ∃ lo : Nat → Bool, lo = fun i => decide (atN x1 (2 * (3 + i)) 3 = 0) := ⟨_, rfl⟩
  have hs : ∀ i, 10 ≤ sz i ∧ sz i ≤ 1500 := fun i => by rw [esz]; have := atN_lt x1 i 30 (by decide); show 10 ≤ 10 + atN x1 i 30 ∧ 10 + atN x1 i 30 ≤ 1500; omega
  have hX3 : X.length = 3 + k := by rw [eX]; exact HT.out.2.2.2.1
  rw [← eX] at H2 H3
  have HS : Hid _ := And.intro hs (And.intro hX3 (And.intro esz elo))
  have B2 : Below w2.heap.size w2 w3 := H3.out.2
  have M3 := op3_mem w3 w2.heap.size (.slice ra (3 + k) rc) X B2.size H3.out.1
  rw [hX3] at M3
  have M3' : Hid _ := M3
  clear M3 hs esz elo eX
  go_loopg [6, 7] 60 (fun q ov iv wr => ∃ (i : Nat) (U : Nat → Value) (zs : List Value), i ≤ 60 ∧ q = 60 - i ∧ iv = .int .i64 (i : Int) ∧ OpS wr w2.heap.size ov (pkA X sz i) U zs ∧ Below w2.heap.size w2 wr)
  case atStart =>
    obtain ⟨U, zs, h⟩ := M3'.out
    exact ⟨0, U, zs, by omega, by omega, rfl, h, B2.alloc B2.size _⟩
  case round =>
    obtain ⟨i, U, zs, hi, hq, rfl, hS, hbx⟩ := hrel
    obtain ⟨ao, co, ev⟩ := hS.brow.form
    rw [pkA_len] at ev
    subst ev
    have hlen := pkA_len X sz i
    have HX : Hid _ := And.intro hS (And.intro hbx (And.intro hq hlen))
    have BW : Below w.heap.size w wr := H2.out.2.trans (hbx.mono H2.out.2.size)
    have hsz2 : w2.heap.size ≤ wr.heap.size := hbx.size
    clear hS hbx hq hlen
    by_cases hlt : i < 60
    · have A1 : Calls Tryd.prog 5 #[.slice a1 m1 c1, .int .i64 (i : Int), .int .i64 30] wr fun e w' => e = .returned (.int .i64 (atN x1 i 30 : Int)) ∧ ∃ m, w' = wr.drewN m := HH.out.1 i 30 wr (by omega) (by omega) (by omega) BW
      obtain ⟨av, eav⟩ : ∃ av, av = atN x1 i 30 := ⟨_, rfl⟩
      have hav := atN_lt x1 i 30 (by decide)
      rw [← eav] at A1 hav
      have HA : Hid _ := And.intro A1 (And.intro eav BW)
      clear A1 eav BW
      go_wp2_with (first
        | (go_at_call 5; refine HA.out.1.mono ?_; rintro e w4 ⟨rfl, m4, hm4⟩; have b4 : Below wr.heap.size wr w4 := (by rw [hm4]; exact below_refl' _ _ _); have K4 := HX.out.1.below b4; have h4s : wr.heap.size ≤ w4.heap.size := b4.size; have q4 : w4.ownsRow w2.heap.size 25 5 (.slice ao (3 + i) co) (3 + i) zs := (by have t := K4.ow; rw [HX.out.2.2.2] at t; exact t); have H4 : Hid _ := And.intro K4 (And.intro (HX.out.2.1.trans (b4.mono hsz2)) q4); clear K4 b4 hm4 q4)
        | (at_builtin; refine wpList_append_opS rfl (.tmp 50) (.tmp 56) rfl w2.heap.size (.slice ao (3 + i) co) (3 + i) zs rfl (owns_below H4.out.2.2 ((Below.refl _ _).alloc (Nat.le_refl _) _)) w4.heap.size (.int .i64 4) (.int .i64 0) (.int .i64 (10 + (av : Int))) (.slice none 0 0) (.bool false) ⟨rfl, rfl, rfl, rfl, rfl⟩ rfl (heap_alloc_new w4 _) (by omega) (by simp; omega) ?_; intro v6 w6 o6 g6; have H6 : Hid _ := And.intro o6 g6; obtain ⟨ra6, rc6, er6⟩ := own_form o6; clear o6 g6; subst er6))
      go_roundg (60 - (i + 1))
      case measure => (have := HX.out.2.2.1; omega)
      case rel =>
        have B5 := H4.out.2.1.alloc H4.out.2.1.size (.cells #[.int .i64 4, .int .i64 0, .int .i64 (10 + (av : Int)), .slice none 0 0, .bool false] 25)
        have K5 := H4.out.1.below ((Below.refl w4.heap.size w4).alloc (Nat.le_refl _) (.cells #[.int .i64 4, .int .i64 0, .int .i64 (10 + (av : Int)), .slice none 0 0, .bool false] 25))
        have e1 : pkA X sz (i + 1) = pkA X sz i ++ [plO (10 + (av : Int))] := by
          show pkA X sz i ++ [plO (sz i)] = _
          rw [HS.out.2.2.1, HA.out.2.1]
          rfl
        refine ⟨i + 1, _, _, by omega, rfl, by go_num, (by rw [e1]; exact K5.push (plO (10 + (av : Int))) (.slice none 0 0) (World.ownsRow_nil _ _ _ _) (by rw [HX.out.2.2.2]; exact H6.out.1) H6.out.2), B5.grown H6.out.2 B5.size (fun t ht => (K5.ow.lt t ht).1)⟩
    · obtain rfl : i = 60 := by omega
      have hXl : X.length ≤ 65536 := by omega
      have CS := sendP (pkA X sz 60) w2 wr _ U zs w BW HH.out.2.2 HX.out.1 (good_pkA X sz hXl (fun i => (HS.out.1 i).2) 60) (by rw [pkA_len]; omega)
      obtain ⟨wA, ewA⟩ : ∃ x, x = wr := ⟨_, rfl⟩
      subst ewA
      have HC : Hid _ := And.intro CS BW
      clear CS BW
      have hsA : w2.heap.size ≤ wA.heap.size := hsz2
      clear hsz2 hlt hi
      go_wp2_with (go_at_call 6; refine HC.out.1.mono ?_; rintro e w5 ⟨r, rfl, o5, b5⟩; obtain ⟨fa, fc, er⟩ := o5.row.form; rw [sobs_len, pkA_len] at er; subst er; have hs5 : wA.heap.size ≤ w5.heap.size := b5.size; have H5 : Hid _ := And.intro o5 b5; clear o5 b5)
      have P0 : PM w2 (w5.alloc (.cells #[] 34)) (.slice ao (3 + 60) co) (.slice (some ⟨w5.heap.size, 0, none⟩) 0 0) (.slice fa (3 + 60) fc) (pkB X sz lo 0) (rvB X sz lo 0) (sobs (pkA X sz 60)) :=
        ⟨⟨_, _, (HX.out.1.below H5.out.2).below ((Below.refl _ _).alloc (Nat.le_refl _) _)⟩, ⟨_, _, opk0 w5 _ (by omega)⟩, (H5.out.1.mono hsA).below ((Below.refl _ _).alloc (Nat.le_refl _) _), (HX.out.2.1.trans (H5.out.2.mono hsA)).alloc (by omega) _⟩
      have HP0 : Hid _ := And.intro P0 HX.out.2.1
      clear P0 HX M3' HC H5 H3 hsA hs5
      go_loopg [6, 10, 11, 12] 60 (fun q ov rv iv bx wr => ∃ (i : Nat), i ≤ 60 ∧ q = 60 - i ∧ iv = .int .i64 ((3 + i : Nat) : Int) ∧ PM w2 wr ov rv (.slice fa (3 + 60) fc) (pkB X sz lo i) (rvB X sz lo i) (sobs (pkA X sz 60)))
      case atStart => exact ⟨0, by omega, by omega, rfl, HP0.out.1⟩
      case round =>
        obtain ⟨i, hi, hq, rfl, hP⟩ := hrel
        obtain ⟨Us, zs, hS⟩ := hP.so
        obtain ⟨Ur, ys, hK⟩ := hP.ro
        obtain ⟨ao, co, ev⟩ := hS.brow.form
        subst ev
        obtain ⟨ar, cr, ev⟩ := hK.brow.form
        subst ev
        obtain ⟨An, eAn⟩ : ∃ n, n = (pkB X sz lo i).length := ⟨_, rfl⟩
        obtain ⟨Rn, eRn⟩ : ∃ n, n = (rvB X sz lo i).length := ⟨_, rfl⟩
        have hAn := pkB_len X sz lo i
        have hRn := rvB_len X sz lo i
        rw [← eAn] at hAn ⊢
        rw [← eRn] at hRn ⊢
        have hSo : wr.ownsRow w2.heap.size 25 5 (.slice ao An co) An zs := by rw [eAn]; exact hS.ow
        have hKo : wr.ownsRow w2.heap.size 34 5 (.slice ar Rn cr) Rn ys := by rw [eRn]; exact hK.ow
        have BW : Below w.heap.size w wr := H2.out.2.trans (hP.bw.mono H2.out.2.size)
        have hsz2 : w2.heap.size ≤ wr.heap.size := hP.bw.size
        by_cases hlt : i < 60
        · obtain ⟨fb, foff, cap, ev, hbl, U0, hc, hr⟩ := hP.fo.row.at' (by rw [sobs_len, pkA_len]; omega)
          simp only [Value.slice.injEq] at ev
          obtain ⟨rfl, -, rfl⟩ := ev
          obtain ⟨j, ej⟩ : ∃ j, j = 3 + i := ⟨_, rfl⟩
          have hck := hc (3 + i) (by rw [sobs_len, pkA_len]; omega)
          have hrk := hr (3 + i) (by rw [sobs_len, pkA_len]; omega)
          have eo : (sobs (pkA X sz 60)).getD (3 + i) default = obF X sz i := rfl
          have ho3 := sobs_f3 (pkA X sz 60) (3 + i) (by rw [pkA_len]; omega)
          rw [eo] at hck hrk ho3
          obtain ⟨uk, euk⟩ : ∃ u, u = U0 (3 + i) := ⟨_, rfl⟩
          rw [← euk] at hck hrk
          obtain ⟨o, eob⟩ : ∃ o, o = obF X sz i := ⟨_, rfl⟩
          rw [← eob] at hck hrk ho3
          obtain ⟨da, dc, eu⟩ := hrk.form
          have hrk' : Row wr .u8 uk o.f3 := hrk
          obtain ⟨dn, edn⟩ : ∃ dn, dn = o.f3.length := ⟨_, rfl⟩
          have eu' : uk = .slice da dn dc := by rw [edn]; exact eu
          rw [← ej] at hck ⊢
          obtain ⟨q0, q1, q2, q3, q4, q5, q6⟩ := o
          dsimp only [SSendObs.c] at hck
          dsimp only at hrk' edn ho3
          rw [eu'] at hck hrk'
          have cq0 : wr.cell? ⟨fb, foff + j * 7, none⟩ = some (.int .i64 q0) := hck 0 (by omega)
          have cq1 : wr.cell? ⟨fb, foff + j * 7 + 1, none⟩ = some (.int .i64 q1) := hck 1 (by omega)
          have cq2 : wr.cell? ⟨fb, foff + j * 7 + 2, none⟩ = some (.int .i64 q2) := hck 2 (by omega)
          have cq3 : wr.cell? ⟨fb, foff + j * 7 + 3, none⟩ = some (.slice da dn dc) := hck 3 (by omega)
          have cq4 : wr.cell? ⟨fb, foff + j * 7 + 4, none⟩ = some (.bool q4) := hck 4 (by omega)
          have cq5 : wr.cell? ⟨fb, foff + j * 7 + 5, none⟩ = some (.bool q5) := hck 5 (by omega)
          have cq6 : wr.cell? ⟨fb, foff + j * 7 + 6, none⟩ = some (.bool q6) := hck 6 (by omega)
          have hj63 : j < 3 + 60 := by omega
          have e1 : (obF X sz i).f2 = q2 ∧ (obF X sz i).f3 = q3 ∧ (obF X sz i).f5 = q5 := by rw [← eob]; exact ⟨rfl, rfl, rfl⟩
          have e2 : (obF X sz i).f4 = q4 := by rw [← eob]
          have HR : Hid _ := And.intro hP (And.intro hS (And.intro hK (And.intro hrk' (And.intro e1 (And.intro e2 (And.intro ej (And.intro edn (And.intro hq (And.intro hSo (And.intro hKo (And.intro BW (And.intro eAn eRn))))))))))))
          have hdn : dn ≤ 65536 := by rw [edn]; exact ho3
          have hj : j ≤ 63 := by omega
          have hj2 : IntKind.i64.wrap (2 * (j : Int)) = 2 * (j : Int) := by rw [IntKind.wrap_i64]; omega
          clear hP hS hK hrk hrk' e1 e2 edn hq hSo hKo BW hck hc hr eu eu' euk eob eo ho3 ej eAn eRn
          cases q4
          · go_wp2_with fail
            go_roundg (60 - (i + 1))
            case measure => (have := HR.out.2.2.2.2.2.2.2.2.1; omega)
            case rel =>
              obtain ⟨hP, hS, hK, hrk, e1, e2, ej, edn, hq, hSo, hKo, BW, eAn, eRn⟩ := HR.out
              rw [eAn, eRn]
              exact ⟨i + 1, by omega, rfl, num_next i j ej, pm_no (hP.below ((Below.refl _ _).alloc (Nat.le_refl _) _)) e2⟩
          · obtain ⟨av, eav⟩ : ∃ av, av = atN x1 (2 * j) 3 := ⟨_, rfl⟩
            have hbA : Below wr.heap.size wr (wr.alloc (.cells #[.int .i64 q0, .int .i64 q1, .int .i64 q2, .slice da dn dc, .bool true, .bool q5, .bool q6] 33)) := (Below.refl _ _).alloc (Nat.le_refl _) _
            have A2 : Calls Tryd.prog 5 #[.slice a1 m1 c1, .int .i64 (2 * (j : Int)), .int .i64 3] (wr.alloc (.cells #[.int .i64 q0, .int .i64 q1, .int .i64 q2, .slice da dn dc, .bool true, .bool q5, .bool q6] 33)) fun e w' => e = .returned (.int .i64 (av : Int)) ∧ ∃ m, w' = (wr.alloc (.cells #[.int .i64 q0, .int .i64 q1, .int .i64 q2, .slice da dn dc, .bool true, .bool q5, .bool q6] 33)).drewN m := by
              have t := HH.out.1 (2 * j) 3 (wr.alloc (.cells #[.int .i64 q0, .int .i64 q1, .int .i64 q2, .slice da dn dc, .bool true, .bool q5, .bool q6] 33)) (by omega) (by omega) (by omega) (HR.out.2.2.2.2.2.2.2.2.2.2.2.1.trans (hbA.mono HR.out.2.2.2.2.2.2.2.2.2.2.2.1.size))
              rw [← eav, show ((2 * j : Nat) : Int) = 2 * (j : Int) by omega] at t
              exact t
            have ll : lo i = decide (av = 0) := by
              have ej := HR.out.2.2.2.2.2.2.1
              rw [HS.out.2.2.2, eav, ej]
            have hav := atN_lt x1 (2 * j) 3 (by decide)
            rw [← eav] at hav
            have HA : Hid _ := And.intro A2 (And.intro ll hbA)
            clear A2 ll hbA eav
            go_upto_if 90 with (go_at_call 5; refine HA.out.1.mono ?_; rintro e w4 ⟨rfl, m4, hm4⟩; have b4 : Below wr.heap.size wr w4 := (by rw [hm4]; exact below_drewN HA.out.2.2 _); have kb : w4.heap[wr.heap.size]? = some (.cells #[.int .i64 q0, .int .i64 q1, .int .i64 q2, .slice da dn dc, .bool true, .bool q5, .bool q6] 33) := (by rw [hm4]; exact heap_alloc_new wr _); have hs4 : wr.heap.size < w4.heap.size := (Array.getElem?_eq_some_iff.1 kb).1; have x2 : w4.cell? ⟨wr.heap.size, 2, none⟩ = some (.int .i64 q2) := (bk_cell kb 2).trans rfl; have x3 : w4.cell? ⟨wr.heap.size, 3, none⟩ = some (.slice da dn dc) := (bk_cell kb 3).trans rfl; have x5 : w4.cell? ⟨wr.heap.size, 5, none⟩ = some (.bool q5) := (bk_cell kb 5).trans rfl; have H4 : Hid _ := And.intro b4 kb; clear b4 kb hm4)
            go_cut [10, 13] from 73 to 113 (fun v10 v13 wx => (∃ ar' Rn' cr', v10 = .slice ar' Rn' cr') ∧ v13 = .int .i64 (if lo i = true then 6 else 5) ∧ PM w2 wx (.slice ao An co) v10 (.slice (some ⟨fb, foff, none⟩) (3 + 60) fc) (pkB X sz lo i) (rvB X sz lo (i + 1)) (sobs (pkA X sz 60)) ∧ wx.heap[wr.heap.size]? = some (.cells #[.int .i64 q0, .int .i64 q1, .int .i64 q2, .slice da dn dc, .bool true, .bool q5, .bool q6] 33))
            case first =>
              by_cases c0' : av = 0
              · have z0 : ((av : Int) == 0) = true := by simp [c0']
                have lt : lo i = true := by rw [HA.out.2.1, decide_eq_true c0']
                have E : Hid _ := And.intro lt c0'
                clear lt c0'
                go_wp2_with fail
                go_meet
                refine ⟨⟨_, _, _, rfl⟩, by rw [if_pos E.out.1], ?_, H4.out.2⟩
                obtain ⟨hP, hS, hK, hrk, e1, e2, ej, edn, hq, hSo, hKo, BW, eAn, eRn⟩ := HR.out
                have b2 : rvB X sz lo (i + 1) = rvB X sz lo i := by rw [rvB_succ, if_pos E.out.1]
                rw [b2, eAn, eRn]
                exact hP.below H4.out.1
              · have z0 : ((av : Int) == 0) = false := by simp [c0']
                have lt : lo i = false := by rw [HA.out.2.1, decide_eq_false c0']
                have E : Hid _ := And.intro lt c0'
                clear lt c0'
                have bD : Below wr.heap.size wr w4.drew := below_drewN H4.out.1 1
                have CP := copiedP (.slice da dn dc) q3 w4.drew (HR.out.2.2.2.1.below bD) (by have := HR.out.2.2.2.2.2.2.2.1; omega)
                have x2d : w4.drew.cell? ⟨wr.heap.size, 2, none⟩ = some (.int .i64 q2) := x2
                have x3d : w4.drew.cell? ⟨wr.heap.size, 3, none⟩ = some (.slice da dn dc) := x3
                have x5d : w4.drew.cell? ⟨wr.heap.size, 5, none⟩ = some (.bool q5) := x5
                have hKo4 : w4.drew.ownsRow w2.heap.size 34 5 (.slice ar Rn cr) Rn ys := owns_below HR.out.2.2.2.2.2.2.2.2.2.2.1 bD
                have hsd : wr.heap.size < w4.drew.heap.size := hs4
                have HW : Hid _ := And.intro CP (And.intro bD hKo4)
                clear CP bD hKo4
                go_upto_region 21 with fail
                go_region_held3 (fun w' => w'.cell? ⟨wr.heap.size, 2, none⟩ = some (.int .i64 q2) ∧ w'.cell? ⟨wr.heap.size, 3, none⟩ = some (.slice da dn dc) ∧ w'.cell? ⟨wr.heap.size, 5, none⟩ = some (.bool q5)) (first | exact ⟨z2, z3, z5⟩ | exact ⟨u2, u3, u5⟩ | exact ⟨y2, y3, y5⟩ | go_keep)
                  (first
                  | (go_at_call 4; refine HW.out.1.mono ?_; rintro e w5 ⟨r5, rfl, o5, b5⟩; obtain ⟨ra5, rc5, er⟩ := own_form o5; rw [← HR.out.2.2.2.2.2.2.2.1] at er; subst er; have y2 : w5.cell? ⟨wr.heap.size, 2, none⟩ = some (.int .i64 q2) := (b5.cell (p := ⟨wr.heap.size, 2, none⟩) hsd).trans x2d; have y3 : w5.cell? ⟨wr.heap.size, 3, none⟩ = some (.slice da dn dc) := (b5.cell (p := ⟨wr.heap.size, 3, none⟩) hsd).trans x3d; have y5 : w5.cell? ⟨wr.heap.size, 5, none⟩ = some (.bool q5) := (b5.cell (p := ⟨wr.heap.size, 5, none⟩) hsd).trans x5d; have h5s : w4.drew.heap.size ≤ w5.heap.size := b5.size; have h5l : wr.heap.size < w5.heap.size := Nat.lt_of_lt_of_le hsd h5s; have hba : Below w5.heap.size w5 (w5.alloc (.cells #[.int .i64 1, .int .i64 q2, .int .i64 0, .slice ra5 dn rc5, .bool q5] 34)) := (Below.refl _ _).alloc (Nat.le_refl _) _; have u2 := (hba.cell (p := ⟨wr.heap.size, 2, none⟩) h5l).trans y2; have u3 := (hba.cell (p := ⟨wr.heap.size, 3, none⟩) h5l).trans y3; have u5 := (hba.cell (p := ⟨wr.heap.size, 5, none⟩) h5l).trans y5; have H5 : Hid _ := And.intro o5 b5; clear o5 b5 hba)
                  | (refine step_append_op rfl (.tmp 91) (.tmp 100) rfl w2.heap.size (.slice ar Rn cr) Rn ys rfl (owns_below (owns_below HW.out.2.2 H5.out.2) ((Below.refl _ _).alloc (Nat.le_refl _) _)) w5.heap.size (.int .i64 1) (.int .i64 q2) (.int .i64 0) (.slice ra5 dn rc5) (.bool q5) ⟨rfl, rfl, rfl, rfl, rfl⟩ rfl (heap_alloc_new w5 _) ?_ ?_ ?_; omega; (simp; omega); intro v6 w6 o6 g6; have k6 : w6.heap[wr.heap.size]? = some (.cells #[.int .i64 q0, .int .i64 q1, .int .i64 q2, .slice da dn dc, .bool true, .bool q5, .bool q6] 33) := (box_keep (owns_below (owns_below HW.out.2.2 H5.out.2) ((Below.refl w5.heap.size w5).alloc (Nat.le_refl _) _)) g6 ((((Below.refl w5.heap.size w5).alloc (Nat.le_refl _) _).block _ h5l).trans ((H5.out.2.block _ hsd).trans H4.out.2))); have z2 : w6.cell? ⟨wr.heap.size, 2, none⟩ = some (.int .i64 q2) := (bk_cell k6 2).trans rfl; have z3 : w6.cell? ⟨wr.heap.size, 3, none⟩ = some (.slice da dn dc) := (bk_cell k6 3).trans rfl; have z5 : w6.cell? ⟨wr.heap.size, 5, none⟩ = some (.bool q5) := (bk_cell k6 5).trans rfl; obtain ⟨ra6, rc6, er6⟩ := own_form o6; subst er6; clear h5l u2 u3 u5 y2 y3 y5))
                all_goals
                  have H6 : Hid _ := And.intro o6 (And.intro g6 k6)
                  clear o6 g6 k6
                  go_wp2_with fail
                  go_meet
                  refine ⟨⟨_, _, _, rfl⟩, by rw [if_neg (by rw [E.out.1]; decide)], ?_, ?_⟩
                  · obtain ⟨hP, hS, hK, hrk, e1, e2, ej, edn, hq, hSo, hKo, BW, eAn, eRn⟩ := HR.out
                    have bb : Below wr.heap.size wr (w5.alloc (.cells #[.int .i64 1, .int .i64 q2, .int .i64 0, .slice ra5 dn rc5, .bool q5] 34)) := (HW.out.2.1.trans (H5.out.2.mono HW.out.2.1.size)).alloc (by omega) _
                    have hP5 := hP.below bb
                    have hK5 := hK.below bb
                    rw [eAn]
                    refine pm_got hP5 hK5 e2 e1.1 e1.2.1 e1.2.2 E.out.1 eRn ?_ H6.out.1 (by rw [← eRn]; exact H6.out.2.1)
                    rw [← edn]
                    exact owns_mono (owns_below (by have t := H5.out.1; rw [← edn] at t; exact t) ((Below.refl _ _).alloc (Nat.le_refl _) _)) (by omega)
                  · exact H6.out.2.2
            case rest =>
            obtain ⟨⟨ar', Rn', cr', rfl⟩, hv13, P1, kb⟩ := hcut
            obtain ⟨kd, ekd⟩ : ∃ kd : Int, kd = if lo i = true then 6 else 5 := ⟨_, rfl⟩
            rw [← ekd] at hv13
            subst hv13
            obtain ⟨Us', zs', hS'⟩ := P1.so
            have hSo' : wc.ownsRow w2.heap.size 25 5 (.slice ao An co) An zs' := by have t := hS'.ow; rw [← HR.out.2.2.2.2.2.2.2.2.2.2.2.2.1] at t; exact t
            have y2 : wc.cell? ⟨wr.heap.size, 2, none⟩ = some (.int .i64 q2) := (bk_cell kb 2).trans rfl
            have y3 : wc.cell? ⟨wr.heap.size, 3, none⟩ = some (.slice da dn dc) := (bk_cell kb 3).trans rfl
            have y5 : wc.cell? ⟨wr.heap.size, 5, none⟩ = some (.bool q5) := (bk_cell kb 5).trans rfl
            have hsc : wr.heap.size < wc.heap.size := (Array.getElem?_eq_some_iff.1 kb).1
            have HC2 : Hid _ := And.intro P1 (And.intro hS' (And.intro hSo' ekd))
            clear P1 hS' hSo' ekd kb x2 x3 x5 HA H4 hs4
            go_wp2_with (at_builtin; refine wpList_append_opS rfl (.tmp 102) (.tmp 112) rfl w2.heap.size (.slice ao An co) An zs' rfl (owns_below HC2.out.2.2.1 ((Below.refl _ _).alloc (Nat.le_refl _) _)) wc.heap.size (.int .i64 kd) (.int .i64 q2) (.int .i64 (dn : Int)) (.slice none 0 0) (.bool q5) ⟨rfl, rfl, rfl, rfl, rfl⟩ rfl (heap_alloc_new wc _) (by omega) (by simp; omega) ?_; intro v6 w6 o6 g6; obtain ⟨ra6, rc6, er6⟩ := own_form o6; have H6 : Hid _ := And.intro o6 g6; clear o6 g6; subst er6)
            go_roundg (60 - (i + 1))
            case measure => (have := HR.out.2.2.2.2.2.2.2.2.1; omega)
            case rel =>
              obtain ⟨hP, hS, hK, hrk, e1, e2, ej, edn, hq, hSo, hKo, BW, eAn, eRn⟩ := HR.out
              have ba : Below wc.heap.size wc (wc.alloc (.cells #[.int .i64 kd, .int .i64 q2, .int .i64 (dn : Int), .slice none 0 0, .bool q5] 25)) := (Below.refl _ _).alloc (Nat.le_refl _) _
              exact ⟨i + 1, by omega, rfl, num_next i j ej, pm_told (HC2.out.1.below ba) (HC2.out.2.1.below ba) e2 e1.1 (by rw [e1.2.1, ← edn]) e1.2.2 HC2.out.2.2.2 eAn H6.out.1 H6.out.2⟩
        · obtain rfl : i = 60 := by omega
          have HR : Hid _ := And.intro hP (And.intro eAn (And.intro eRn BW))
          clear hP hS hK hSo hKo BW hq hi hlt eAn eRn
          obtain ⟨wB, ewB⟩ : ∃ x, x = wr := ⟨_, rfl⟩
          subst ewB
          have hs2B : w2.heap.size ≤ wB.heap.size := hsz2
          have hF0 : 63 ≤ An + 0 ∨ True := Or.inr trivial
          go_wp2_with fail
          go_loopg [6, 15] 60 (fun q ov iv wr => ∃ (j : Nat), j ≤ 60 ∧ q = 60 - j ∧ iv = .int .i64 (j : Int) ∧ PM w2 wr ov (.slice ar Rn cr) (.slice fa (3 + 60) fc) (pkC X sz lo j) (rvB X sz lo 60) (sobs (pkA X sz 60)))
          case atStart => exact ⟨0, by omega, by omega, rfl, by rw [pkC_zero, HR.out.2.1, HR.out.2.2.1]; exact HR.out.1⟩
          case round =>
            obtain ⟨j, hj, hq, rfl, hP⟩ := hrel
            obtain ⟨Us, zs, hS⟩ := hP.so
            obtain ⟨ao2, co2, ev⟩ := hS.brow.form
            subst ev
            obtain ⟨Cn, eCn⟩ : ∃ n, n = (pkC X sz lo j).length := ⟨_, rfl⟩
            have hCn : Cn ≤ 183 := by have h1 := pkC_len X sz lo j; have h2 := pkB_len X sz lo 60; omega
            rw [← eCn]
            have hSo : wr.ownsRow w2.heap.size 25 5 (.slice ao2 Cn co2) Cn zs := by rw [eCn]; exact hS.ow
            have BW : Below w.heap.size w wr := H2.out.2.trans (hP.bw.mono H2.out.2.size)
            have hsr : w2.heap.size ≤ wr.heap.size := hP.bw.size
            by_cases hlt : j < 60
            · have HP3 : Hid _ := And.intro hP (And.intro hS (And.intro hSo (And.intro eCn hq)))
              clear hP hS hSo eCn BW hq
              go_wp2_with (at_builtin; refine wpList_append_opS rfl (.tmp 120) (.tmp 122) rfl w2.heap.size (.slice ao2 Cn co2) Cn zs rfl (owns_below HP3.out.2.2.1 ((Below.refl _ _).alloc (Nat.le_refl _) _)) wr.heap.size (.int .i64 4) (.int .i64 0) (.int .i64 1500) (.slice none 0 0) (.bool false) ⟨rfl, rfl, rfl, rfl, rfl⟩ rfl (heap_alloc_new wr _) (by omega) (by simp; omega) ?_; intro v6 w6 o6 g6; obtain ⟨ra6, rc6, er6⟩ := own_form o6; have H6 : Hid _ := And.intro o6 g6; clear o6 g6; subst er6)
              go_roundg (60 - (j + 1))
              case measure => (have := HP3.out.2.2.2.2; omega)
              case rel =>
                have ba : Below wr.heap.size wr (wr.alloc (.cells #[.int .i64 4, .int .i64 0, .int .i64 1500, .slice none 0 0, .bool false] 25)) := (Below.refl _ _).alloc (Nat.le_refl _) _
                exact ⟨j + 1, by omega, rfl, by go_num, pm_pull (HP3.out.1.below ba) (HP3.out.2.1.below ba) HP3.out.2.2.2.1 H6.out.1 (by rw [← HP3.out.2.2.2.1]; exact H6.out.2)⟩
            · obtain rfl : j = 60 := by omega
              have hXl : X.length ≤ 65536 := by have := HS.out.2.1; omega
              have CS := sendP (pkC X sz lo 60) w2 wr _ Us zs w BW HH.out.2.2 hS (good_pkC X sz lo hXl (fun i => (HS.out.1 i).2) 60) (by omega)
              rw [← eCn] at CS
              obtain ⟨Ur, ys, hK⟩ := hP.ro
              have eFr : Cn = An + 60 := by rw [eCn, HR.out.2.1]; exact pkC_len X sz lo 60
              have HC : Hid _ := And.intro CS (And.intro hP (And.intro hS (And.intro hK (And.intro eFr eCn))))
              obtain ⟨wC, ewC⟩ : ∃ x, x = wr := ⟨_, rfl⟩
              subst ewC
              clear CS hP hS hK hSo BW hq hlt hj eCn eFr
              go_wp2_with (go_at_call 6; refine HC.out.1.mono ?_; rintro e w5 ⟨r, rfl, o5, b5⟩; obtain ⟨sa, sc, er⟩ := o5.row.form; rw [sobs_len, ← HC.out.2.2.2.2.2] at er; subst er; have hs5 : wC.heap.size ≤ w5.heap.size := b5.size; have H5 : Hid _ := And.intro o5 b5; clear o5 b5)
              have P0 : PM w2 w5 (.slice ao2 Cn co2) (.slice ar Rn cr) (.slice sa Cn sc) (pkD X sz lo 0) (rvC X sz lo 0) (sobs (pkC X sz lo 60)) := by
                have t1 := HC.out.2.2.1.below H5.out.2
                have t2 := HC.out.2.2.2.1.below H5.out.2
                rw [← HC.out.2.2.2.2.2] at t1
                exact ⟨⟨_, _, t1⟩, ⟨_, _, t2⟩, H5.out.1.mono hsr, HC.out.2.1.bw.trans (H5.out.2.mono hsr)⟩
              have HP4 : Hid _ := And.intro P0 (And.intro HC.out.2.2.2.2.1 HC.out.2.2.2.2.2)
              have EF : Cn ≤ 183 := hCn
              clear P0 HC H5
              go_loopg [6, 10, 17, 18] 60 (fun q ov rv iv bx wr => ∃ (i : Nat), i ≤ 60 ∧ q = 60 - i ∧ iv = .int .i64 ((An + i : Nat) : Int) ∧ PM w2 wr ov rv (.slice sa Cn sc) (pkD X sz lo i) (rvC X sz lo i) (sobs (pkC X sz lo 60)))
              case atStart => exact ⟨0, by omega, by omega, rfl, HP4.out.1⟩
              case round =>
                obtain ⟨i, hi, hq, rfl, hP⟩ := hrel
                obtain ⟨Us, zs, hS⟩ := hP.so
                obtain ⟨Ur, ys, hK⟩ := hP.ro
                obtain ⟨ao, co, ev⟩ := hS.brow.form
                subst ev
                obtain ⟨ar, cr, ev⟩ := hK.brow.form
                subst ev
                obtain ⟨Dn, eDn⟩ : ∃ n, n = (pkD X sz lo i).length := ⟨_, rfl⟩
                obtain ⟨Rm, eRm⟩ : ∃ n, n = (rvC X sz lo i).length := ⟨_, rfl⟩
                have hDn := pkD_len X sz lo i
                have hRm := rvC_len X sz lo i
                rw [← eDn] at hDn ⊢
                rw [← eRm] at hRm ⊢
                have hSo : wr.ownsRow w2.heap.size 25 5 (.slice ao Dn co) Dn zs := by rw [eDn]; exact hS.ow
                have hKo : wr.ownsRow w2.heap.size 34 5 (.slice ar Rm cr) Rm ys := by rw [eRm]; exact hK.ow
                have BW : Below w.heap.size w wr := H2.out.2.trans (hP.bw.mono H2.out.2.size)
                have hsz2 : w2.heap.size ≤ wr.heap.size := hP.bw.size
                have hlF : (sobs (pkC X sz lo 60)).length = Cn := by rw [sobs_len]; exact HP4.out.2.2.symm
                have hCA := HP4.out.2.1
                by_cases hlt : i < 60
                · obtain ⟨fb, foff, cap, ev, hbl, U0, hc, hr⟩ := hP.fo.row.at' (by rw [hlF]; omega)
                  simp only [Value.slice.injEq] at ev
                  obtain ⟨rfl, -, rfl⟩ := ev
                  obtain ⟨j, ej⟩ : ∃ j, j = An + i := ⟨_, rfl⟩
                  have hck := hc (An + i) (by rw [hlF]; omega)
                  have hrk := hr (An + i) (by rw [hlF]; omega)
                  have eo : (sobs (pkC X sz lo 60)).getD (An + i) default = obS X sz lo i := by rw [HR.out.2.1]; exact obS_is X sz lo i 60 hlt
                  have ho3 := sobs_f3 (pkC X sz lo 60) (An + i) (by rw [← sobs_len, hlF]; omega)
                  rw [eo] at hck hrk ho3
                  obtain ⟨uk, euk⟩ : ∃ u, u = U0 (An + i) := ⟨_, rfl⟩
                  rw [← euk] at hck hrk
                  obtain ⟨o, eob⟩ : ∃ o, o = obS X sz lo i := ⟨_, rfl⟩
                  rw [← eob] at hck hrk ho3
                  obtain ⟨da, dc, eu⟩ := hrk.form
                  have hrk' : Row wr .u8 uk o.f3 := hrk
                  obtain ⟨dn, edn⟩ : ∃ dn, dn = o.f3.length := ⟨_, rfl⟩
                  have eu' : uk = .slice da dn dc := by rw [edn]; exact eu
                  rw [← ej] at hck ⊢
                  obtain ⟨q0, q1, q2, q3, q4, q5, q6⟩ := o
                  dsimp only [SSendObs.c] at hck
                  dsimp only at hrk' edn ho3
                  rw [eu'] at hck hrk'
                  have cq0 : wr.cell? ⟨fb, foff + j * 7, none⟩ = some (.int .i64 q0) := hck 0 (by omega)
                  have cq1 : wr.cell? ⟨fb, foff + j * 7 + 1, none⟩ = some (.int .i64 q1) := hck 1 (by omega)
                  have cq2 : wr.cell? ⟨fb, foff + j * 7 + 2, none⟩ = some (.int .i64 q2) := hck 2 (by omega)
                  have cq3 : wr.cell? ⟨fb, foff + j * 7 + 3, none⟩ = some (.slice da dn dc) := hck 3 (by omega)
                  have cq4 : wr.cell? ⟨fb, foff + j * 7 + 4, none⟩ = some (.bool q4) := hck 4 (by omega)
                  have cq5 : wr.cell? ⟨fb, foff + j * 7 + 5, none⟩ = some (.bool q5) := hck 5 (by omega)
                  have cq6 : wr.cell? ⟨fb, foff + j * 7 + 6, none⟩ = some (.bool q6) := hck 6 (by omega)
                  have hj63 : j < Cn := by omega
                  have e1 : (obS X sz lo i).f2 = q2 ∧ (obS X sz lo i).f3 = q3 ∧ (obS X sz lo i).f5 = q5 := by rw [← eob]; exact ⟨rfl, rfl, rfl⟩
                  have e2 : (obS X sz lo i).f4 = q4 := by rw [← eob]
                  have HQ : Hid _ := And.intro hP (And.intro hS (And.intro hK (And.intro hrk' (And.intro e1 (And.intro e2 (And.intro ej (And.intro edn (And.intro hq (And.intro hSo (And.intro hKo (And.intro BW (And.intro eDn eRm))))))))))))
                  have hdn : dn ≤ 65536 := by rw [edn]; exact ho3
                  clear hP hS hK hrk hrk' e1 e2 edn hq hSo hKo BW hck hc hr eu eu' euk eob eo ho3 ej eDn eRm hlF hCA
                  cases q4
                  · go_wp2_with fail
                    go_roundg (60 - (i + 1))
                    case measure => (have := HQ.out.2.2.2.2.2.2.2.2.1; omega)
                    case rel =>
                      obtain ⟨hP, hS, hK, hrk, e1, e2, ej, edn, hq, hSo, hKo, BW, eDn, eRm⟩ := HQ.out
                      rw [eDn, eRm]
                      exact ⟨i + 1, by omega, rfl, num_next4 i j An ej, pm_no4 (hP.below ((Below.refl _ _).alloc (Nat.le_refl _) _)) e2⟩
                  · go_upto_region 36 with fail
                    obtain ⟨w4, ew4⟩ : ∃ x, x = wr.alloc (.cells #[.int .i64 q0, .int .i64 q1, .int .i64 q2, .slice da dn dc, .bool true, .bool q5, .bool q6] 33) := ⟨_, rfl⟩
                    have b4 : Below wr.heap.size wr w4 := by rw [ew4]; exact (Below.refl _ _).alloc (Nat.le_refl _) _
                    have kb : w4.heap[wr.heap.size]? = some (.cells #[.int .i64 q0, .int .i64 q1, .int .i64 q2, .slice da dn dc, .bool true, .bool q5, .bool q6] 33) := by rw [ew4]; exact heap_alloc_new wr _
                    rw [← ew4]
                    have hs4 : wr.heap.size < w4.heap.size := (Array.getElem?_eq_some_iff.1 kb).1
                    have H4 : Hid _ := And.intro b4 kb
                    clear b4 kb ew4
                    go_cut [10] from 139 to 172 (fun v10 wx => (∃ ar' Rn' cr', v10 = .slice ar' Rn' cr') ∧ PM w2 wx (.slice ao Dn co) v10 (.slice (some ⟨fb, foff, none⟩) Cn sc) (pkD X sz lo i) (rvC X sz lo (i + 1)) (sobs (pkC X sz lo 60)) ∧ wx.heap[wr.heap.size]? = some (.cells #[.int .i64 q0, .int .i64 q1, .int .i64 q2, .slice da dn dc, .bool true, .bool q5, .bool q6] 33))
                    case first =>
                      have bD : Below wr.heap.size wr w4.drew := below_drewN H4.out.1 1
                      have CP := copiedP (.slice da dn dc) q3 w4.drew (HQ.out.2.2.2.1.below bD) (by have := HQ.out.2.2.2.2.2.2.2.1; omega)
                      have x2d : w4.drew.cell? ⟨wr.heap.size, 2, none⟩ = some (.int .i64 q2) := (bk_cell H4.out.2 2).trans rfl
                      have x3d : w4.drew.cell? ⟨wr.heap.size, 3, none⟩ = some (.slice da dn dc) := (bk_cell H4.out.2 3).trans rfl
                      have x5d : w4.drew.cell? ⟨wr.heap.size, 5, none⟩ = some (.bool q5) := (bk_cell H4.out.2 5).trans rfl
                      have hKo4 : w4.drew.ownsRow w2.heap.size 34 5 (.slice ar Rm cr) Rm ys := owns_below HQ.out.2.2.2.2.2.2.2.2.2.2.1 bD
                      have hsd : wr.heap.size < w4.drew.heap.size := hs4
                      have HW : Hid _ := And.intro CP (And.intro bD hKo4)
                      clear CP bD hKo4
                      go_region_held3 (fun w' => w'.cell? ⟨wr.heap.size, 2, none⟩ = some (.int .i64 q2) ∧ w'.cell? ⟨wr.heap.size, 3, none⟩ = some (.slice da dn dc) ∧ w'.cell? ⟨wr.heap.size, 5, none⟩ = some (.bool q5)) (first | exact ⟨z2, z3, z5⟩ | exact ⟨u2, u3, u5⟩ | exact ⟨y2, y3, y5⟩ | exact ⟨x2d, x3d, x5d⟩ | go_keep)
                        (first
                        | (go_at_call 4; refine HW.out.1.mono ?_; rintro e w5 ⟨r5, rfl, o5, b5⟩; obtain ⟨ra5, rc5, er⟩ := own_form o5; rw [← HQ.out.2.2.2.2.2.2.2.1] at er; subst er; have y2 : w5.cell? ⟨wr.heap.size, 2, none⟩ = some (.int .i64 q2) := (b5.cell (p := ⟨wr.heap.size, 2, none⟩) hsd).trans x2d; have y3 : w5.cell? ⟨wr.heap.size, 3, none⟩ = some (.slice da dn dc) := (b5.cell (p := ⟨wr.heap.size, 3, none⟩) hsd).trans x3d; have y5 : w5.cell? ⟨wr.heap.size, 5, none⟩ = some (.bool q5) := (b5.cell (p := ⟨wr.heap.size, 5, none⟩) hsd).trans x5d; have h5s : w4.drew.heap.size ≤ w5.heap.size := b5.size; have h5l : wr.heap.size < w5.heap.size := Nat.lt_of_lt_of_le hsd h5s; have hba : Below w5.heap.size w5 (w5.alloc (.cells #[.int .i64 1, .int .i64 q2, .int .i64 0, .slice ra5 dn rc5, .bool q5] 34)) := (Below.refl _ _).alloc (Nat.le_refl _) _; have u2 := (hba.cell (p := ⟨wr.heap.size, 2, none⟩) h5l).trans y2; have u3 := (hba.cell (p := ⟨wr.heap.size, 3, none⟩) h5l).trans y3; have u5 := (hba.cell (p := ⟨wr.heap.size, 5, none⟩) h5l).trans y5; have H5 : Hid _ := And.intro o5 b5; clear o5 b5 hba)
                        | (refine step_append_op rfl (.tmp 151) (.tmp 160) rfl w2.heap.size (.slice ar Rm cr) Rm ys rfl (owns_below (owns_below HW.out.2.2 H5.out.2) ((Below.refl _ _).alloc (Nat.le_refl _) _)) w5.heap.size (.int .i64 1) (.int .i64 q2) (.int .i64 0) (.slice ra5 dn rc5) (.bool q5) ⟨rfl, rfl, rfl, rfl, rfl⟩ rfl (heap_alloc_new w5 _) ?_ ?_ ?_; omega; (simp; omega); intro v6 w6 o6 g6; have k6 : w6.heap[wr.heap.size]? = some (.cells #[.int .i64 q0, .int .i64 q1, .int .i64 q2, .slice da dn dc, .bool true, .bool q5, .bool q6] 33) := (box_keep (owns_below (owns_below HW.out.2.2 H5.out.2) ((Below.refl w5.heap.size w5).alloc (Nat.le_refl _) _)) g6 ((((Below.refl w5.heap.size w5).alloc (Nat.le_refl _) _).block _ h5l).trans ((H5.out.2.block _ hsd).trans H4.out.2))); have z2 : w6.cell? ⟨wr.heap.size, 2, none⟩ = some (.int .i64 q2) := (bk_cell k6 2).trans rfl; have z3 : w6.cell? ⟨wr.heap.size, 3, none⟩ = some (.slice da dn dc) := (bk_cell k6 3).trans rfl; have z5 : w6.cell? ⟨wr.heap.size, 5, none⟩ = some (.bool q5) := (bk_cell k6 5).trans rfl; obtain ⟨ra6, rc6, er6⟩ := own_form o6; subst er6; clear h5l u2 u3 u5 y2 y3 y5))
                      all_goals
                        have H6 : Hid _ := And.intro o6 (And.intro g6 k6)
                        clear o6 g6 k6
                        go_wp2_with fail
                        go_meet
                        refine ⟨⟨_, _, _, rfl⟩, ?_, H6.out.2.2⟩
                        obtain ⟨hP, hS, hK, hrk, e1, e2, ej, edn, hq, hSo, hKo, BW, eDn, eRm⟩ := HQ.out
                        have bb : Below wr.heap.size wr (w5.alloc (.cells #[.int .i64 1, .int .i64 q2, .int .i64 0, .slice ra5 dn rc5, .bool q5] 34)) := (HW.out.2.1.trans (H5.out.2.mono HW.out.2.1.size)).alloc (by omega) _
                        have hP5 := hP.below bb
                        have hK5 := hK.below bb
                        rw [eDn]
                        refine pm_got4 hP5 hK5 e2 e1.1 e1.2.1 e1.2.2 eRm ?_ H6.out.1 (by rw [← eRm]; exact H6.out.2.1)
                        rw [← edn]
                        exact owns_mono (owns_below (by have t := H5.out.1; rw [← edn] at t; exact t) ((Below.refl _ _).alloc (Nat.le_refl _) _)) (by omega)
                    case rest =>
                    obtain ⟨⟨ar', Rn', cr', rfl⟩, P1, kb⟩ := hcut
                    obtain ⟨Us', zs', hS'⟩ := P1.so
                    have hSo' : wc.ownsRow w2.heap.size 25 5 (.slice ao Dn co) Dn zs' := by have t := hS'.ow; rw [← HQ.out.2.2.2.2.2.2.2.2.2.2.2.2.1] at t; exact t
                    have y2 : wc.cell? ⟨wr.heap.size, 2, none⟩ = some (.int .i64 q2) := (bk_cell kb 2).trans rfl
                    have y3 : wc.cell? ⟨wr.heap.size, 3, none⟩ = some (.slice da dn dc) := (bk_cell kb 3).trans rfl
                    have y5 : wc.cell? ⟨wr.heap.size, 5, none⟩ = some (.bool q5) := (bk_cell kb 5).trans rfl
                    have hsc : wr.heap.size < wc.heap.size := (Array.getElem?_eq_some_iff.1 kb).1
                    have HC2 : Hid _ := And.intro P1 (And.intro hS' hSo')
                    clear P1 hS' hSo' kb H4 hs4
                    go_wp2_with (at_builtin; refine wpList_append_opS rfl (.tmp 162) (.tmp 171) rfl w2.heap.size (.slice ao Dn co) Dn zs' rfl (owns_below HC2.out.2.2 ((Below.refl _ _).alloc (Nat.le_refl _) _)) wc.heap.size (.int .i64 5) (.int .i64 q2) (.int .i64 (dn : Int)) (.slice none 0 0) (.bool q5) ⟨rfl, rfl, rfl, rfl, rfl⟩ rfl (heap_alloc_new wc _) (by omega) (by simp; omega) ?_; intro v6 w6 o6 g6; obtain ⟨ra6, rc6, er6⟩ := own_form o6; have H6 : Hid _ := And.intro o6 g6; clear o6 g6; subst er6)
                    go_roundg (60 - (i + 1))
                    case measure => (have := HQ.out.2.2.2.2.2.2.2.2.1; omega)
                    case rel =>
                      obtain ⟨hP, hS, hK, hrk, e1, e2, ej, edn, hq, hSo, hKo, BW, eDn, eRm⟩ := HQ.out
                      have ba : Below wc.heap.size wc (wc.alloc (.cells #[.int .i64 5, .int .i64 q2, .int .i64 (dn : Int), .slice none 0 0, .bool q5] 25)) := (Below.refl _ _).alloc (Nat.le_refl _) _
                      exact ⟨i + 1, by omega, rfl, num_next4 i j An ej, pm_told4 (HC2.out.1.below ba) (HC2.out.2.1.below ba) e2 e1.1 (by rw [e1.2.1, ← edn]) e1.2.2 eDn H6.out.1 H6.out.2⟩
                · have hXl := HS.out.2.1
                  have hi60 : i = 60 := by omega
                  obtain ⟨jj, ejj⟩ : ∃ jj, jj = An + i := ⟨_, rfl⟩
                  have hend : ¬ (jj : Int) < (Cn : Int) := by have := HP4.out.2.1; omega
                  rw [← ejj]
                  clear ejj
                  obtain ⟨AD, eAD⟩ : ∃ l, l = pkD X sz lo i := ⟨_, rfl⟩
                  obtain ⟨RC, eRC⟩ : ∃ l, l = rvC X sz lo i := ⟨_, rfl⟩
                  have hgood : GoodS AD := by rw [eAD]; exact good_pkD X sz lo (by omega) (fun i => (HS.out.1 i).2) i (by omega)
                  have hpg : ValR X RC ∧ FinIn X RC ∧ ∀ q, q < X.length → Cov X RC q := by rw [eRC, hi60]; exact pipe_got X sz lo (by omega) (by omega) HS.out.1
                  have hdn : (sfin AD).st = 3 := by rw [eAD, hi60]; exact pipe_done X sz lo (by omega) (by omega) HS.out.1
                  have hpos : 0 < AD.length := by rw [eAD]; exact pkD_pos X sz lo i
                  rw [← eAD] at hP hS eDn
                  rw [← eRC] at hP hK eRm
                  clear eAD eRC
                  have hlast := recv_all 16384 (by decide) X RC 4611686018427387903 (by omega) (by omega) (by omega) hpg.1 hpg.2.1 hpg.2.2
                  obtain ⟨dm, edm⟩ : ∃ dm, Dn = dm + 1 := ⟨Dn - 1, by omega⟩
                  subst edm
                  have hst3 := sobs_last AD hpos
                  rw [hdn, ← eDn, Nat.add_sub_cancel] at hst3
                  have CS := sendP AD w2 wr _ Us zs w BW HH.out.2.2 hS hgood (by omega)
                  rw [← eDn] at CS
                  rw [← eRm] at hlast
                  have HZ : Hid _ := And.intro CS (And.intro hP (And.intro hK (And.intro hKo (And.intro BW (And.intro eDn (And.intro eRm (And.intro hlast (And.intro hst3 hpg.1))))))))
                  obtain ⟨wD, ewD⟩ : ∃ x, x = wr := ⟨_, rfl⟩
                  subst ewD
                  clear CS hP hK hKo BW eDn eRm hlast hst3 hpg hdn hS hSo hlF hCA hq hi60 hlt hgood hpos HP4 HR
                  go_wp2_with fail
                  go_at_call 6
                  refine HZ.out.1.mono ?_
                  rintro e w5 ⟨r, rfl, o5, b5⟩
                  obtain ⟨ta, tc, er⟩ := o5.row.form
                  rw [sobs_len, ← HZ.out.2.2.2.2.2.1] at er
                  subst er
                  have hs5 : wD.heap.size ≤ w5.heap.size := b5.size
                  have H5 : Hid _ := And.intro o5 b5
                  clear o5 b5
                  go_upto_region 40 with (at_builtin; refine wpList_append_op rfl (.tmp 178) (.tmp 180) rfl w2.heap.size (.slice ar Rm cr) Rm ys rfl (owns_below (owns_below HZ.out.2.2.2.1 H5.out.2) ((Below.refl _ _).alloc (Nat.le_refl _) _)) w5.heap.size (.int .i64 3) (.int .i64 0) (.int .i64 4611686018427387903) (.slice none 0 0) (.bool false) ⟨rfl, rfl, rfl, rfl, rfl⟩ rfl (heap_alloc_new w5 _) (by omega) (by simp; omega) ?_; intro v6 w6 o6 g6; obtain ⟨ra6, rc6, er6⟩ := own_form o6; have H6o : Hid _ := And.intro o6 g6; clear o6 g6; subst er6)
                  have H6 := pm_end HZ.out.2.1 HZ.out.2.2.1 HZ.out.2.2.2.1 HZ.out.2.2.2.2.2.2.1 H5.out.1 H5.out.2 H6o.out.1 H6o.out.2
                  obtain ⟨U6, ys6, hK6, hT6, hB6⟩ := H6
                  have CR := recvP X RC w2 w6 _ U6 ys6 w (H2.out.2.trans (hB6.mono H2.out.2.size)) HH.out.2.2 (by omega) HZ.out.2.2.2.2.2.2.2.2.2 hK6 (by rw [← HZ.out.2.2.2.2.2.2.1]; omega)
                  have HB : Hid _ := And.intro CR (And.intro hT6 hB6)
                  clear CR hT6 hB6 hK6
                  go_upto_region 41 with (go_at_call 7; refine HB.out.1.mono ?_; rintro e w7 ⟨r7, rfl, o7, b7⟩; obtain ⟨ga, gc, er7⟩ := o7.row.form; rw [mrun_length, List.length_append, List.length_singleton, ← HZ.out.2.2.2.2.2.2.1] at er7; subst er7; have H7 : Hid _ := And.intro o7 b7; clear o7 b7)
                  obtain ⟨hl4, hl3⟩ := HZ.out.2.2.2.2.2.2.2.1
                  have hst3 := HZ.out.2.2.2.2.2.2.2.2.1
                  have hgl : (mrun 16384 (RC ++ [rdO 4611686018427387903]) (RC ++ [rdO 4611686018427387903]).length).2.length = Rm + 1 := by rw [mrun_length, List.length_append, List.length_singleton, ← HZ.out.2.2.2.2.2.2.1]
                  obtain ⟨gb, goff, gcap, ev, hgbl, G0, hgc, hgr⟩ := H7.out.1.row.at' (by rw [hgl]; omega)
                  simp only [Value.slice.injEq] at ev
                  obtain ⟨rfl, -, rfl⟩ := ev
                  have hgk := hgc Rm (by rw [hgl]; omega)
                  have hgrk := hgr Rm (by rw [hgl]; omega)
                  obtain ⟨lo5, elo5⟩ : ∃ o, o = (mrun 16384 (RC ++ [rdO 4611686018427387903]) (RC ++ [rdO 4611686018427387903]).length).2.getD Rm default := ⟨_, rfl⟩
                  rw [← elo5] at hgk hgrk hl4 hl3
                  obtain ⟨p0, p1, p2, p3, p4⟩ := lo5
                  dsimp only [SRecvObs.c] at hgk
                  dsimp only at hl4 hl3 hgrk
                  subst hl4
                  subst hl3
                  obtain ⟨la, lc, elu⟩ := hgrk.form
                  rw [elu] at hgk hgrk
                  have g0 : w7.cell? ⟨gb, goff + Rm * 5, none⟩ = some (.int .i64 p0) := hgk 0 (by omega)
                  have g1 : w7.cell? ⟨gb, goff + Rm * 5 + 1, none⟩ = some (.int .i64 p1) := hgk 1 (by omega)
                  have g2 : w7.cell? ⟨gb, goff + Rm * 5 + 2, none⟩ = some (.int .i64 p2) := hgk 2 (by omega)
                  have g3 : w7.cell? ⟨gb, goff + Rm * 5 + 3, none⟩ = some (.slice la p3.length lc) := hgk 3 (by omega)
                  have g4 : w7.cell? ⟨gb, goff + Rm * 5 + 4, none⟩ = some (.bool true) := hgk 4 (by omega)
                  have hT7 := HB.out.2.1.below H7.out.2
                  obtain ⟨tb, toff, tcap, ev, htbl, T0, htc, htr⟩ := hT7.row.at' (by rw [sobs_len, ← HZ.out.2.2.2.2.2.1]; omega)
                  simp only [Value.slice.injEq] at ev
                  obtain ⟨rfl, -, rfl⟩ := ev
                  have ht1 : w7.cell? ⟨tb, toff + dm * 7 + 1, none⟩ = some (.int .i64 3) := by
                    have t := htc dm (by rw [sobs_len, ← HZ.out.2.2.2.2.2.1]; omega) 1 (by decide)
                    rw [Nat.add_assoc, t]
                    show some (Value.int .i64 _) = _
                    rw [hst3]
                    rfl
                  have B7 : Below w2.heap.size w2 w7 := HB.out.2.2.trans (H7.out.2.mono HB.out.2.2.size)
                  have rowT := H2.out.1.below B7
                  have BF : Below w.heap.size w w7 := H2.out.2.trans (B7.mono H2.out.2.size)
                  have hba : Below w7.heap.size w7 (w7.alloc (.cells #[.int .i64 p0, .int .i64 p1, .int .i64 p2, .slice la p3.length lc, .bool true] 39)) := (Below.refl _ _).alloc (Nat.le_refl _) _
                  have CM := sameP _ _ p3 _ (hgrk.below hba) (rowT.below hba)
                  have ht1a := (hba.cell (p := ⟨tb, toff + dm * 7 + 1, none⟩) htbl).trans ht1
                  obtain ⟨pl, epl⟩ : ∃ n, n = p3.length := ⟨_, rfl⟩
                  have HE : Hid _ := And.intro CM (BF.trans (hba.mono BF.size))
                  rw [← epl] at g3 HE
                  clear CM rowT B7 BF hT7 hgc hgr hgk hgrk htc htr H7 hst3 hgl elo5 epl elu HZ HB H6o H5 H2 hba
                  go_wp2_with (go_at_call 8; refine HE.out.1.mono ?_; rintro e w8 ⟨rfl, hw8⟩; subst w8)
                  go_ret
                  exact ⟨rfl, HE.out.2⟩
end Go.Proofs.YthbggabgklnhgaaDoor
