import Derived.Test.YteggfkekgdlecaaGreatDoorEqBytes
import Derived.Test.YteggfkekgdlecaaGreatDoorMarkBytes
import Derived.Test.YteggfkekgdlecaaGreatDoorToBytes
import Derived.Test.YteggfkekgdlecaaGreatDoorKeys
import Derived.Test.YteggfkekgdlecaaGreatDoorBook
import Derived.Test.YteggfkekgdlecaaGreatDoorParP
import Derived.Test.YteggfkekgdlecaaGreatDoorEqPar
import Derived.Test.YteggfkekgdlecaaGreatDoorMarkPar
import Derived.Test.YteggfkekgdlecaaGreatDoorSzPar
import Derived.Test.YteggfkekgdlecaaGreatDoorToPar
import Derived.Deep.RegionWith
import Derived.Deep.CutRange
import Derived.Test.YteggfkekgdlecaaGreatDoorChecked
import Derived.WalkKit
import Derived.ProofKit
import Derived.Test.YteggfkekgdlecaaGreatDoorDigits
import Derived.Test.YteggfkekgdlecaaGreatDoorAppRow
import Derived.Maps.AppendAt
import Derived.Test.YteggfkekgdlecaaGreatDoorMem
import Derived.Laws.Tables
import Derived.Test.YteggfkekgdlecaaGreatDoorBlocks
import Derived.Laws.Rows
import Derived.Laws.EntriesVeiled
import Derived.Test.YteggfkekgdlecaaGreatDoorPokS
namespace Go.Proofs.YteggfkekgdlecaaGreatDoor
open Go.RowKit
set_option linter.unusedVariables false

end Go.Proofs.YteggfkekgdlecaaGreatDoor

namespace Go.Proofs.YteggfkekgdlecaaGreatDoor
open Go.RowKit
set_option linter.unusedVariables false

/-- The table of the four lengths, as the world holds it. -/
structure Tab (w : World) : Prop where
  c0 : w.cell? ⟨0, 0, none⟩ = some (.int .i64 1)
  c1 : w.cell? ⟨0, 1, none⟩ = some (.int .i64 2)
  c2 : w.cell? ⟨0, 2, none⟩ = some (.int .i64 4)
  c3 : w.cell? ⟨0, 3, none⟩ = some (.int .i64 8)

def vlen (k : Int) : Int := if k = 0 then 1 else if k = 1 then 2 else if k = 2 then 4 else 8
def vmost (k : Int) : Int := if k = 0 then 63 else if k = 1 then 16383 else if k = 2 then 1073741823 else 4611686018427387903

theorem length_0 (w : World) (h : w.cell? ⟨0, 0, none⟩ = some (.int .i64 1)) :
    Calls Tryz.prog 93 #[.int .i64 0] w fun e w' => e = .returned (.int .i64 1) ∧ w' = w := by
  go_enter Tryz.func93, Tryz.ntmps93
  go_wp2
  go_ret
  exact ⟨rfl, rfl⟩
theorem length_1 (w : World) (h : w.cell? ⟨0, 1, none⟩ = some (.int .i64 2)) :
    Calls Tryz.prog 93 #[.int .i64 1] w fun e w' => e = .returned (.int .i64 2) ∧ w' = w := by
  go_enter Tryz.func93, Tryz.ntmps93
  go_wp2
  go_ret
  exact ⟨rfl, rfl⟩
theorem length_2 (w : World) (h : w.cell? ⟨0, 2, none⟩ = some (.int .i64 4)) :
    Calls Tryz.prog 93 #[.int .i64 2] w fun e w' => e = .returned (.int .i64 4) ∧ w' = w := by
  go_enter Tryz.func93, Tryz.ntmps93
  go_wp2
  go_ret
  exact ⟨rfl, rfl⟩
theorem length_3 (w : World) (h : w.cell? ⟨0, 3, none⟩ = some (.int .i64 8)) :
    Calls Tryz.prog 93 #[.int .i64 3] w fun e w' => e = .returned (.int .i64 8) ∧ w' = w := by
  go_enter Tryz.func93, Tryz.ntmps93
  go_wp2
  go_ret
  exact ⟨rfl, rfl⟩

theorem forms (k : Int) (h0 : 0 ≤ k) (h4 : k < 4) : k = 0 ∨ k = 1 ∨ k = 2 ∨ k = 3 := by omega

theorem length_any (k : Int) (h0 : 0 ≤ k) (h4 : k < 4) (w : World) (h : Tab w) :
    Calls Tryz.prog 93 #[.int .i64 k] w fun e w' => e = .returned (.int .i64 (vlen k)) ∧ w' = w := by
  rcases forms k h0 h4 with rfl | rfl | rfl | rfl
  · exact length_0 w h.c0
  · exact length_1 w h.c1
  · exact length_2 w h.c2
  · exact length_3 w h.c3

theorem greatest_any (k : Int) (h0 : 0 ≤ k) (h4 : k < 4) (w : World) (h : Tab w) :
    Calls Tryz.prog 109 #[.int .i64 k] w fun e w' => e = .returned (.int .i64 (vmost k)) ∧ w' = w := by
  have h1 := h.c0
  have h2 := h.c1
  have h3 := h.c2
  have h5 := h.c3
  clear h
  rcases forms k h0 h4 with rfl | rfl | rfl | rfl
  all_goals
    clear h0 h4
    go_enter Tryz.func109, Tryz.ntmps109
    go_wp2
    go_ret
    exact ⟨rfl, rfl⟩

theorem Tab.below {w w' : World} {B : Nat} (h : Tab w) (hb : Below B w w') (h0 : 0 < B) : Tab w' :=
  ⟨(hb.cell h0).trans h.c0, (hb.cell h0).trans h.c1, (hb.cell h0).trans h.c2, (hb.cell h0).trans h.c3⟩
theorem Tab.lt {w : World} (h : Tab w) : 0 < w.heap.size := by
  have := h.c0
  refine Nat.lt_of_not_le (fun hn => ?_)
  have e : w.heap[0]? = none := Array.getElem?_eq_none (by omega)
  simp [World.cell?, e] at this
end Go.Proofs.YteggfkekgdlecaaGreatDoor

namespace Go.Proofs.YteggfkekgdlecaaGreatDoor
open Go.RowKit
set_option linter.unusedVariables false

def vform (v : Int) : Int := if v ≤ 63 then 0 else if v ≤ 16383 then 1 else if v ≤ 1073741823 then 2 else 3

theorem vform_bd (v : Int) : 0 ≤ vform v ∧ vform v < 4 := by unfold vform; split <;> (try split) <;> (try split) <;> omega

theorem vmost_mono (a b : Int) (h : a ≤ b) (h0 : 0 ≤ a) (h1 : b < 4) : vmost a ≤ vmost b := by
  rcases forms a h0 (by omega) with rfl | rfl | rfl | rfl <;> rcases forms b (by omega) h1 with rfl | rfl | rfl | rfl <;> first | (unfold vmost; simp; done) | omega

theorem vform_eq (v k : Int) (h0 : 0 ≤ k) (h4 : k < 4) (hle : v ≤ vmost k) (hlo : ∀ j : Int, 0 ≤ j → j < k → vmost j < v) : vform v = k := by
  rcases forms k h0 h4 with rfl | rfl | rfl | rfl
  · simp only [vmost] at hle; simp at hle; unfold vform; rw [if_pos hle]
  · have := hlo 0 (by omega) (by omega)
    simp [vmost] at this hle; unfold vform; rw [if_neg (by omega), if_pos hle]
  · have := hlo 1 (by omega) (by omega)
    simp [vmost] at this hle; unfold vform; rw [if_neg (by omega), if_neg (by omega), if_pos hle]
  · have := hlo 2 (by omega) (by omega)
    simp [vmost] at this hle; unfold vform; rw [if_neg (by omega), if_neg (by omega), if_neg (by omega)]

theorem short_neg (v : Int) (hv : v < 0) (w : World) :
    Calls Tryz.prog 92 #[.int .i64 v] w fun e w' => e = .returned (.tuple #[.int .i64 0, .bool false]) ∧ w' = w := by
  go_enter Tryz.func92, Tryz.ntmps92
  go_wp2
  go_ret2
  exact ⟨rfl, rfl⟩

/-- What it answers: the form, and whether there is one. -/
def sform (v : Int) : Int := if v ≤ 4611686018427387903 then vform v else 0
def sok (v : Int) : Bool := decide (v ≤ 4611686018427387903)

theorem sform_at (v k : Int) (h0 : 0 ≤ k) (h4 : k < 4) (hle : v ≤ vmost k) (hlo : ∀ j : Int, 0 ≤ j → j < k → vmost j < v) : sform v = k ∧ sok v = true := by
  have h3 : v ≤ 4611686018427387903 := by
    have := vmost_mono k 3 (by omega) h0 (by omega)
    have e : vmost 3 = 4611686018427387903 := rfl
    omega
  unfold sform sok
  rw [if_pos h3, vform_eq v k h0 h4 hle hlo]
  exact ⟨rfl, by simpa using h3⟩
theorem sform_none (v : Int) (hlo : ∀ j : Int, 0 ≤ j → j < 4 → vmost j < v) : sform v = 0 ∧ sok v = false := by
  have h3 := hlo 3 (by omega) (by omega)
  have e : vmost 3 = 4611686018427387903 := rfl
  unfold sform sok
  rw [if_neg (by omega)]
  exact ⟨rfl, by simp; omega⟩

set_option maxHeartbeats 400000 in
theorem short_any (v : Int) (hv : 0 ≤ v) (w : World) (ht : Tab w) :
    Calls Tryz.prog 92 #[.int .i64 v] w fun e w' => e = .returned (.tuple #[.int .i64 (sform v), .bool (sok v)]) ∧ w' = w := by
  go_enter Tryz.func92, Tryz.ntmps92
  go_wp2
  go_loop [7] (fun t => ∃ k : Nat, k ≤ 4 ∧ t = .int .i64 k ∧ ∀ j : Int, 0 ≤ j → j < k → vmost j < v) (fun t => 4 - (intOf t).toNat)
  case atStart => exact ⟨0, by omega, rfl, fun j h1 h2 => by omega⟩
  case round =>
    obtain ⟨k, hk, rfl, hlo⟩ := hrel
    have HL : Hid (∀ j : Int, 0 ≤ j → j < k → vmost j < v) := hlo
    clear hlo
    by_cases hlt : k < 4
    · by_cases hle : v ≤ vmost k
      · go_wp2_with (go_at_call 109; refine (greatest_any _ (by omega) (by omega) _ ht).mono ?_; rintro e w' ⟨rfl, rfl⟩)
        go_ret2
        have := sform_at v k (by omega) (by omega) hle HL.out
        rw [this.1, this.2]
        exact ⟨rfl, rfl⟩
      · go_wp2_with (go_at_call 109; refine (greatest_any _ (by omega) (by omega) _ ht).mono ?_; rintro e w' ⟨rfl, rfl⟩)
        go_round
        case rel =>
          refine ⟨k + 1, by omega, by go_num, fun j h1 h2 => ?_⟩
          by_cases hj : j < k
          · exact HL.out j h1 hj
          · obtain rfl : j = k := by omega
            omega
        case measure => simp [intOf]; omega
    · go_wp2
      go_ret2
      have := sform_none v (fun j h1 h2 => HL.out j h1 (by omega))
      rw [this.1, this.2]
      exact ⟨rfl, rfl⟩

/-- The length of the shortest form; 0 where there is none. -/
def vsize (v : Int) : Int := if v < 0 then 0 else if v ≤ 63 then 1 else if v ≤ 16383 then 2 else if v ≤ 1073741823 then 4 else if v ≤ 4611686018427387903 then 8 else 0

theorem vsize_form (v : Int) (h0 : 0 ≤ v) (h1 : v ≤ 4611686018427387903) : vlen (sform v) = vsize v ∧ sok v = true := by
  unfold sform sok vsize
  rw [if_pos h1, if_neg (by omega)]
  refine ⟨?_, by simpa using h1⟩
  unfold vform
  by_cases a : v ≤ 63
  · simp [a, vlen]
  · by_cases b : v ≤ 16383
    · simp [a, b, vlen]
    · by_cases c : v ≤ 1073741823
      · simp [a, b, c, vlen]
      · simp [a, b, c, h1, vlen]

theorem specVarLen (v : Int) (w : World) :
    Calls Tryz.prog 89 #[.int .i64 v] w fun e w' => e = .returned (.int .i64 (vsize v)) ∧ w' = w := by
  have HV : Hid (vsize v = if v < 0 then 0 else if v ≤ 63 then 1 else if v ≤ 16383 then 2 else if v ≤ 1073741823 then 4 else if v ≤ 4611686018427387903 then 8 else 0) := rfl
  by_cases h0 : v < 0
  · go_enter Tryz.func89, Tryz.ntmps89
    go_wp2
    go_ret
    rw [HV.out, if_pos (by omega)]; exact ⟨rfl, rfl⟩
  · by_cases h4 : v ≤ 4611686018427387903
    · by_cases h1 : v ≤ 63
      · go_enter Tryz.func89, Tryz.ntmps89
        go_wp2
        go_ret
        rw [HV.out, if_neg (by omega), if_pos (by omega)]; exact ⟨rfl, rfl⟩
      · by_cases h2 : v ≤ 16383
        · go_enter Tryz.func89, Tryz.ntmps89
          go_wp2
          go_ret
          rw [HV.out, if_neg (by omega), if_neg (by omega), if_pos (by omega)]; exact ⟨rfl, rfl⟩
        · by_cases h3 : v ≤ 1073741823
          · go_enter Tryz.func89, Tryz.ntmps89
            go_wp2
            go_ret
            rw [HV.out, if_neg (by omega), if_neg (by omega), if_neg (by omega), if_pos (by omega)]; exact ⟨rfl, rfl⟩
          · go_enter Tryz.func89, Tryz.ntmps89
            go_wp2
            go_ret
            rw [HV.out, if_neg (by omega), if_neg (by omega), if_neg (by omega), if_neg (by omega), if_pos (by omega)]; exact ⟨rfl, rfl⟩
    · go_enter Tryz.func89, Tryz.ntmps89
      go_wp2
      go_ret
      rw [HV.out, if_neg (by omega), if_neg (by omega), if_neg (by omega), if_neg (by omega), if_neg (by omega)]; exact ⟨rfl, rfl⟩
end Go.Proofs.YteggfkekgdlecaaGreatDoor

namespace Go.Proofs.YteggfkekgdlecaaGreatDoor
open Go.RowKit
set_option linter.unusedVariables false

theorem be_at (v : Int) (n i : Nat) (h : i < n) : (be v n).getD i 0 = v / 256 ^ (n - 1 - i) % 256 := by
  induction n generalizing v with
  | zero => omega
  | succ n ih =>
    unfold be
    by_cases hi : i < n
    · have e := ih (v / 256) hi
      have hl : i < (be (v / 256) n).length := by rw [be_length]; exact hi
      simp only [List.getD, List.getElem?_append_left hl] at e ⊢
      rw [e, Int.ediv_ediv_of_nonneg (by omega)]
      congr 2
      have : n + 1 - 1 - i = (n - 1 - i) + 1 := by omega
      rw [this, Int.pow_succ, Int.mul_comm]
    · obtain rfl : i = n := by omega
      simp [List.getD, be_length]

theorem pow256 (v : Int) (m : Nat) : v / 256 ^ m % 256 = v / 2 ^ (8 * m) % 256 := by
  rw [Int.pow_mul]; rfl

set_option maxHeartbeats 400000 in
theorem high (v : Int) (n : Nat) (w : World) (h0 : 0 ≤ v) (h1 : v ≤ 9223372036854775807) (hn : n ≤ 8) :
    Calls Tryz.prog 74 #[.int .u64 v, .int .i64 n] w fun e w' => ∃ r, e = .returned r ∧ w'.ownsRow w.heap.size 5 1 r n ((be v n).map (Value.int .u8)) ∧ Below w.heap.size w w' := by
  obtain ⟨i0, hi, hz0, hz1, hz2⟩ := info_parts infoU8
  go_enter Tryz.func74, Tryz.ntmps74
  go_wp2_with (at_make; refine wpList_make_full _ rfl _ _ 22 rfl w.heap.size 5 i0 (.int .u8 0) 1 Tryz.underlying22 hi hz0 hz1 .i64 .i64 (n : Int) (n : Int) n rfl rfl rfl rfl (by rw [hz2]; omega) (by unfold maxLen; omega) (Nat.le_refl _) ?_; intro w1 hown hg)
  go_loopw [10] (fun i wr => ∃ k : Nat, k ≤ n ∧ i = .int .i64 k ∧ ∃ zs : List Int, zs.length = n ∧ (∀ j, j < k → zs.getD j 0 = (be v n).getD j 0) ∧
      wr.ownsRow w.heap.size 5 1 (.slice (some ⟨w.heap.size, 0, none⟩) n n) n (zs.map (Value.int .u8)) ∧ Below w.heap.size w wr) (fun i _ => n - (intOf i).toNat)
  case atStart =>
    exact ⟨0, Nat.zero_le _, rfl, List.replicate n 0, by simp, fun j h => by omega, made_zero hown, (Below.refl _ _).grown hg (Nat.le_refl _) (by intro k hk; cases hk)⟩
  case round =>
    obtain ⟨k, hk, rfl, zs, hl, hm, hown', hb⟩ := hrel
    by_cases hlt : k < n
    · have R := fill_step (x := v / 2 ^ (8 * (n - 1 - k)) % 256) (f := fun j => (be v n).getD j 0) (by rw [be_at v n k hlt, pow256]) hl hlt hm hown' hb (Nat.le_refl _)
      have f1 := hown'.frozenAt k
      have c1 := owns_cell hown' hl hlt
      generalize zs.getD k 0 = u at c1
      clear hl hm hown' hb hown hg
      obtain ⟨ys, R⟩ := R
      have HR : Hid _ := R
      clear R
      go_wp2
      go_roundw
      case rel =>
        obtain ⟨r1, r2, r3, r4⟩ := HR.out
        exact ⟨k + 1, by omega, by go_num, ys, r1, r2, r3, r4⟩
      case measure => simp [intOf]; omega
    · have HR : Hid _ := And.intro hl (And.intro hm (And.intro hown' hb))
      clear hl hm hown' hb hown hg
      go_wp2
      go_ret
      obtain rfl : k = n := by omega
      obtain ⟨r1, r2, r3, r4⟩ := HR.out
      obtain rfl : zs = be v k := list_eq_of_getD r1 (be_length v k) r2
      exact ⟨_, rfl, r3, r4⟩
end Go.Proofs.YteggfkekgdlecaaGreatDoor

namespace Go.Proofs.YteggfkekgdlecaaGreatDoor
open Go.RowKit
set_option linter.unusedVariables false

theorem or_fin : ∀ x : Fin 64, bits .or .u8 (x.val : Int) 0 = (x.val : Int) ∧ bits .or .u8 (x.val : Int) 64 = (x.val : Int) + 64 ∧ bits .or .u8 (x.val : Int) 128 = (x.val : Int) + 128 ∧ bits .or .u8 (x.val : Int) 192 = (x.val : Int) + 192 := by decide +kernel
theorem or_add (x c : Int) (h0 : 0 ≤ x) (h1 : x < 64) (hc : c = 0 ∨ c = 64 ∨ c = 128 ∨ c = 192) : bits .or .u8 x c = x + c := by
  have := or_fin ⟨x.toNat, by omega⟩
  have e : ((x.toNat : Nat) : Int) = x := by omega
  simp only [e] at this
  obtain ⟨a, b, d, f⟩ := this
  rcases hc with rfl | rfl | rfl | rfl
  · rw [a]; simp
  · exact b
  · exact d
  · exact f

/-- The shortest form of v, byte for byte. -/
def putv (v : Int) : List Int := (be v (vsize v).toNat).set 0 ((be v (vsize v).toNat).getD 0 0 + 64 * sform v)

/-- What the last store does. -/
theorem put_store {w w1 : World} {v c x : Int} {n g cap : Nat} (hn : 0 < n) (hx : x = (be v n).getD 0 0) (hown : w1.ownsRow w.heap.size 5 1 (.slice (some ⟨g, 0, none⟩) n cap) n ((be v n).map (Value.int .u8))) (hb : Below w.heap.size w w1)
    (hg : w.heap.size ≤ g) (y : Int) (hy : y = x + c) :
    (w1.setCell ⟨g, 0, none⟩ (.int .u8 y)).ownsRow w.heap.size 5 1 (.slice (some ⟨g, 0, none⟩) n cap) n (((be v n).set 0 ((be v n).getD 0 0 + c)).map (Value.int .u8)) ∧ Below w.heap.size w (w1.setCell ⟨g, 0, none⟩ (.int .u8 y)) := by
  subst hy
  have := (hown.stored 0 (.int .u8 (x + c))).1
  rw [← List.map_set] at this
  rw [← hx]
  exact ⟨this, hb.setCell hg _⟩

theorem head_1 (v : Int) (h0 : 0 ≤ v) (h1 : v ≤ 63) : 0 ≤ (be v 1).getD 0 0 ∧ (be v 1).getD 0 0 < 64 := by
  rw [be_at v 1 0 (by decide)]
  omega
theorem putv_1 (v : Int) (h0 : 0 ≤ v) (h1 : v ≤ 63) : vsize v = 1 ∧ sform v = 0 ∧ sok v = true := by
  refine ⟨?_, ?_, ?_⟩
  · unfold vsize; rw [if_neg (by omega), if_pos (by omega)]
  · unfold sform vform; rw [if_pos (by omega), if_pos (by omega)]
  · unfold sok; simp; omega
set_option maxHeartbeats 400000 in
theorem implPutVar_1 (v : Int) (w : World) (ht : Tab w) (h0 : 0 ≤ v) (h1 : v ≤ 63) :
    Calls Tryz.prog 83 #[.int .i64 v] w fun e w' => ∃ r, e = .returned (.tuple #[r, .int .i64 0]) ∧ w'.ownsRow w.heap.size 5 1 r 1 (((be v 1).set 0 ((be v 1).getD 0 0 + 0)).map (Value.int .u8)) ∧ Below w.heap.size w w' := by
  have hp := putv_1 v h0 h1
  have c : Calls Tryz.prog 92 #[.int .i64 v] w fun e w' => e = .returned (.tuple #[.int .i64 0, .bool true]) ∧ w' = w := by
    have := short_any v (by omega) w ht
    rwa [hp.2.1, hp.2.2] at this
  have d := length_0 w ht.c0
  have hh : ∀ w : World, Calls Tryz.prog 74 #[.int .u64 v, .int .i64 1] w fun e w' => ∃ r, e = .returned r ∧ w'.ownsRow w.heap.size 5 1 r 1 ((be v 1).map (Value.int .u8)) ∧ Below w.heap.size w w' :=
    fun w => high v 1 w (by omega) (by omega) (by decide)
  have hhd := head_1 v h0 h1
  clear ht hp
  go_enter Tryz.func83, Tryz.ntmps83
  go_wp2_with (first
    | (go_at_call 92; refine c.mono ?_; rintro e w' ⟨rfl, rfl⟩)
    | (go_at_call 93; refine d.mono ?_; rintro e w' ⟨rfl, rfl⟩)
    | (go_at_call 74; refine (hh _).mono ?_; rintro e w1 ⟨r, rfl, hown, hb⟩; obtain ⟨g, cap, rfl, hg, hgl⟩ := owns_shape hown (by decide); have c0 := owns_cell hown (be_length _ _) (by decide : 0 < 1); have f0 := hown.frozenAt 0; obtain ⟨x, hx⟩ : ∃ x, x = (be v 1).getD 0 0 := ⟨_, rfl⟩; rw [← hx] at c0 hhd; have HX : Hid (x = (be v 1).getD 0 0) := hx; clear hx))
  go_ret2
  have R := put_store (c := 0) (by decide) HX.out hown hb hg _ (or_add x 0 hhd.1 hhd.2 (by decide))
  exact ⟨_, rfl, R.1, R.2⟩

theorem head_2 (v : Int) (h0 : 64 ≤ v) (h1 : v ≤ 16383) : 0 ≤ (be v 2).getD 0 0 ∧ (be v 2).getD 0 0 < 64 := by
  rw [be_at v 2 0 (by decide)]
  omega
theorem putv_2 (v : Int) (h0 : 64 ≤ v) (h1 : v ≤ 16383) : vsize v = 2 ∧ sform v = 1 ∧ sok v = true := by
  refine ⟨?_, ?_, ?_⟩
  · unfold vsize; rw [if_neg (by omega), if_neg (by omega), if_pos (by omega)]
  · unfold sform vform; rw [if_pos (by omega), if_neg (by omega), if_pos (by omega)]
  · unfold sok; simp; omega
set_option maxHeartbeats 400000 in
theorem implPutVar_2 (v : Int) (w : World) (ht : Tab w) (h0 : 64 ≤ v) (h1 : v ≤ 16383) :
    Calls Tryz.prog 83 #[.int .i64 v] w fun e w' => ∃ r, e = .returned (.tuple #[r, .int .i64 0]) ∧ w'.ownsRow w.heap.size 5 1 r 2 (((be v 2).set 0 ((be v 2).getD 0 0 + 64)).map (Value.int .u8)) ∧ Below w.heap.size w w' := by
  have hp := putv_2 v h0 h1
  have c : Calls Tryz.prog 92 #[.int .i64 v] w fun e w' => e = .returned (.tuple #[.int .i64 1, .bool true]) ∧ w' = w := by
    have := short_any v (by omega) w ht
    rwa [hp.2.1, hp.2.2] at this
  have d := length_1 w ht.c1
  have hh : ∀ w : World, Calls Tryz.prog 74 #[.int .u64 v, .int .i64 2] w fun e w' => ∃ r, e = .returned r ∧ w'.ownsRow w.heap.size 5 1 r 2 ((be v 2).map (Value.int .u8)) ∧ Below w.heap.size w w' :=
    fun w => high v 2 w (by omega) (by omega) (by decide)
  have hhd := head_2 v h0 h1
  clear ht hp
  go_enter Tryz.func83, Tryz.ntmps83
  go_wp2_with (first
    | (go_at_call 92; refine c.mono ?_; rintro e w' ⟨rfl, rfl⟩)
    | (go_at_call 93; refine d.mono ?_; rintro e w' ⟨rfl, rfl⟩)
    | (go_at_call 74; refine (hh _).mono ?_; rintro e w1 ⟨r, rfl, hown, hb⟩; obtain ⟨g, cap, rfl, hg, hgl⟩ := owns_shape hown (by decide); have c0 := owns_cell hown (be_length _ _) (by decide : 0 < 2); have f0 := hown.frozenAt 0; obtain ⟨x, hx⟩ : ∃ x, x = (be v 2).getD 0 0 := ⟨_, rfl⟩; rw [← hx] at c0 hhd; have HX : Hid (x = (be v 2).getD 0 0) := hx; clear hx))
  go_ret2
  have R := put_store (c := 64) (by decide) HX.out hown hb hg _ (or_add x 64 hhd.1 hhd.2 (by decide))
  exact ⟨_, rfl, R.1, R.2⟩

theorem head_4 (v : Int) (h0 : 16384 ≤ v) (h1 : v ≤ 1073741823) : 0 ≤ (be v 4).getD 0 0 ∧ (be v 4).getD 0 0 < 64 := by
  rw [be_at v 4 0 (by decide)]
  omega
theorem putv_4 (v : Int) (h0 : 16384 ≤ v) (h1 : v ≤ 1073741823) : vsize v = 4 ∧ sform v = 2 ∧ sok v = true := by
  refine ⟨?_, ?_, ?_⟩
  · unfold vsize; rw [if_neg (by omega), if_neg (by omega), if_neg (by omega), if_pos (by omega)]
  · unfold sform vform; rw [if_pos (by omega), if_neg (by omega), if_neg (by omega), if_pos (by omega)]
  · unfold sok; simp; omega
set_option maxHeartbeats 400000 in
theorem implPutVar_4 (v : Int) (w : World) (ht : Tab w) (h0 : 16384 ≤ v) (h1 : v ≤ 1073741823) :
    Calls Tryz.prog 83 #[.int .i64 v] w fun e w' => ∃ r, e = .returned (.tuple #[r, .int .i64 0]) ∧ w'.ownsRow w.heap.size 5 1 r 4 (((be v 4).set 0 ((be v 4).getD 0 0 + 128)).map (Value.int .u8)) ∧ Below w.heap.size w w' := by
  have hp := putv_4 v h0 h1
  have c : Calls Tryz.prog 92 #[.int .i64 v] w fun e w' => e = .returned (.tuple #[.int .i64 2, .bool true]) ∧ w' = w := by
    have := short_any v (by omega) w ht
    rwa [hp.2.1, hp.2.2] at this
  have d := length_2 w ht.c2
  have hh : ∀ w : World, Calls Tryz.prog 74 #[.int .u64 v, .int .i64 4] w fun e w' => ∃ r, e = .returned r ∧ w'.ownsRow w.heap.size 5 1 r 4 ((be v 4).map (Value.int .u8)) ∧ Below w.heap.size w w' :=
    fun w => high v 4 w (by omega) (by omega) (by decide)
  have hhd := head_4 v h0 h1
  clear ht hp
  go_enter Tryz.func83, Tryz.ntmps83
  go_wp2_with (first
    | (go_at_call 92; refine c.mono ?_; rintro e w' ⟨rfl, rfl⟩)
    | (go_at_call 93; refine d.mono ?_; rintro e w' ⟨rfl, rfl⟩)
    | (go_at_call 74; refine (hh _).mono ?_; rintro e w1 ⟨r, rfl, hown, hb⟩; obtain ⟨g, cap, rfl, hg, hgl⟩ := owns_shape hown (by decide); have c0 := owns_cell hown (be_length _ _) (by decide : 0 < 4); have f0 := hown.frozenAt 0; obtain ⟨x, hx⟩ : ∃ x, x = (be v 4).getD 0 0 := ⟨_, rfl⟩; rw [← hx] at c0 hhd; have HX : Hid (x = (be v 4).getD 0 0) := hx; clear hx))
  go_ret2
  have R := put_store (c := 128) (by decide) HX.out hown hb hg _ (or_add x 128 hhd.1 hhd.2 (by decide))
  exact ⟨_, rfl, R.1, R.2⟩

theorem head_8 (v : Int) (h0 : 1073741824 ≤ v) (h1 : v ≤ 4611686018427387903) : 0 ≤ (be v 8).getD 0 0 ∧ (be v 8).getD 0 0 < 64 := by
  rw [be_at v 8 0 (by decide)]
  omega
theorem putv_8 (v : Int) (h0 : 1073741824 ≤ v) (h1 : v ≤ 4611686018427387903) : vsize v = 8 ∧ sform v = 3 ∧ sok v = true := by
  refine ⟨?_, ?_, ?_⟩
  · unfold vsize; rw [if_neg (by omega), if_neg (by omega), if_neg (by omega), if_neg (by omega), if_pos (by omega)]
  · unfold sform vform; rw [if_pos (by omega), if_neg (by omega), if_neg (by omega), if_neg (by omega)]
  · unfold sok; simp; omega
set_option maxHeartbeats 400000 in
theorem implPutVar_8 (v : Int) (w : World) (ht : Tab w) (h0 : 1073741824 ≤ v) (h1 : v ≤ 4611686018427387903) :
    Calls Tryz.prog 83 #[.int .i64 v] w fun e w' => ∃ r, e = .returned (.tuple #[r, .int .i64 0]) ∧ w'.ownsRow w.heap.size 5 1 r 8 (((be v 8).set 0 ((be v 8).getD 0 0 + 192)).map (Value.int .u8)) ∧ Below w.heap.size w w' := by
  have hp := putv_8 v h0 h1
  have c : Calls Tryz.prog 92 #[.int .i64 v] w fun e w' => e = .returned (.tuple #[.int .i64 3, .bool true]) ∧ w' = w := by
    have := short_any v (by omega) w ht
    rwa [hp.2.1, hp.2.2] at this
  have d := length_3 w ht.c3
  have hh : ∀ w : World, Calls Tryz.prog 74 #[.int .u64 v, .int .i64 8] w fun e w' => ∃ r, e = .returned r ∧ w'.ownsRow w.heap.size 5 1 r 8 ((be v 8).map (Value.int .u8)) ∧ Below w.heap.size w w' :=
    fun w => high v 8 w (by omega) (by omega) (by decide)
  have hhd := head_8 v h0 h1
  clear ht hp
  go_enter Tryz.func83, Tryz.ntmps83
  go_wp2_with (first
    | (go_at_call 92; refine c.mono ?_; rintro e w' ⟨rfl, rfl⟩)
    | (go_at_call 93; refine d.mono ?_; rintro e w' ⟨rfl, rfl⟩)
    | (go_at_call 74; refine (hh _).mono ?_; rintro e w1 ⟨r, rfl, hown, hb⟩; obtain ⟨g, cap, rfl, hg, hgl⟩ := owns_shape hown (by decide); have c0 := owns_cell hown (be_length _ _) (by decide : 0 < 8); have f0 := hown.frozenAt 0; obtain ⟨x, hx⟩ : ∃ x, x = (be v 8).getD 0 0 := ⟨_, rfl⟩; rw [← hx] at c0 hhd; have HX : Hid (x = (be v 8).getD 0 0) := hx; clear hx))
  go_ret2
  have R := put_store (c := 192) (by decide) HX.out hown hb hg _ (or_add x 192 hhd.1 hhd.2 (by decide))
  exact ⟨_, rfl, R.1, R.2⟩

/-- What PutVar of the program answers to a number that has a form. -/
theorem implPutVar (v : Int) (w : World) (ht : Tab w) (h0 : 0 ≤ v) (h1 : v ≤ 4611686018427387903) :
    Calls Tryz.prog 83 #[.int .i64 v] w fun e w' => ∃ r, e = .returned (.tuple #[r, .int .i64 0]) ∧ w'.ownsRow w.heap.size 5 1 r (vsize v).toNat ((putv v).map (Value.int .u8)) ∧ Below w.heap.size w w' := by
  unfold putv
  by_cases a : v ≤ 63
  · have := putv_1 v h0 a
    rw [this.1, this.2.1]
    exact implPutVar_1 v w ht h0 a
  · by_cases b : v ≤ 16383
    · have := putv_2 v (by omega) b
      rw [this.1, this.2.1]
      exact implPutVar_2 v w ht (by omega) b
    · by_cases c : v ≤ 1073741823
      · have := putv_4 v (by omega) c
        rw [this.1, this.2.1]
        exact implPutVar_4 v w ht (by omega) c
      · have := putv_8 v (by omega) h1
        rw [this.1, this.2.1]
        exact implPutVar_8 v w ht (by omega) h1

theorem implPutVar_no (v : Int) (w : World) (ht : Tab w) (h : v < 0 ∨ 4611686018427387903 < v) :
    Calls Tryz.prog 83 #[.int .i64 v] w fun e w' => e = .returned (.tuple #[.slice none 0 0, .int .i64 1]) ∧ w' = w := by
  have c : Calls Tryz.prog 92 #[.int .i64 v] w fun e w' => e = .returned (.tuple #[.int .i64 0, .bool false]) ∧ w' = w := by
    by_cases h0 : v < 0
    · exact short_neg v h0 w
    · have := short_any v (by omega) w ht
      have e1 : sform v = 0 := by unfold sform; rw [if_neg (by omega)]
      have e2 : sok v = false := by unfold sok; simp; omega
      rwa [e1, e2] at this
  clear ht h
  go_enter Tryz.func83, Tryz.ntmps83
  go_wp2_with (go_at_call 92; refine c.mono ?_; rintro e w' ⟨rfl, rfl⟩)
  go_ret2
  exact ⟨rfl, rfl⟩
end Go.Proofs.YteggfkekgdlecaaGreatDoor

namespace Go.Proofs.YteggfkekgdlecaaGreatDoor
open Go.RowKit
set_option linter.unusedVariables false

set_option maxHeartbeats 400000 in
theorem specPutVar_1 (v : Int) (w : World) (h0 : 0 ≤ v) (h1 : v ≤ 63) :
    Calls Tryz.prog 79 #[.int .i64 v] w fun e w' => ∃ r, e = .returned (.tuple #[r, .int .i64 0]) ∧ w'.ownsRow w.heap.size 5 1 r 1 (((be v 1).set 0 ((be v 1).getD 0 0 + 0)).map (Value.int .u8)) ∧ Below w.heap.size w w' := by
  have c : Calls Tryz.prog 89 #[.int .i64 v] w fun e w' => e = .returned (.int .i64 1) ∧ w' = w := by
    have := specVarLen v w
    rwa [(putv_1 v h0 h1).1] at this
  have hh : ∀ w : World, Calls Tryz.prog 46 #[.int .i64 v, .int .i64 1] w fun e w' => ∃ r, e = .returned r ∧ w'.ownsRow w.heap.size 5 1 r 1 ((be v 1).map (Value.int .u8)) ∧ Below w.heap.size w w' :=
    fun w => digits 1 v w (by omega) (by omega) (by decide)
  have hhd := head_1 v h0 h1
  go_enter Tryz.func79, Tryz.ntmps79
  go_wp2_with (first
    | (go_at_call 89; refine c.mono ?_; rintro e w' ⟨rfl, rfl⟩)
    | (go_at_call 46; refine (hh _).mono ?_; rintro e w1 ⟨r, rfl, hown, hb⟩; obtain ⟨g, cap, rfl, hg, hgl⟩ := owns_shape hown (by decide); have c0 := owns_cell hown (be_length _ _) (by decide : 0 < 1); have f0 := hown.frozenAt 0; obtain ⟨x, hx⟩ : ∃ x, x = (be v 1).getD 0 0 := ⟨_, rfl⟩; rw [← hx] at c0 hhd; have HX : Hid (x = (be v 1).getD 0 0) := hx; clear hx))
  refine wp_loop_rounds 1 ?_
  rw [rounds_succ]
  go_wp2
  go_ret2
  have R := put_store (c := 0) (by decide) HX.out hown hb hg (x + 0) rfl
  exact ⟨_, rfl, by simpa using R.1, by simpa using R.2⟩

set_option maxHeartbeats 400000 in
theorem specPutVar_2 (v : Int) (w : World) (h0 : 64 ≤ v) (h1 : v ≤ 16383) :
    Calls Tryz.prog 79 #[.int .i64 v] w fun e w' => ∃ r, e = .returned (.tuple #[r, .int .i64 0]) ∧ w'.ownsRow w.heap.size 5 1 r 2 (((be v 2).set 0 ((be v 2).getD 0 0 + 64)).map (Value.int .u8)) ∧ Below w.heap.size w w' := by
  have c : Calls Tryz.prog 89 #[.int .i64 v] w fun e w' => e = .returned (.int .i64 2) ∧ w' = w := by
    have := specVarLen v w
    rwa [(putv_2 v h0 h1).1] at this
  have hh : ∀ w : World, Calls Tryz.prog 46 #[.int .i64 v, .int .i64 2] w fun e w' => ∃ r, e = .returned r ∧ w'.ownsRow w.heap.size 5 1 r 2 ((be v 2).map (Value.int .u8)) ∧ Below w.heap.size w w' :=
    fun w => digits 2 v w (by omega) (by omega) (by decide)
  have hhd := head_2 v h0 h1
  go_enter Tryz.func79, Tryz.ntmps79
  go_wp2_with (first
    | (go_at_call 89; refine c.mono ?_; rintro e w' ⟨rfl, rfl⟩)
    | (go_at_call 46; refine (hh _).mono ?_; rintro e w1 ⟨r, rfl, hown, hb⟩; obtain ⟨g, cap, rfl, hg, hgl⟩ := owns_shape hown (by decide); have c0 := owns_cell hown (be_length _ _) (by decide : 0 < 2); have f0 := hown.frozenAt 0; obtain ⟨x, hx⟩ : ∃ x, x = (be v 2).getD 0 0 := ⟨_, rfl⟩; rw [← hx] at c0 hhd; have HX : Hid (x = (be v 2).getD 0 0) := hx; clear hx))
  refine wp_loop_rounds 2 ?_
  rw [rounds_succ]
  go_wp2
  rw [rounds_succ]
  go_wp2
  go_ret2
  have R := put_store (c := 64) (by decide) HX.out hown hb hg (x + 64) rfl
  exact ⟨_, rfl, R.1, R.2⟩

set_option maxHeartbeats 400000 in
theorem specPutVar_4 (v : Int) (w : World) (h0 : 16384 ≤ v) (h1 : v ≤ 1073741823) :
    Calls Tryz.prog 79 #[.int .i64 v] w fun e w' => ∃ r, e = .returned (.tuple #[r, .int .i64 0]) ∧ w'.ownsRow w.heap.size 5 1 r 4 (((be v 4).set 0 ((be v 4).getD 0 0 + 128)).map (Value.int .u8)) ∧ Below w.heap.size w w' := by
  have c : Calls Tryz.prog 89 #[.int .i64 v] w fun e w' => e = .returned (.int .i64 4) ∧ w' = w := by
    have := specVarLen v w
    rwa [(putv_4 v h0 h1).1] at this
  have hh : ∀ w : World, Calls Tryz.prog 46 #[.int .i64 v, .int .i64 4] w fun e w' => ∃ r, e = .returned r ∧ w'.ownsRow w.heap.size 5 1 r 4 ((be v 4).map (Value.int .u8)) ∧ Below w.heap.size w w' :=
    fun w => digits 4 v w (by omega) (by omega) (by decide)
  have hhd := head_4 v h0 h1
  go_enter Tryz.func79, Tryz.ntmps79
  go_wp2_with (first
    | (go_at_call 89; refine c.mono ?_; rintro e w' ⟨rfl, rfl⟩)
    | (go_at_call 46; refine (hh _).mono ?_; rintro e w1 ⟨r, rfl, hown, hb⟩; obtain ⟨g, cap, rfl, hg, hgl⟩ := owns_shape hown (by decide); have c0 := owns_cell hown (be_length _ _) (by decide : 0 < 4); have f0 := hown.frozenAt 0; obtain ⟨x, hx⟩ : ∃ x, x = (be v 4).getD 0 0 := ⟨_, rfl⟩; rw [← hx] at c0 hhd; have HX : Hid (x = (be v 4).getD 0 0) := hx; clear hx))
  refine wp_loop_rounds 3 ?_
  rw [rounds_succ]
  go_wp2
  rw [rounds_succ]
  go_wp2
  rw [rounds_succ]
  go_wp2
  go_ret2
  have R := put_store (c := 128) (by decide) HX.out hown hb hg (x + 128) rfl
  exact ⟨_, rfl, R.1, R.2⟩

set_option maxHeartbeats 400000 in
theorem specPutVar_8 (v : Int) (w : World) (h0 : 1073741824 ≤ v) (h1 : v ≤ 4611686018427387903) :
    Calls Tryz.prog 79 #[.int .i64 v] w fun e w' => ∃ r, e = .returned (.tuple #[r, .int .i64 0]) ∧ w'.ownsRow w.heap.size 5 1 r 8 (((be v 8).set 0 ((be v 8).getD 0 0 + 192)).map (Value.int .u8)) ∧ Below w.heap.size w w' := by
  have c : Calls Tryz.prog 89 #[.int .i64 v] w fun e w' => e = .returned (.int .i64 8) ∧ w' = w := by
    have := specVarLen v w
    rwa [(putv_8 v h0 h1).1] at this
  have hh : ∀ w : World, Calls Tryz.prog 46 #[.int .i64 v, .int .i64 8] w fun e w' => ∃ r, e = .returned r ∧ w'.ownsRow w.heap.size 5 1 r 8 ((be v 8).map (Value.int .u8)) ∧ Below w.heap.size w w' :=
    fun w => digits 8 v w (by omega) (by omega) (by decide)
  have hhd := head_8 v h0 h1
  go_enter Tryz.func79, Tryz.ntmps79
  go_wp2_with (first
    | (go_at_call 89; refine c.mono ?_; rintro e w' ⟨rfl, rfl⟩)
    | (go_at_call 46; refine (hh _).mono ?_; rintro e w1 ⟨r, rfl, hown, hb⟩; obtain ⟨g, cap, rfl, hg, hgl⟩ := owns_shape hown (by decide); have c0 := owns_cell hown (be_length _ _) (by decide : 0 < 8); have f0 := hown.frozenAt 0; obtain ⟨x, hx⟩ : ∃ x, x = (be v 8).getD 0 0 := ⟨_, rfl⟩; rw [← hx] at c0 hhd; have HX : Hid (x = (be v 8).getD 0 0) := hx; clear hx))
  refine wp_loop_rounds 4 ?_
  rw [rounds_succ]
  go_wp2
  rw [rounds_succ]
  go_wp2
  rw [rounds_succ]
  go_wp2
  rw [rounds_succ]
  go_wp2
  go_ret2
  have R := put_store (c := 192) (by decide) HX.out hown hb hg (x + 192) rfl
  exact ⟨_, rfl, R.1, R.2⟩

theorem specPutVar (v : Int) (w : World) (h0 : 0 ≤ v) (h1 : v ≤ 4611686018427387903) :
    Calls Tryz.prog 79 #[.int .i64 v] w fun e w' => ∃ r, e = .returned (.tuple #[r, .int .i64 0]) ∧ w'.ownsRow w.heap.size 5 1 r (vsize v).toNat ((putv v).map (Value.int .u8)) ∧ Below w.heap.size w w' := by
  unfold putv
  by_cases a : v ≤ 63
  · have := putv_1 v h0 a
    rw [this.1, this.2.1]
    exact specPutVar_1 v w h0 a
  · by_cases b : v ≤ 16383
    · have := putv_2 v (by omega) b
      rw [this.1, this.2.1]
      exact specPutVar_2 v w (by omega) b
    · by_cases c : v ≤ 1073741823
      · have := putv_4 v (by omega) c
        rw [this.1, this.2.1]
        exact specPutVar_4 v w (by omega) c
      · have := putv_8 v (by omega) h1
        rw [this.1, this.2.1]
        exact specPutVar_8 v w (by omega) h1

theorem specPutVar_no (v : Int) (w : World) (h : v < 0 ∨ 4611686018427387903 < v) :
    Calls Tryz.prog 79 #[.int .i64 v] w fun e w' => ∃ r, e = .returned (.tuple #[r, .int .i64 1]) ∧ w'.ownsRow w.heap.size 5 1 r 0 (([] : List Int).map (Value.int .u8)) ∧ Below w.heap.size w w' := by
  have c : Calls Tryz.prog 89 #[.int .i64 v] w fun e w' => e = .returned (.int .i64 0) ∧ w' = w := by
    have := specVarLen v w
    have e : vsize v = 0 := by
      unfold vsize
      rcases h with h | h
      · rw [if_pos h]
      · rw [if_neg (by omega), if_neg (by omega), if_neg (by omega), if_neg (by omega), if_neg (by omega)]
    rwa [e] at this
  clear h
  go_enter Tryz.func79, Tryz.ntmps79
  go_wp2_with (go_at_call 89; refine c.mono ?_; rintro e w' ⟨rfl, rfl⟩)
  go_ret2
  refine ⟨_, rfl, ?_, (Below.refl _ _).alloc (Nat.le_refl _) _⟩
  exact World.ownsRow_lit _ #[] 0 (Nat.le_refl _) (by decide) rfl
end Go.Proofs.YteggfkekgdlecaaGreatDoor

namespace Go.Proofs.YteggfkekgdlecaaGreatDoor
open Go.RowKit
set_option linter.unusedVariables false

/-- A number that a variable integer holds. -/
def okv (v : Int) : Prop := 0 ≤ v ∧ v ≤ 4611686018427387903
theorem vsize_bd (v : Int) (h : okv v) : 1 ≤ (vsize v).toNat ∧ (vsize v).toNat ≤ 8 := by
  obtain ⟨h0, h1⟩ := h
  unfold vsize
  rw [if_neg (by omega)]
  split <;> (try split) <;> (try split) <;> (try split) <;> omega
theorem putv_length (v : Int) : (putv v).length = (vsize v).toNat := by unfold putv; rw [List.length_set, be_length]

/-- The bytes of a list, of its first k numbers. -/
def cat (xs : List Int) (k : Nat) : List Int := putv xs.length ++ (xs.take k).flatMap putv
theorem cat_succ (xs : List Int) (k : Nat) (h : k < xs.length) : cat xs (k + 1) = cat xs k ++ putv (xs.getD k 0) := by
  have e : xs.getD k 0 = xs[k] := by simp [List.getD, h]
  unfold cat
  rw [e, List.take_succ_eq_append_getElem h, List.flatMap_append, List.append_assoc]
  simp
theorem cat_length (xs : List Int) (k : Nat) (hn : okv xs.length) (h : k ≤ xs.length) (hok : ∀ j, j < k → okv (xs.getD j 0)) : (cat xs k).length ≤ 8 * (k + 1) := by
  induction k with
  | zero =>
    unfold cat
    simp only [List.take_zero, List.flatMap_nil, List.append_nil, putv_length]
    have := vsize_bd _ hn
    omega
  | succ k ih =>
    have h1 := ih (by omega) (fun j hj => hok j (by omega))
    have h2 := vsize_bd _ (hok k (by omega))
    rw [cat_succ xs k (by omega), List.length_append, putv_length]
    omega

/-- What one append of the loop does. -/
theorem cat_step {w wr w1 w2 : World} {v v' : Value} {ys zs : List Int} {m : Nat} (hm : zs.length = m) (hown : wr.ownsRow w.heap.size 5 1 v ys.length (ys.map (Value.int .u8))) (hb : Below w.heap.size w wr) (hb1 : Below wr.heap.size wr w1)
    (hown' : w2.ownsRow w.heap.size 5 1 v' (ys.length + m) (ys.map (Value.int .u8) ++ zs.map (Value.int .u8))) (hgrow : w1.grownBy w2 v.ownBlock) :
    w2.ownsRow w.heap.size 5 1 v' (ys ++ zs).length ((ys ++ zs).map (Value.int .u8)) ∧ Below w.heap.size w w2 := by
  refine ⟨by rw [List.length_append, List.map_append, hm]; exact hown', ?_⟩
  refine (hb.trans (hb1.mono hb.size)).grown hgrow (Nat.le_trans hb.size hb1.size) ?_
  intro k hk
  exact (hown.lt k hk).1
theorem one_cells (zs : List Int) (k : IntKind) : ∀ u, u ∈ zs.map (Value.int k) → u.oneCell' = true := by
  intro u hu
  obtain ⟨z, _, rfl⟩ := List.mem_map.1 hu
  rfl
theorem piece_cells {w : World} {base e g m cap : Nat} {zs : List Int} (h : w.ownsRow base e 1 (.slice (some ⟨g, 0, none⟩) m cap) m (zs.map (Value.int .u8))) :
    ∀ (j : Nat) (u : Value), (zs.map (Value.int .u8))[j]? = some u → w.cell? ((⟨g, 0, none⟩ : Addr).add j) = some u := by
  intro j u hj
  have hl : (zs.map (Value.int .u8)).length = m * 1 := h.1
  have hlt : j < m * 1 := by
    rw [← hl]
    exact (List.getElem?_eq_some_iff.1 hj).1
  have := h.cellAt j hlt
  rw [Go.WideShapes.add_plain, Nat.zero_add, this]
  exact hj

end Go.Proofs.YteggfkekgdlecaaGreatDoor

namespace Go.Proofs.YteggfkekgdlecaaGreatDoor
open Go.RowKit
set_option linter.unusedVariables false

theorem Row.chg {S : Nat → Prop} {w w' : World} {k : IntKind} {v : Value} {xs : List Int} (h : Row w k v xs) (c : Chg S w w') (hs : xs ≠ [] → ∀ b, v.ownBlock = some b → ¬ S b) : Row w' k v xs := by
  rcases h with h | ⟨b, off, cap, rfl, hlt, hcap, hc⟩
  · exact Or.inl h
  · by_cases hx : xs = []
    · subst hx
      exact Or.inl ⟨rfl, _, _, rfl⟩
    · have e : w'.heap[b]? = w.heap[b]? := c.block b hlt (hs hx b rfl)
      refine Or.inr ⟨b, off, cap, rfl, Nat.lt_of_lt_of_le hlt c.size, hcap, fun j hj => ?_⟩
      rw [← hc j hj]
      simp only [World.cell?, e]
theorem own_of_row {w : World} {k : IntKind} {v : Value} {xs : List Int} (h : Row w k v xs) (hx : xs ≠ []) {b : Nat} (e : v.ownBlock = some b) : b < w.heap.size := by
  rcases h with ⟨rfl, _⟩ | ⟨b', off, cap, rfl, hb, _⟩
  · exact absurd rfl hx
  · have := Option.some.inj e
    simp only at this
    omega
/-- What was put behind v is v': of the old blocks v's own alone has turned, and v' lies there or is new. -/
structure GrW (w w' : World) (v v' : Value) : Prop where
  chg : Chg (fun k => v.ownBlock = some k) w w'
  loc : ∀ k, v'.ownBlock = some k → v.ownBlock = some k ∨ w.heap.size ≤ k
theorem GrW.refl (w : World) (v : Value) : GrW w w v v := ⟨⟨rfl, rfl, rfl, Nat.le_refl _, fun _ _ _ => rfl⟩, fun k h => Or.inl h⟩
theorem GrW.trans {w w1 w2 : World} {v v1 v2 : Value} (h : GrW w w1 v v1) (k : GrW w1 w2 v1 v2) : GrW w w2 v v2 := by
  refine ⟨⟨k.chg.os.trans h.chg.os, k.chg.tape.trans h.chg.tape, k.chg.output.trans h.chg.output, Nat.le_trans h.chg.size k.chg.size, fun i hi hn => ?_⟩, fun i hi => ?_⟩
  · refine (k.chg.block i (Nat.lt_of_lt_of_le hi h.chg.size) (fun e => ?_)).trans (h.chg.block i hi hn)
    rcases h.loc i e with q | q
    · exact hn q
    · omega
  · rcases k.loc i hi with q | q
    · exact h.loc i q
    · exact Or.inr (Nat.le_trans h.chg.size q)
/-- First something below is made, then it goes on. -/
theorem GrW.after {w w1 w2 : World} {v v2 : Value} (b : Below w.heap.size w w1) (k : GrW w1 w2 v v2) : GrW w w2 v v2 :=
  ⟨⟨k.chg.os.trans b.os, k.chg.tape.trans b.tape, k.chg.output.trans b.output, Nat.le_trans b.size k.chg.size, fun i hi hn => (k.chg.block i (Nat.lt_of_lt_of_le hi b.size) hn).trans (b.block i hi)⟩, fun i hi => (k.loc i hi).imp id (fun q => Nat.le_trans b.size q)⟩
theorem GrW.below {w w' : World} {v v' : Value} {base n : Nat} {xs : List Value} (h : GrW w w' v v') (ho : w.ownsRow base 5 1 v n xs) (hb : base ≤ w.heap.size) : Below base w w' :=
  h.chg.below hb (fun k e => (ho.lt k e).1)
/-- 'append(own, row...)', where it lies told. -/
theorem wpList_append_loc {w : World} {ops : Array Oper} {rest : List Oper} {o : Oper} {a : Act} {Q : Exit → Act → World → Prop} (hgd : o.guard = none) (p q : Operand)
    (ho : o.op = .call { callee := .builtin .append, args := #[p, q], argTypes := #[22, 22] })
    (base : Nat) (v : Value) (xs : List Int) (hp : a.eval p = v) (hown : w.ownsRow base 5 1 v xs.length (xs.map (Value.int .u8)))
    (v2 : Value) (ys : List Int) (hq : a.eval q = v2) (hrow : Row w .u8 v2 ys) (h63 : xs.length + ys.length ≤ 140737488355328) (hbase : base ≤ w.heap.size)
    (h : ∀ v' w', w'.ownsRow base 5 1 v' (xs ++ ys).length ((xs ++ ys).map (Value.int .u8)) → GrW w w' v v' → wpList Tryz.prog ops Q rest (a.put o.dst v') w') :
    wpList Tryz.prog ops Q (o :: rest) a w := by
  obtain ⟨i0, hi, hz0, hz1, hz2⟩ := info_parts infoBy
  by_cases h0 : 0 < ys.length
  · obtain ⟨b, off, cap, rfl, hb, hc⟩ := hrow.at h0
    refine wpList_append_own_at w hgd p q 22 ho base 5 i0 (.int .u8 0) 1 1 Tryz.underlying22 hi hz0 hz1 hz2 rfl (by decide) v xs.length (xs.map (Value.int .u8)) hp hown ⟨b, off, none⟩ ys.length cap (ys.map (Value.int .u8)) hq (by simp) ?_ ?_ (by unfold maxLen; omega) (by omega) hbase ?_
    · intro j u hj
      have hj' : j < ys.length := by
        have := (List.getElem?_eq_some_iff.1 hj).1
        rwa [List.length_map] at this
      rw [Go.WideShapes.add_plain, hc j hj']
      rw [List.getElem?_map, List.getElem?_eq_getElem hj'] at hj
      simp only [Option.map_some, Option.some.injEq] at hj
      rw [← hj]
      simp [List.getD, hj']
    · intro u hu
      obtain ⟨z, _, rfl⟩ := List.mem_map.1 hu
      rfl
    · intro v' w' ho' hg _ hl
      refine h v' w' (by rw [List.map_append, List.length_append]; exact ho') ⟨⟨hg.os, hg.tape, hg.output, hg.size, fun k hk hn => hg.block k hk (fun e => hn e.symm)⟩, fun k hk => ?_⟩
      rcases hl with e | e
      · exact Or.inl (e ▸ hk)
      · rw [e] at hk; exact Or.inr (by have := Option.some.inj hk; omega)
  · have hn : ys = [] := List.eq_nil_of_length_eq_zero (by omega)
    subst hn
    obtain ⟨ao, cap, rfl⟩ := hrow.form
    have hrun := run_append_owned_zero (P := Tryz.prog) (w := w) base 22 o.type 5 i0 1 Tryz.underlying22 hi v xs.length (xs.map (Value.int .u8)) ao cap hown
    refine wpList_plain hgd fun K hK => ?_
    unfold Oper.wp
    simp only [List.length_nil] at hq
    simp [execOp, ho, resolve, invoke, builtin, hp, hq, hrun, Result.andThen]
    refine hK _ _ (h v w ?_ (GrW.refl w v))
    simpa using hown

def entB (n : Int) (ys : List Int) : List Int := putv n ++ (putv ys.length ++ ys)
theorem putv_le (v : Int) (h0 : 0 ≤ v) (h1 : v ≤ 4611686018427387903) : (putv v).length ≤ 8 := by rw [putv_length]; exact (vsize_bd v ⟨h0, h1⟩).2
theorem entB_le (n : Int) (ys : List Int) (h0 : 0 ≤ n) (h1 : n ≤ 63) (hy : ys.length ≤ 8) : (entB n ys).length ≤ 24 := by
  have a := putv_le n h0 (by omega)
  have b := putv_le ys.length (by omega) (by omega)
  simp only [entB, List.length_append]
  omega
/-- What the entries say, one by one; empty where one is not told. -/
def parL (p : PP) (s : Bool) : List (List Int) :=
  [if s = true then entB 0 p.o else [], entB 1 (putv p.a0), if 0 < p.t.length then entB 2 p.t else [], entB 3 (putv p.a1), entB 4 (putv p.a2), entB 5 (putv p.a3), entB 8 (putv p.a4), entB 9 (putv p.a5), entB 11 (putv p.a6), if p.m = true then entB 12 [] else [], entB 14 (putv p.a7), entB 15 p.f, entB 32 (putv p.a8)]
def parA (p : PP) (s : Bool) (k : Nat) : List Int := ((parL p s).take k).flatten
def parB (p : PP) (s : Bool) : List Int := (parL p s).flatten
theorem parA_13 (p : PP) (s : Bool) : parA p s 13 = parB p s := by unfold parA parB; rw [List.take_of_length_le (by simp [parL])]
theorem parA_succ (p : PP) (s : Bool) (k : Nat) (h : k < 13) : parA p s (k + 1) = parA p s k ++ (parL p s).getD k [] := by
  unfold parA
  have hk : k < (parL p s).length := by simpa [parL] using h
  rw [List.take_add_one, List.flatten_append]
  simp [List.getD, hk]

theorem nC (base : Nat) (vo : Value) (xs : List Int) (n : Int) (w : World) (ho : w.ownsRow base 5 1 vo xs.length (xs.map (Value.int .u8))) (hb : base ≤ w.heap.size) (hx : xs.length ≤ 1000000) (h0 : 0 ≤ n) (h1 : n ≤ 4611686018427387903) :
    Calls Tryz.prog 66 #[vo, .int .i64 n] w fun e w' => ∃ r, e = .returned r ∧ w'.ownsRow base 5 1 r (xs ++ putv n).length ((xs ++ putv n).map (Value.int .u8)) ∧ GrW w w' vo r := by
  have HH : Hid _ := And.intro ho (And.intro (specPutVar n w h0 h1) (And.intro hb (putv_le n h0 h1)))
  clear ho hb
  go_enter Tryz.func66, Tryz.ntmps66
  go_wp2_with (first
    | (go_at_call 79; refine HH.out.2.1.mono ?_; rintro e w1 ⟨r1, rfl, o1, b1⟩; have H1 : Hid _ := And.intro (row_of_owns o1) b1; clear o1 b1)
    | (at_builtin; refine wpList_append_loc rfl (.tmp 12) (.tmp 13) rfl base _ xs rfl (owns_below HH.out.1 H1.out.2) _ (putv n) rfl H1.out.1 (by have := HH.out.2.2.2; omega) (Nat.le_trans HH.out.2.2.1 H1.out.2.size) ?_; intro q2 w2 o2 g2; have H2 : Hid _ := And.intro o2 (GrW.after H1.out.2 g2); clear o2 g2))
  go_ret
  exact ⟨_, rfl, H2.out.1, H2.out.2⟩
theorem cntC (base : Nat) (vo vv : Value) (xs ys : List Int) (w : World) (ho : w.ownsRow base 5 1 vo xs.length (xs.map (Value.int .u8))) (hv : Row w .u8 vv ys) (ha : ys ≠ [] → ∀ k, vv.ownBlock = some k → vo.ownBlock ≠ some k) (hb : base ≤ w.heap.size) (hx : xs.length ≤ 1000000) (hy : ys.length ≤ 1000000) :
    Calls Tryz.prog 47 #[vo, vv] w fun e w' => ∃ r, e = .returned r ∧ w'.ownsRow base 5 1 r (xs ++ (putv ys.length ++ ys)).length ((xs ++ (putv ys.length ++ ys)).map (Value.int .u8)) ∧ GrW w w' vo r := by
  obtain ⟨ao, cap, rfl⟩ := hv.form
  have C := nC base vo xs ys.length w ho hb hx (by omega) (by omega)
  have HH : Hid _ := And.intro C (And.intro hv (And.intro ha (And.intro hb (And.intro (putv_le ys.length (by omega) (by omega)) (And.intro ho True.intro)))))
  obtain ⟨n, en⟩ : ∃ n, n = ys.length := ⟨_, rfl⟩
  have EN : Hid _ := And.intro en True.intro
  have hny : n ≤ 1000000 := by omega
  rw [← en]
  clear C hv ha hb ho en hy
  go_enter Tryz.func47, Tryz.ntmps47
  go_wp2_with (first
    | (go_at_call 66; rw [EN.out.1]; refine HH.out.1.mono ?_; rintro e w1 ⟨r1, rfl, o1, g1⟩; have H1 : Hid _ := And.intro o1 g1; clear o1 g1)
    | (at_builtin; refine wpList_append_loc rfl (.tmp 8) (.tmp 9) rfl base _ (xs ++ putv ys.length) rfl H1.out.1 _ ys (by rw [← EN.out.1]; rfl) (HH.out.2.1.chg H1.out.2.chg (fun hx k h e => HH.out.2.2.1 hx k h e)) (by have := HH.out.2.2.2.2.1; have := EN.out.1; rw [List.length_append]; omega) (Nat.le_trans HH.out.2.2.2.1 H1.out.2.chg.size) ?_; intro q2 w2 o2 g2; have H2 : Hid _ := And.intro o2 (GrW.trans H1.out.2 g2); clear o2 g2))
  go_ret
  refine ⟨_, rfl, ?_, H2.out.2⟩
  have := H2.out.1
  rw [List.append_assoc, ← EN.out.1] at this
  exact this
theorem entC (base : Nat) (vo vv : Value) (xs ys : List Int) (n : Int) (w : World) (ho : w.ownsRow base 5 1 vo xs.length (xs.map (Value.int .u8))) (hv : Row w .u8 vv ys) (ha : ys ≠ [] → ∀ k, vv.ownBlock = some k → vo.ownBlock ≠ some k) (hlv : ys ≠ [] → ∀ k, vv.ownBlock = some k → k < w.heap.size) (hb : base ≤ w.heap.size) (hx : xs.length ≤ 100000) (hy : ys.length ≤ 100000) (h0 : 0 ≤ n) (h1 : n ≤ 63) :
    Calls Tryz.prog 67 #[vo, .int .i64 n, vv] w fun e w' => ∃ r, e = .returned r ∧ w'.ownsRow base 5 1 r (xs ++ entB n ys).length ((xs ++ entB n ys).map (Value.int .u8)) ∧ GrW w w' vo r := by
  have HH : Hid _ := And.intro (nC base vo xs n w ho hb (by omega) h0 (by omega)) (And.intro hv (And.intro ha (And.intro hb (And.intro (putv_le n h0 (by omega)) hlv))))
  clear hv ha hb ho hlv
  go_enter Tryz.func67, Tryz.ntmps67
  go_wp2_with (first
    | (go_at_call 66; refine HH.out.1.mono ?_; rintro e w1 ⟨r1, rfl, o1, g1⟩; have H1 : Hid _ := And.intro o1 g1; clear o1 g1)
    | (go_at_call 47; refine (cntC base _ _ (xs ++ putv n) ys w1 H1.out.1 (HH.out.2.1.chg H1.out.2.chg (fun hx k h e => HH.out.2.2.1 hx k h e)) (fun hx k h e => (H1.out.2.loc k e).elim (HH.out.2.2.1 hx k h) (fun q => by have := HH.out.2.2.2.2.2 hx k h; omega)) (Nat.le_trans HH.out.2.2.2.1 H1.out.2.chg.size) (by have := HH.out.2.2.2.2.1; rw [List.length_append]; omega) (by omega)).mono ?_; rintro e w2 ⟨r2, rfl, o2, g2⟩; have H2 : Hid _ := And.intro o2 (GrW.trans H1.out.2 g2); clear o2 g2))
  go_ret
  refine ⟨_, rfl, ?_, H2.out.2⟩
  have := H2.out.1
  rw [List.append_assoc] at this
  exact this
theorem own_lt {w : World} {base n : Nat} {v : Value} {xs : List Value} (h : w.ownsRow base 5 1 v n xs) (k : Nat) (e : v.ownBlock = some k) : k < w.heap.size := (h.lt k e).2
theorem numC (base : Nat) (vo : Value) (xs : List Int) (n x : Int) (w : World) (ho : w.ownsRow base 5 1 vo xs.length (xs.map (Value.int .u8))) (hb : base ≤ w.heap.size) (hx : xs.length ≤ 100000) (h0 : 0 ≤ n) (h1 : n ≤ 63) (x0 : 0 ≤ x) (x1 : x ≤ 4611686018427387903) :
    Calls Tryz.prog 68 #[vo, .int .i64 n, .int .i64 x] w fun e w' => ∃ r, e = .returned r ∧ w'.ownsRow base 5 1 r (xs ++ entB n (putv x)).length ((xs ++ entB n (putv x)).map (Value.int .u8)) ∧ GrW w w' vo r := by
  have A0 : Below w.heap.size w (w.alloc (.cells #[] 5)) := (Below.refl _ _).alloc (Nat.le_refl _) _
  have oz : (w.alloc (.cells #[] 5)).ownsRow w.heap.size 5 1 (.slice (some ⟨w.heap.size, 0, none⟩) 0 0) ([] : List Int).length (([] : List Int).map (Value.int .u8)) := World.ownsRow_lit _ #[] 0 (Nat.le_refl _) (by decide) rfl
  have HH : Hid _ := And.intro (nC w.heap.size _ [] x _ oz A0.size (by simp) x0 x1) (And.intro ho (And.intro hb (And.intro A0 (And.intro (putv_le x x0 x1) (And.intro (fun k (e : Value.ownBlock _ = some k) => (oz.lt k e).1) (own_lt ho))))))
  clear hb ho A0 oz
  go_enter Tryz.func68, Tryz.ntmps68
  go_wp2_with (first
    | (go_at_call 66; refine HH.out.1.mono ?_; rintro e w1 ⟨r1, rfl, o1, g1⟩; rw [List.nil_append] at o1; have H1 : Hid _ := And.intro o1 (And.intro (HH.out.2.2.2.1.trans (g1.chg.below HH.out.2.2.2.1.size (fun k e => HH.out.2.2.2.2.2.1 k e))) (fun k (e : Value.ownBlock _ = some k) => o1.lt k e)); clear o1 g1)
    | (go_at_call 67; refine (entC base _ _ xs (putv x) n w1 (owns_below HH.out.2.1 H1.out.2.1) (row_of_owns H1.out.1) (fun _ k e e2 => by have := (H1.out.2.2 k e).1; have := HH.out.2.2.2.2.2.2 k e2; omega) (fun _ k e => (H1.out.2.2 k e).2) (Nat.le_trans HH.out.2.2.1 H1.out.2.1.size) hx (by have := HH.out.2.2.2.2.1; omega) h0 h1).mono ?_; rintro e w2 ⟨r2, rfl, o2, g2⟩; have H2 : Hid _ := And.intro o2 (GrW.after H1.out.2.1 g2); clear o2 g2))
  go_ret
  exact ⟨_, rfl, H2.out.1, H2.out.2⟩
end Go.Proofs.YteggfkekgdlecaaGreatDoor

namespace Go.Proofs.YteggfkekgdlecaaGreatDoor
open Go.RowKit
set_option linter.unusedVariables false

theorem only_setRowE (w : World) (g : Nat) (cs : Array Value) : Only (some g) w (w.setRow g cs) :=
  ⟨rfl, rfl, rfl, by simp [World.setRow], fun k hk => by simp only [World.setRow, Array.getElem?_modify]; rw [if_neg (fun e => hk (by rw [e]))]⟩
/-- A store of a whole struct into its block. -/
theorem wpList_store_atE {P : Program} {ops : Array Oper} {rest : List Oper} {o : Oper} {a : Act} {w : World} {Q : Exit → Act → World → Prop} (hgd : o.guard = none) (ty : TypeId) (x y : Operand) (ho : o.op = .store ty x y)
    (g : Nat) (cells : Array Value) (hx : a.eval x = .pointer (some ⟨g, 0, none⟩)) (hy : a.eval y = .agg cells)
    (t : TypeId) (old : Array Value) (hg : w.heap[g]? = some (.cells old t (0, 0))) (hi : (P.info? ty).map (·.size) = some cells.size)
    (hold : old.size = cells.size) (h1 : cells.all (·.oneCell') = true)
    (h : ∀ w', w'.heap[g]? = some (.cells cells t (0, 0)) → Only (some g) w w' → wpList P ops Q rest (a.put o.dst undef) w') : wpList P ops Q (o :: rest) a w :=
  wpList_store_row hgd ty x y ho g cells hx hy t old hg hi hold h1 (h _ (setRow_heap w g old cells t _ hg) (only_setRowE w g cells))
end Go.Proofs.YteggfkekgdlecaaGreatDoor

namespace Go.Proofs.YteggfkekgdlecaaGreatDoor
open Go.RowKit
set_option linter.unusedVariables false

theorem infoEn : (Tryz.prog.info? 105).map (·.size) = some 5 := by kernel_rfl

theorem only_cellE {w w' : World} {g a : Nat} (h : Only (some g) w w') (hne : a ≠ g) : w'.cell? ⟨a, 0, none⟩ = w.cell? ⟨a, 0, none⟩ := by
  simp only [World.cell?, h.block a (fun e => hne (Option.some.inj e))]
/-- The five cells of such an entry, and what its functions have hold of. -/
def NumE (w : World) (base : Nat) (cs : Array Value) (num : Int) (g off : Nat) (l h : Int) : Prop :=
  ∃ b : Nat, cs = #[.int .i64 num, .func (.func 97) #[] #[.pointer (some ⟨b, 0, none⟩), .pointer (some ⟨(b + 1), 0, none⟩), .pointer (some ⟨(b + 2), 0, none⟩)], .func (.func 98) #[] #[], .func (.func 99) #[] #[.pointer (some ⟨b, 0, none⟩)], .func (.func 100) #[] #[.pointer (some ⟨b, 0, none⟩)]] ∧ w.cell? ⟨b, 0, none⟩ = some (.pointer (some ⟨g, off, none⟩)) ∧ base ≤ b ∧ b < w.heap.size ∧ w.cell? ⟨(b + 1), 0, none⟩ = some (.int .i64 l) ∧ base ≤ (b + 1) ∧ (b + 1) < w.heap.size ∧ w.cell? ⟨(b + 2), 0, none⟩ = some (.int .i64 h) ∧ base ≤ (b + 2) ∧ (b + 2) < w.heap.size
theorem NumE.below {w w' : World} {base : Nat} {cs : Array Value} {num : Int} {g off : Nat} {l h : Int} (hb : Below w.heap.size w w') (k : NumE w base cs num g off l h) : NumE w' base cs num g off l h := by
  obtain ⟨b, e, h0, g0, l0, h1, g1, l1, h2, g2, l2⟩ := k
  have z := hb.size
  exact ⟨b, e, (hb.cell (p := ⟨b, 0, none⟩) l0).trans h0, g0, by omega, (hb.cell (p := ⟨(b + 1), 0, none⟩) l1).trans h1, g1, by omega, (hb.cell (p := ⟨(b + 2), 0, none⟩) l2).trans h2, g2, by omega⟩
theorem NumE.only {w w' : World} {base q : Nat} {cs : Array Value} {num : Int} {g off : Nat} {l h : Int} (hb : Only (some q) w w') (hq : q < base) (k : NumE w base cs num g off l h) : NumE w' base cs num g off l h := by
  obtain ⟨b, e, h0, g0, l0, h1, g1, l1, h2, g2, l2⟩ := k
  have z := hb.size
  exact ⟨b, e, (only_cellE hb (by omega)).trans h0, g0, by omega, (only_cellE hb (by omega)).trans h1, g1, by omega, (only_cellE hb (by omega)).trans h2, g2, by omega⟩
theorem NumE.mono {w : World} {base base' : Nat} {cs : Array Value} {num : Int} {g off : Nat} {l h : Int} (hb : base' ≤ base) (k : NumE w base cs num g off l h) : NumE w base' cs num g off l h := by
  obtain ⟨b, e, h0, g0, l0, h1, g1, l1, h2, g2, l2⟩ := k
  exact ⟨b, e, h0, by omega, l0, h1, by omega, l1, h2, by omega, l2⟩
/-- The five cells of such an entry, and what its functions have hold of. -/
def LstE (w : World) (base : Nat) (cs : Array Value) (num : Int) (g off : Nat) (mf : Value) : Prop :=
  ∃ b : Nat, cs = #[.int .i64 num, .func (.func 110) #[] #[.pointer (some ⟨(b + 1), 0, none⟩), .pointer (some ⟨b, 0, none⟩)], .func (.func 98) #[] #[], .func (.func 111) #[] #[.pointer (some ⟨b, 0, none⟩)], .func (.func 112) #[] #[.pointer (some ⟨b, 0, none⟩)]] ∧ w.cell? ⟨b, 0, none⟩ = some (.pointer (some ⟨g, off, none⟩)) ∧ base ≤ b ∧ b < w.heap.size ∧ w.cell? ⟨(b + 1), 0, none⟩ = some (mf) ∧ base ≤ (b + 1) ∧ (b + 1) < w.heap.size
theorem LstE.below {w w' : World} {base : Nat} {cs : Array Value} {num : Int} {g off : Nat} {mf : Value} (hb : Below w.heap.size w w') (k : LstE w base cs num g off mf) : LstE w' base cs num g off mf := by
  obtain ⟨b, e, h0, g0, l0, h1, g1, l1⟩ := k
  have z := hb.size
  exact ⟨b, e, (hb.cell (p := ⟨b, 0, none⟩) l0).trans h0, g0, by omega, (hb.cell (p := ⟨(b + 1), 0, none⟩) l1).trans h1, g1, by omega⟩
theorem LstE.only {w w' : World} {base q : Nat} {cs : Array Value} {num : Int} {g off : Nat} {mf : Value} (hb : Only (some q) w w') (hq : q < base) (k : LstE w base cs num g off mf) : LstE w' base cs num g off mf := by
  obtain ⟨b, e, h0, g0, l0, h1, g1, l1⟩ := k
  have z := hb.size
  exact ⟨b, e, (only_cellE hb (by omega)).trans h0, g0, by omega, (only_cellE hb (by omega)).trans h1, g1, by omega⟩
theorem LstE.mono {w : World} {base base' : Nat} {cs : Array Value} {num : Int} {g off : Nat} {mf : Value} (hb : base' ≤ base) (k : LstE w base cs num g off mf) : LstE w base' cs num g off mf := by
  obtain ⟨b, e, h0, g0, l0, h1, g1, l1⟩ := k
  exact ⟨b, e, h0, by omega, l0, h1, by omega, l1⟩
/-- The five cells of such an entry, and what its functions have hold of. -/
def OrgE (w : World) (base : Nat) (cs : Array Value) (num : Int) (g off : Nat) (s : Bool) : Prop :=
  ∃ b c : Nat, cs = #[.int .i64 num, .func (.func 110) #[] #[.pointer (some ⟨(b + 1), 0, none⟩), .pointer (some ⟨b, 0, none⟩)], .func (.func 96) #[] #[.pointer (some ⟨c, 0, none⟩)], .func (.func 111) #[] #[.pointer (some ⟨b, 0, none⟩)], .func (.func 112) #[] #[.pointer (some ⟨b, 0, none⟩)]] ∧ w.cell? ⟨b, 0, none⟩ = some (.pointer (some ⟨g, off, none⟩)) ∧ base ≤ b ∧ b < w.heap.size ∧ w.cell? ⟨(b + 1), 0, none⟩ = some (.func (.func 95) #[] #[.pointer (some ⟨c, 0, none⟩)]) ∧ base ≤ (b + 1) ∧ (b + 1) < w.heap.size ∧ w.cell? ⟨c, 0, none⟩ = some (.bool s) ∧ base ≤ c ∧ c < w.heap.size
theorem OrgE.below {w w' : World} {base : Nat} {cs : Array Value} {num : Int} {g off : Nat} {s : Bool} (hb : Below w.heap.size w w') (k : OrgE w base cs num g off s) : OrgE w' base cs num g off s := by
  obtain ⟨b, c, e, h0, g0, l0, h1, g1, l1, h2, g2, l2⟩ := k
  have z := hb.size
  exact ⟨b, c, e, (hb.cell (p := ⟨b, 0, none⟩) l0).trans h0, g0, by omega, (hb.cell (p := ⟨(b + 1), 0, none⟩) l1).trans h1, g1, by omega, (hb.cell (p := ⟨c, 0, none⟩) l2).trans h2, g2, by omega⟩
theorem OrgE.only {w w' : World} {base q : Nat} {cs : Array Value} {num : Int} {g off : Nat} {s : Bool} (hb : Only (some q) w w') (hq : q < base) (k : OrgE w base cs num g off s) : OrgE w' base cs num g off s := by
  obtain ⟨b, c, e, h0, g0, l0, h1, g1, l1, h2, g2, l2⟩ := k
  have z := hb.size
  exact ⟨b, c, e, (only_cellE hb (by omega)).trans h0, g0, by omega, (only_cellE hb (by omega)).trans h1, g1, by omega, (only_cellE hb (by omega)).trans h2, g2, by omega⟩
theorem OrgE.mono {w : World} {base base' : Nat} {cs : Array Value} {num : Int} {g off : Nat} {s : Bool} (hb : base' ≤ base) (k : OrgE w base cs num g off s) : OrgE w base' cs num g off s := by
  obtain ⟨b, c, e, h0, g0, l0, h1, g1, l1, h2, g2, l2⟩ := k
  exact ⟨b, c, e, h0, by omega, l0, h1, by omega, l1, h2, by omega, l2⟩
/-- The five cells of such an entry, and what its functions have hold of. -/
def TokE (w : World) (base : Nat) (cs : Array Value) (num : Int) (g off : Nat) (s : Bool) : Prop :=
  ∃ b c d x : Nat, cs = #[.int .i64 num, .func (.func 110) #[] #[.pointer (some ⟨(b + 1), 0, none⟩), .pointer (some ⟨b, 0, none⟩)], .func (.func 103) #[] #[.pointer (some ⟨c, 0, none⟩)], .func (.func 111) #[] #[.pointer (some ⟨b, 0, none⟩)], .func (.func 104) #[] #[.pointer (some ⟨c, 0, none⟩), .pointer (some ⟨x, 0, none⟩)]] ∧ w.cell? ⟨b, 0, none⟩ = some (.pointer (some ⟨g, off, none⟩)) ∧ base ≤ b ∧ b < w.heap.size ∧ w.cell? ⟨(b + 1), 0, none⟩ = some (.func (.func 102) #[] #[.pointer (some ⟨d, 0, none⟩)]) ∧ base ≤ (b + 1) ∧ (b + 1) < w.heap.size ∧ w.cell? ⟨c, 0, none⟩ = some (.pointer (some ⟨g, off, none⟩)) ∧ base ≤ c ∧ c < w.heap.size ∧ w.cell? ⟨d, 0, none⟩ = some (.bool s) ∧ base ≤ d ∧ d < w.heap.size ∧ w.cell? ⟨x, 0, none⟩ = some (.func (.func 103) #[] #[.pointer (some ⟨c, 0, none⟩)]) ∧ base ≤ x ∧ x < w.heap.size
theorem TokE.below {w w' : World} {base : Nat} {cs : Array Value} {num : Int} {g off : Nat} {s : Bool} (hb : Below w.heap.size w w') (k : TokE w base cs num g off s) : TokE w' base cs num g off s := by
  obtain ⟨b, c, d, x, e, h0, g0, l0, h1, g1, l1, h2, g2, l2, h3, g3, l3, h4, g4, l4⟩ := k
  have z := hb.size
  exact ⟨b, c, d, x, e, (hb.cell (p := ⟨b, 0, none⟩) l0).trans h0, g0, by omega, (hb.cell (p := ⟨(b + 1), 0, none⟩) l1).trans h1, g1, by omega, (hb.cell (p := ⟨c, 0, none⟩) l2).trans h2, g2, by omega, (hb.cell (p := ⟨d, 0, none⟩) l3).trans h3, g3, by omega, (hb.cell (p := ⟨x, 0, none⟩) l4).trans h4, g4, by omega⟩
theorem TokE.only {w w' : World} {base q : Nat} {cs : Array Value} {num : Int} {g off : Nat} {s : Bool} (hb : Only (some q) w w') (hq : q < base) (k : TokE w base cs num g off s) : TokE w' base cs num g off s := by
  obtain ⟨b, c, d, x, e, h0, g0, l0, h1, g1, l1, h2, g2, l2, h3, g3, l3, h4, g4, l4⟩ := k
  have z := hb.size
  exact ⟨b, c, d, x, e, (only_cellE hb (by omega)).trans h0, g0, by omega, (only_cellE hb (by omega)).trans h1, g1, by omega, (only_cellE hb (by omega)).trans h2, g2, by omega, (only_cellE hb (by omega)).trans h3, g3, by omega, (only_cellE hb (by omega)).trans h4, g4, by omega⟩
theorem TokE.mono {w : World} {base base' : Nat} {cs : Array Value} {num : Int} {g off : Nat} {s : Bool} (hb : base' ≤ base) (k : TokE w base cs num g off s) : TokE w base' cs num g off s := by
  obtain ⟨b, c, d, x, e, h0, g0, l0, h1, g1, l1, h2, g2, l2, h3, g3, l3, h4, g4, l4⟩ := k
  exact ⟨b, c, d, x, e, h0, by omega, l0, h1, by omega, l1, h2, by omega, l2, h3, by omega, l3, h4, by omega, l4⟩
/-- The five cells of such an entry, and what its functions have hold of. -/
def FlgE (w : World) (base : Nat) (cs : Array Value) (num : Int) (g off : Nat) : Prop :=
  ∃ b : Nat, cs = #[.int .i64 num, .func (.func 98) #[] #[], .func (.func 105) #[] #[.pointer (some ⟨b, 0, none⟩)], .func (.func 106) #[] #[], .func (.func 107) #[] #[.pointer (some ⟨b, 0, none⟩)]] ∧ w.cell? ⟨b, 0, none⟩ = some (.pointer (some ⟨g, off, none⟩)) ∧ base ≤ b ∧ b < w.heap.size
theorem FlgE.below {w w' : World} {base : Nat} {cs : Array Value} {num : Int} {g off : Nat} (hb : Below w.heap.size w w') (k : FlgE w base cs num g off) : FlgE w' base cs num g off := by
  obtain ⟨b, e, h0, g0, l0⟩ := k
  have z := hb.size
  exact ⟨b, e, (hb.cell (p := ⟨b, 0, none⟩) l0).trans h0, g0, by omega⟩
theorem FlgE.only {w w' : World} {base q : Nat} {cs : Array Value} {num : Int} {g off : Nat} (hb : Only (some q) w w') (hq : q < base) (k : FlgE w base cs num g off) : FlgE w' base cs num g off := by
  obtain ⟨b, e, h0, g0, l0⟩ := k
  have z := hb.size
  exact ⟨b, e, (only_cellE hb (by omega)).trans h0, g0, by omega⟩
theorem FlgE.mono {w : World} {base base' : Nat} {cs : Array Value} {num : Int} {g off : Nat} (hb : base' ≤ base) (k : FlgE w base cs num g off) : FlgE w base' cs num g off := by
  obtain ⟨b, e, h0, g0, l0⟩ := k
  exact ⟨b, e, h0, by omega, l0⟩
theorem newAt1 (w : World) (o : Obj) (k : Nat) (h : w.heap.size = k) : (w.alloc o).heap[k]? = some o := by subst h; exact heap_alloc_new w o
theorem cell_new {w : World} {v : Value} {t : TypeId} {g : Nat} (h : w.heap[g]? = some (.cells #[v] t (0, 0))) : w.cell? ⟨g, 0, none⟩ = some v := by rw [bk_cell h]; rfl
abbrev Enz : Obj := .cells #[.int .i64 0, .nilFunc, .nilFunc, .nilFunc, .nilFunc] 105 (0, 0)
theorem ent_end {W w3 : World} {o : Obj} {k : Nat} (hk : W.heap.size = k) (m3 : Only (some k) (W.alloc o) w3) : Below W.heap.size W w3 := by
  subst hk
  refine ((Below.refl _ _).alloc (Nat.le_refl _) o).trans ⟨m3.os, m3.tape, m3.output, Nat.le_of_eq m3.size.symm, fun k hk => m3.block k (fun e => ?_)⟩
  have := Option.some.inj e
  omega
/-- Blocks of one cell, laid one behind the other. -/
theorem laid1 (w : World) (v : Value) (t : TypeId) : (w.alloc (.cells #[v] t)).cell? ⟨w.heap.size, 0, none⟩ = some v := cell_new (t := t) (newAt1 _ _ _ rfl)

set_option maxRecDepth 20000 in
theorem numEntryC (num : Int) (g off : Nat) (l h : Int) (w : World) :
    Calls Tryz.prog 85 #[.int .i64 num, .pointer (some ⟨g, off, none⟩), .int .i64 l, .int .i64 h] w fun e w' => ∃ cs, e = .returned (.agg cs) ∧ NumE w' w.heap.size cs num g off l h ∧ Below w.heap.size w w' := by
  obtain ⟨w1, e1⟩ : ∃ w1, w1 = ((w.alloc (.cells #[.pointer (some ⟨g, off, none⟩)] 116)).alloc (.cells #[.int .i64 l] 3)).alloc (.cells #[.int .i64 h] 3) := ⟨_, rfl⟩
  have s1 : w1.heap.size = w.heap.size + 3 := by rw [e1]; simp
  have b1 : Below w.heap.size w w1 := by rw [e1]; exact (((Below.refl _ _).alloc (Nat.le_refl _) _).alloc (by simp) _).alloc (by simp; omega) _
  have c0 : w1.cell? ⟨w.heap.size, 0, none⟩ = some (.pointer (some ⟨g, off, none⟩)) := by
    rw [e1]; refine cell_new (t := 116) ?_
    rw [Below.heap_alloc _ _ _ (by simp; omega), Below.heap_alloc _ _ _ (by simp)]; exact newAt1 _ _ _ rfl
  have c1 : w1.cell? ⟨w.heap.size + 1, 0, none⟩ = some (.int .i64 l) := by
    rw [e1]; refine cell_new (t := 3) ?_
    rw [Below.heap_alloc _ _ _ (by simp)]; exact newAt1 _ _ _ (by simp)
  have c2 : w1.cell? ⟨w.heap.size + 2, 0, none⟩ = some (.int .i64 h) := by
    rw [e1]; refine cell_new (t := 3) ?_
    exact newAt1 _ _ _ (by simp)
  have H0 : Hid _ := And.intro e1 (And.intro s1 (And.intro b1 (And.intro c0 (And.intro c1 c2))))
  clear e1 s1 b1 c0 c1 c2
  go_enter Tryz.func85, Tryz.ntmps85
  go_wp2_with (refine wpList_store_atE rfl 105 (.tmp 8) (.tmp 13) rfl (w.heap.size + 1 + 1 + 1) _ rfl rfl 105 _ (newAt1 _ _ _ (by simp)) infoEn rfl (by simp [Value.oneCell']) ?_; intro w3 h3 m3)
  rw [← H0.out.1] at m3
  have B3 := ent_end (H0.out.2.1) m3
  try simp only [Exit.inBlock, Exit.then]
  refine bodyPost_ret (v := .agg #[.int .i64 num, .func (.func 97) #[] #[.pointer (some ⟨w.heap.size, 0, none⟩), .pointer (some ⟨w.heap.size + 1, 0, none⟩), .pointer (some ⟨w.heap.size + 2, 0, none⟩)], .func (.func 98) #[] #[], .func (.func 99) #[] #[.pointer (some ⟨w.heap.size, 0, none⟩)], .func (.func 100) #[] #[.pointer (some ⟨w.heap.size, 0, none⟩)]]) ?_ rfl ?_
  · exact results_cell_row (t := 105) rfl _ _ (w.heap.size + 1 + 1 + 1) _ (fr := (0, 0)) _ rfl h3 Tryz.underlying105 rfl infoEn
  · have z := H0.out.2.1
    exact ⟨_, rfl, NumE.below B3 ⟨w.heap.size, rfl, H0.out.2.2.2.1, by omega, by omega, H0.out.2.2.2.2.1, by omega, by omega, H0.out.2.2.2.2.2, by omega, by omega⟩, H0.out.2.2.1.trans (B3.mono H0.out.2.2.1.size)⟩

set_option maxRecDepth 20000 in
theorem lstEntryC (num : Int) (g off : Nat) (fn : Nat) (cp : Array Value) (w : World) :
    Calls Tryz.prog 94 #[.int .i64 num, .pointer (some ⟨g, off, none⟩), .func (.func fn) #[] cp] w fun e w' => ∃ cs, e = .returned (.agg cs) ∧ LstE w' w.heap.size cs num g off (.func (.func fn) #[] cp) ∧ Below w.heap.size w w' := by
  obtain ⟨w1, e1⟩ : ∃ w1, w1 = (w.alloc (.cells #[.pointer (some ⟨g, off, none⟩)] 114)).alloc (.cells #[.func (.func fn) #[] cp] 68) := ⟨_, rfl⟩
  have s1 : w1.heap.size = w.heap.size + 2 := by rw [e1]; simp
  have b1 : Below w.heap.size w w1 := by rw [e1]; exact ((Below.refl _ _).alloc (Nat.le_refl _) _).alloc (by simp) _
  have c0 : w1.cell? ⟨w.heap.size, 0, none⟩ = some (.pointer (some ⟨g, off, none⟩)) := by
    rw [e1]; refine cell_new (t := 114) ?_
    rw [Below.heap_alloc _ _ _ (by simp)]; exact newAt1 _ _ _ rfl
  have c1 : w1.cell? ⟨w.heap.size + 1, 0, none⟩ = some (.func (.func fn) #[] cp) := by
    rw [e1]; refine cell_new (t := 68) ?_
    exact newAt1 _ _ _ (by simp)
  have H0 : Hid _ := And.intro e1 (And.intro s1 (And.intro b1 (And.intro c0 c1)))
  clear e1 s1 b1 c0 c1
  go_enter Tryz.func94, Tryz.ntmps94
  go_wp2_with (refine wpList_store_atE rfl 105 (.tmp 6) (.tmp 11) rfl (w.heap.size + 1 + 1) _ rfl rfl 105 _ (newAt1 _ _ _ (by simp)) infoEn rfl (by simp [Value.oneCell']) ?_; intro w3 h3 m3)
  rw [← H0.out.1] at m3
  have B3 := ent_end (H0.out.2.1) m3
  try simp only [Exit.inBlock, Exit.then]
  refine bodyPost_ret (v := .agg #[.int .i64 num, .func (.func 110) #[] #[.pointer (some ⟨w.heap.size + 1, 0, none⟩), .pointer (some ⟨w.heap.size, 0, none⟩)], .func (.func 98) #[] #[], .func (.func 111) #[] #[.pointer (some ⟨w.heap.size, 0, none⟩)], .func (.func 112) #[] #[.pointer (some ⟨w.heap.size, 0, none⟩)]]) ?_ rfl ?_
  · exact results_cell_row (t := 105) rfl _ _ (w.heap.size + 1 + 1) _ (fr := (0, 0)) _ rfl h3 Tryz.underlying105 rfl infoEn
  · have z := H0.out.2.1
    exact ⟨_, rfl, LstE.below B3 ⟨w.heap.size, rfl, H0.out.2.2.2.1, by omega, by omega, H0.out.2.2.2.2, by omega, by omega⟩, H0.out.2.2.1.trans (B3.mono H0.out.2.2.1.size)⟩

set_option maxRecDepth 20000 in
theorem flgEntryC (num : Int) (g off : Nat) (w : World) :
    Calls Tryz.prog 87 #[.int .i64 num, .pointer (some ⟨g, off, none⟩)] w fun e w' => ∃ cs, e = .returned (.agg cs) ∧ FlgE w' w.heap.size cs num g off ∧ Below w.heap.size w w' := by
  obtain ⟨w1, e1⟩ : ∃ w1, w1 = w.alloc (.cells #[.pointer (some ⟨g, off, none⟩)] 118) := ⟨_, rfl⟩
  have s1 : w1.heap.size = w.heap.size + 1 := by rw [e1]; simp
  have b1 : Below w.heap.size w w1 := by rw [e1]; exact (Below.refl _ _).alloc (Nat.le_refl _) _
  have c0 : w1.cell? ⟨w.heap.size, 0, none⟩ = some (.pointer (some ⟨g, off, none⟩)) := by rw [e1]; exact laid1 _ _ _
  have H0 : Hid _ := And.intro e1 (And.intro s1 (And.intro b1 c0))
  clear e1 s1 b1 c0
  go_enter Tryz.func87, Tryz.ntmps87
  go_wp2_with (refine wpList_store_atE rfl 105 (.tmp 4) (.tmp 8) rfl (w.heap.size + 1) _ rfl rfl 105 _ (newAt1 _ _ _ (by simp)) infoEn rfl (by simp [Value.oneCell']) ?_; intro w3 h3 m3)
  rw [← H0.out.1] at m3
  have B3 := ent_end (H0.out.2.1) m3
  try simp only [Exit.inBlock, Exit.then]
  refine bodyPost_ret (v := .agg #[.int .i64 num, .func (.func 98) #[] #[], .func (.func 105) #[] #[.pointer (some ⟨w.heap.size, 0, none⟩)], .func (.func 106) #[] #[], .func (.func 107) #[] #[.pointer (some ⟨w.heap.size, 0, none⟩)]]) ?_ rfl ?_
  · exact results_cell_row (t := 105) rfl _ _ (w.heap.size + 1) _ (fr := (0, 0)) _ rfl h3 Tryz.underlying105 rfl infoEn
  · have z := H0.out.2.1
    exact ⟨_, rfl, FlgE.below B3 ⟨w.heap.size, rfl, H0.out.2.2.2, by omega, by omega⟩, H0.out.2.2.1.trans (B3.mono H0.out.2.2.1.size)⟩

theorem below_only {B q : Nat} {w w' : World} (h : Only (some q) w w') (hq : B ≤ q) : Below B w w' :=
  ⟨h.os, h.tape, h.output, Nat.le_of_eq h.size.symm, fun k hk => h.block k (fun e => by have := Option.some.inj e; omega)⟩
set_option maxRecDepth 20000 in
theorem fstEntryC (num : Int) (g off : Nat) (w : World) :
    Calls Tryz.prog 88 #[.int .i64 num, .pointer (some ⟨g, off, none⟩)] w fun e w' => ∃ cs, e = .returned (.agg cs) ∧ LstE w' w.heap.size cs num g off (.func (.func 108) #[] #[]) ∧ Below w.heap.size w w' := by
  have b0 := (Below.refl w.heap.size w).alloc (Nat.le_refl _) Enz
  have H0 : Hid _ := And.intro (lstEntryC num g off 108 #[] (w.alloc Enz)) b0
  clear b0
  go_enter Tryz.func88, Tryz.ntmps88
  go_wp2_with fail
  go_at_call 94
  refine H0.out.1.mono ?_
  rintro e w1 ⟨cs, rfl, hE, b1⟩
  rw [World.size_alloc] at hE
  obtain ⟨b, rfl, k⟩ := hE
  have g1 : w1.heap[w.heap.size]? = some Enz := (b1.block w.heap.size (by simp)).trans (heap_alloc_new w _)
  have H1 : Hid _ := And.intro (show LstE w1 (w.heap.size + 1) _ num g off (.func (.func 108) #[] #[]) from ⟨b, rfl, k⟩) (And.intro g1 (H0.out.2.trans (b1.mono H0.out.2.size)))
  clear k b1 g1
  go_wp2_with (refine wpList_store_atE rfl 105 (.tmp 4) (.tmp 7) rfl w.heap.size _ rfl rfl 105 _ H1.out.2.1 infoEn rfl (by simp [Value.oneCell']) ?_; intro w3 h3 m3)
  try simp only [Exit.inBlock, Exit.then]
  refine bodyPost_ret (v := .agg #[.int .i64 num, .func (.func 110) #[] #[.pointer (some ⟨b + 1, 0, none⟩), .pointer (some ⟨b, 0, none⟩)], .func (.func 98) #[] #[], .func (.func 111) #[] #[.pointer (some ⟨b, 0, none⟩)], .func (.func 112) #[] #[.pointer (some ⟨b, 0, none⟩)]]) ?_ rfl ?_
  · exact results_cell_row (t := 105) rfl _ _ w.heap.size _ (fr := (0, 0)) _ rfl h3 Tryz.underlying105 rfl infoEn
  · exact ⟨_, rfl, (LstE.only m3 (by omega) H1.out.1).mono (by omega), H1.out.2.2.trans (below_only m3 (Nat.le_refl _))⟩
set_option maxRecDepth 20000 in
theorem orgEntryC (num : Int) (g off : Nat) (s : Bool) (w : World) :
    Calls Tryz.prog 84 #[.int .i64 num, .pointer (some ⟨g, off, none⟩), .bool s] w fun e w' => ∃ cs, e = .returned (.agg cs) ∧ OrgE w' w.heap.size cs num g off s ∧ Below w.heap.size w w' := by
  have b0 := ((Below.refl w.heap.size w).alloc (Nat.le_refl _) (.cells #[.bool s] 4)).alloc (by simp) Enz
  have s0 : ((w.alloc (.cells #[.bool s] 4)).alloc Enz).heap.size = w.heap.size + 2 := by simp
  have c0 : ((w.alloc (.cells #[.bool s] 4)).alloc Enz).cell? ⟨w.heap.size, 0, none⟩ = some (.bool s) := by
    refine cell_new (t := 4) ?_
    rw [Below.heap_alloc _ _ _ (by simp)]; exact newAt1 _ _ _ rfl
  have g0 : ((w.alloc (.cells #[.bool s] 4)).alloc Enz).heap[w.heap.size + 1]? = some Enz := newAt1 _ _ _ (by simp)
  have H0 : Hid _ := And.intro (lstEntryC num g off 95 #[.pointer (some ⟨w.heap.size, 0, none⟩)] ((w.alloc (.cells #[.bool s] 4)).alloc Enz)) (And.intro b0 (And.intro s0 (And.intro c0 g0)))
  clear b0 s0 c0 g0
  go_enter Tryz.func84, Tryz.ntmps84
  go_wp2_with fail
  go_at_call 94
  refine H0.out.1.mono ?_
  rintro e w1 ⟨cs, rfl, hE, b1⟩
  have z0 := H0.out.2.2.1
  rw [z0] at hE
  obtain ⟨b, rfl, k1, k2, k3, k4, k5, k6⟩ := hE
  have z1 := b1.size
  rw [z0] at z1
  have g1 : w1.heap[w.heap.size + 1]? = some Enz := (b1.block _ (by rw [z0]; omega)).trans H0.out.2.2.2.2
  have c1 : w1.cell? ⟨w.heap.size, 0, none⟩ = some (.bool s) := (b1.cell (p := ⟨w.heap.size, 0, none⟩) (by show w.heap.size < _; rw [z0]; omega)).trans H0.out.2.2.2.1
  have H1 : Hid _ := And.intro (And.intro k1 (And.intro k2 (And.intro k3 (And.intro k4 (And.intro k5 (And.intro k6 c1)))))) (And.intro g1 (And.intro (H0.out.2.1.trans (b1.mono H0.out.2.1.size)) z1))
  clear k1 k2 k3 k4 k5 k6 b1 g1 c1 z0 z1
  go_wp2_with (first
    | (refine wpList_store_atE rfl 105 (.tmp 7) (.tmp 11) rfl w1.heap.size _ rfl rfl 105 _ (newAt1 _ _ _ rfl) infoEn rfl (by simp [Value.oneCell']) ?_; intro w2 h2 m2; have f2 := bk_free h2 2; have d0 : w2.cell? ⟨w1.heap.size, 0, none⟩ = some (.int .i64 num) := (by rw [bk_cell h2]; rfl); have d1 : w2.cell? ⟨w1.heap.size, 1, none⟩ = some (.func (.func 110) #[] #[.pointer (some ⟨b + 1, 0, none⟩), .pointer (some ⟨b, 0, none⟩)]) := (by rw [bk_cell h2]; rfl); have d2 : w2.cell? ⟨w1.heap.size, 2, none⟩ = some (.func (.func 98) #[] #[]) := (by rw [bk_cell h2]; rfl); have d3 : w2.cell? ⟨w1.heap.size, 3, none⟩ = some (.func (.func 111) #[] #[.pointer (some ⟨b, 0, none⟩)]) := (by rw [bk_cell h2]; rfl); have d4 : w2.cell? ⟨w1.heap.size, 4, none⟩ = some (.func (.func 112) #[] #[.pointer (some ⟨b, 0, none⟩)]) := (by rw [bk_cell h2]; rfl))
    | (refine wpList_store_atE rfl 105 (.tmp 6) (.tmp 14) rfl (w.heap.size + 1) _ rfl rfl 105 _ ((bk_other (by have := H1.out.2.2.2; omega) 2 _).trans ((m2.block (w.heap.size + 1) (fun e => by have := Option.some.inj e; have := H1.out.2.2.2; omega)).trans ((Below.heap_alloc _ _ _ (by have := H1.out.2.2.2; omega)).trans H1.out.2.1))) infoEn rfl (by simp [Value.oneCell']) ?_; intro w3 h3 m3))
  have z1 := H1.out.2.2.2
  have O2 := Only.setCell (w := w2) ⟨w1.heap.size, 2, none⟩ (.func (.func 96) #[] #[.pointer (some ⟨w.heap.size, 0, none⟩)])
  have B2 := ent_end rfl (m2.trans O2)
  have E : OrgE w3 w.heap.size #[.int .i64 num, .func (.func 110) #[] #[.pointer (some ⟨b + 1, 0, none⟩), .pointer (some ⟨b, 0, none⟩)], .func (.func 96) #[] #[.pointer (some ⟨w.heap.size, 0, none⟩)], .func (.func 111) #[] #[.pointer (some ⟨b, 0, none⟩)], .func (.func 112) #[] #[.pointer (some ⟨b, 0, none⟩)]] num g off s := by
    obtain ⟨k1, k2, k3, k4, k5, k6, c1⟩ := H1.out.1
    have z2 := B2.size
    have z3 := m3.size
    have kk : ∀ a, a ≠ w.heap.size + 1 → a < w1.heap.size → ∀ v, w1.cell? ⟨a, 0, none⟩ = some v → w3.cell? ⟨a, 0, none⟩ = some v := fun a h1 h2 v h => (only_cellE m3 h1).trans ((B2.cell (p := ⟨a, 0, none⟩) h2).trans h)
    exact ⟨b, w.heap.size, rfl, kk _ (by omega) (by omega) _ k1, by omega, by omega, kk _ (by omega) (by omega) _ k4, by omega, by omega, kk _ (by omega) (by omega) _ c1, by omega, by omega⟩
  try simp only [Exit.inBlock, Exit.then]
  refine bodyPost_ret (v := .agg #[.int .i64 num, .func (.func 110) #[] #[.pointer (some ⟨b + 1, 0, none⟩), .pointer (some ⟨b, 0, none⟩)], .func (.func 96) #[] #[.pointer (some ⟨w.heap.size, 0, none⟩)], .func (.func 111) #[] #[.pointer (some ⟨b, 0, none⟩)], .func (.func 112) #[] #[.pointer (some ⟨b, 0, none⟩)]]) ?_ rfl ?_
  · exact results_cell_row (t := 105) rfl _ _ (w.heap.size + 1) _ (fr := (0, 0)) _ rfl h3 Tryz.underlying105 rfl infoEn
  · exact ⟨_, rfl, E, (H1.out.2.2.1.trans (B2.mono H1.out.2.2.1.size)).trans (below_only m3 (by omega))⟩

set_option maxRecDepth 20000 in
theorem tokEntryC (num : Int) (g off : Nat) (s : Bool) (w : World) :
    Calls Tryz.prog 86 #[.int .i64 num, .pointer (some ⟨g, off, none⟩), .bool s] w fun e w' => ∃ cs, e = .returned (.agg cs) ∧ TokE w' w.heap.size cs num g off s ∧ Below w.heap.size w w' := by
  obtain ⟨wa, ea⟩ : ∃ wa, wa = ((w.alloc (.cells #[.pointer (some ⟨g, off, none⟩)] 114)).alloc (.cells #[.bool s] 4)).alloc Enz := ⟨_, rfl⟩
  have s0 : wa.heap.size = w.heap.size + 3 := by rw [ea]; simp
  have b0 : Below w.heap.size w wa := by rw [ea]; exact (((Below.refl _ _).alloc (Nat.le_refl _) _).alloc (by simp) _).alloc (by simp; omega) _
  have c0 : wa.cell? ⟨w.heap.size, 0, none⟩ = some (.pointer (some ⟨g, off, none⟩)) := by
    rw [ea]; refine cell_new (t := 114) ?_
    rw [Below.heap_alloc _ _ _ (by simp; omega), Below.heap_alloc _ _ _ (by simp)]; exact newAt1 _ _ _ rfl
  have c1 : wa.cell? ⟨w.heap.size + 1, 0, none⟩ = some (.bool s) := by
    rw [ea]; refine cell_new (t := 4) ?_
    rw [Below.heap_alloc _ _ _ (by simp)]; exact newAt1 _ _ _ (by simp)
  have g0 : wa.heap[w.heap.size + 2]? = some Enz := by rw [ea]; exact newAt1 _ _ _ (by simp)
  have C := lstEntryC num g off 102 #[.pointer (some ⟨w.heap.size + 1, 0, none⟩)] wa
  have H0 : Hid _ := And.intro C (And.intro b0 (And.intro s0 (And.intro c0 (And.intro c1 (And.intro g0 ea)))))
  clear b0 s0 c0 c1 g0 C ea
  go_enter Tryz.func86, Tryz.ntmps86
  go_wp2_with fail
  rw [← H0.out.2.2.2.2.2.2]
  go_at_call 94
  refine H0.out.1.mono ?_
  rintro e w1 ⟨cs, rfl, hE, b1⟩
  have z0 := H0.out.2.2.1
  rw [z0] at hE
  obtain ⟨b, rfl, k1, k2, k3, k4, k5, k6⟩ := hE
  have z1 := b1.size
  rw [z0] at z1
  have g1 : w1.heap[w.heap.size + 2]? = some Enz := (b1.block _ (by rw [z0]; omega)).trans H0.out.2.2.2.2.2.1
  have c0 : w1.cell? ⟨w.heap.size, 0, none⟩ = some (.pointer (some ⟨g, off, none⟩)) := (b1.cell (p := ⟨w.heap.size, 0, none⟩) (by show w.heap.size < _; rw [z0]; omega)).trans H0.out.2.2.2.1
  have c1 : w1.cell? ⟨w.heap.size + 1, 0, none⟩ = some (.bool s) := (b1.cell (p := ⟨w.heap.size + 1, 0, none⟩) (by show w.heap.size + 1 < _; rw [z0]; omega)).trans H0.out.2.2.2.2.1
  have H1 : Hid _ := And.intro (And.intro k1 (And.intro k2 (And.intro k3 (And.intro k4 (And.intro k5 (And.intro k6 (And.intro c0 c1))))))) (And.intro g1 (And.intro (H0.out.2.1.trans (b1.mono H0.out.2.1.size)) z1))
  clear k1 k2 k3 k4 k5 k6 b1 g1 c0 c1 z0 z1
  go_wp2_with (refine wpList_store_atE rfl 105 (.tmp 6) (.tmp 18) rfl (w.heap.size + 1 + 1) _ rfl rfl 105 _ ((Below.heap_alloc _ _ _ (by have := H1.out.2.2.2; simp; omega)).trans ((Below.heap_alloc _ _ _ (by have := H1.out.2.2.2; omega)).trans H1.out.2.1)) infoEn rfl (by simp [Value.oneCell']) ?_; intro w3 h3 m3)
  have z1 := H1.out.2.2.2
  obtain ⟨w2, e2⟩ : ∃ w2, w2 = (w1.alloc (.cells #[.int .i64 num, .func (.func 110) #[] #[.pointer (some ⟨b + 1, 0, none⟩), .pointer (some ⟨b, 0, none⟩)], .func (.func 103) #[] #[.pointer (some ⟨w.heap.size, 0, none⟩)], .func (.func 111) #[] #[.pointer (some ⟨b, 0, none⟩)], .func (.func 104) #[] #[.pointer (some ⟨w.heap.size, 0, none⟩), .pointer (some ⟨w1.heap.size + 1, 0, none⟩)]] 105)).alloc (.cells #[.func (.func 103) #[] #[.pointer (some ⟨w.heap.size, 0, none⟩)]] 101) := ⟨_, rfl⟩
  rw [← e2] at m3
  have B2 : Below w1.heap.size w1 w2 := by rw [e2]; exact ((Below.refl _ _).alloc (Nat.le_refl _) _).alloc (by simp) _
  have s2 : w2.heap.size = w1.heap.size + 2 := by rw [e2]; simp
  have x2 : w2.cell? ⟨w1.heap.size + 1, 0, none⟩ = some (.func (.func 103) #[] #[.pointer (some ⟨w.heap.size, 0, none⟩)]) := by rw [e2]; exact cell_new (t := 101) (newAt1 _ _ _ (by simp))
  have E : TokE w3 w.heap.size #[.int .i64 num, .func (.func 110) #[] #[.pointer (some ⟨b + 1, 0, none⟩), .pointer (some ⟨b, 0, none⟩)], .func (.func 103) #[] #[.pointer (some ⟨w.heap.size, 0, none⟩)], .func (.func 111) #[] #[.pointer (some ⟨b, 0, none⟩)], .func (.func 104) #[] #[.pointer (some ⟨w.heap.size, 0, none⟩), .pointer (some ⟨w1.heap.size + 1, 0, none⟩)]] num g off s := by
    obtain ⟨k1, k2, k3, k4, k5, k6, c0, c1⟩ := H1.out.1
    have z3 := m3.size
    have kk : ∀ a, a ≠ w.heap.size + 1 + 1 → a < w1.heap.size → ∀ v, w1.cell? ⟨a, 0, none⟩ = some v → w3.cell? ⟨a, 0, none⟩ = some v := fun a h1 h2 v h => (only_cellE m3 h1).trans ((B2.cell (p := ⟨a, 0, none⟩) h2).trans h)
    exact ⟨b, w.heap.size, w.heap.size + 1, w1.heap.size + 1, rfl, kk _ (by omega) (by omega) _ k1, by omega, by omega, kk _ (by omega) (by omega) _ k4, by omega, by omega, kk _ (by omega) (by omega) _ c0, by omega, by omega, kk _ (by omega) (by omega) _ c1, by omega, by omega, (only_cellE m3 (by omega)).trans x2, by omega, by omega⟩
  try simp only [Exit.inBlock, Exit.then]
  refine bodyPost_ret (v := .agg #[.int .i64 num, .func (.func 110) #[] #[.pointer (some ⟨b + 1, 0, none⟩), .pointer (some ⟨b, 0, none⟩)], .func (.func 103) #[] #[.pointer (some ⟨w.heap.size, 0, none⟩)], .func (.func 111) #[] #[.pointer (some ⟨b, 0, none⟩)], .func (.func 104) #[] #[.pointer (some ⟨w.heap.size, 0, none⟩), .pointer (some ⟨w1.heap.size + 1, 0, none⟩)]]) ?_ rfl ?_
  · exact results_cell_row (t := 105) rfl _ _ (w.heap.size + 1 + 1) _ (fr := (0, 0)) _ rfl h3 Tryz.underlying105 rfl infoEn
  · exact ⟨_, rfl, E, (H1.out.2.2.1.trans (B2.mono H1.out.2.2.1.size)).trans (below_only m3 (by omega))⟩

end Go.Proofs.YteggfkekgdlecaaGreatDoor

namespace Go.Proofs.YteggfkekgdlecaaGreatDoor
open Go.RowKit
set_option linter.unusedVariables false

set_option maxRecDepth 20000 in
set_option maxHeartbeats 1000000 in
theorem putN1 (base : Nat) (vo : Value) (xs : List Int) (n : Int) (g : Nat) (w : World) (ht : Tab w) (ho : w.ownsRow base 5 1 vo xs.length (xs.map (Value.int .u8))) (hb : base ≤ w.heap.size) (hx : xs.length ≤ 1000000) (h0 : 0 ≤ n) (h1 : n ≤ 4611686018427387903) (hc : w.cell? ⟨g, 0, none⟩ = some (.int .i64 n)) :
    Calls Tryz.prog 75 #[vo, .slice (some ⟨g, 0, none⟩) 1 1] w fun e w' => ∃ r, e = .returned r ∧ w'.ownsRow base 5 1 r (xs ++ putv n).length ((xs ++ putv n).map (Value.int .u8)) ∧ GrW w w' vo r := by
  have HH : Hid _ := And.intro ho (And.intro (implPutVar n w ht h0 h1) (And.intro hb (putv_le n h0 h1)))
  clear ho hb ht
  go_enter Tryz.func75, Tryz.ntmps75
  go_wp2
  refine wp_loop_rounds 2 ?_
  rw [rounds_succ]
  go_wp2_with (first
    | (go_at_call 83; refine HH.out.2.1.mono ?_; rintro e w1 ⟨r1, rfl, o1, b1⟩; have H1 : Hid _ := And.intro (row_of_owns o1) b1; clear o1 b1)
    | (at_builtin; refine wpList_append_loc rfl (.tmp 20) (.tmp 21) rfl base _ xs rfl (owns_below HH.out.1 H1.out.2) _ (putv n) rfl H1.out.1 (by have := HH.out.2.2.2; omega) (Nat.le_trans HH.out.2.2.1 H1.out.2.size) ?_; intro q2 w2 o2 g2; have H2 : Hid _ := And.intro o2 (GrW.after H1.out.2 g2); clear o2 g2))
  rw [rounds_succ]
  go_wp2
  go_ret
  exact ⟨_, rfl, H2.out.1, H2.out.2⟩
theorem Tab.al {w : World} (h : Tab w) (o : Obj) : Tab (w.alloc o) := h.below ((Below.refl _ _).alloc (Nat.le_refl _) o) h.lt
set_option maxRecDepth 20000 in
set_option maxHeartbeats 1000000 in
theorem putC1 (base : Nat) (vo vv : Value) (xs ys : List Int) (g : Nat) (w : World) (ht : Tab w) (ho : w.ownsRow base 5 1 vo xs.length (xs.map (Value.int .u8))) (hv : Row w .u8 vv ys) (ha : ys ≠ [] → ∀ k, vv.ownBlock = some k → vo.ownBlock ≠ some k) (hb : base ≤ w.heap.size) (hx : xs.length ≤ 100000) (hy : ys.length ≤ 100000) (hc : w.cell? ⟨g, 0, none⟩ = some vv) :
    Calls Tryz.prog 53 #[vo, .slice (some ⟨g, 0, none⟩) 1 1] w fun e w' => ∃ r, e = .returned r ∧ w'.ownsRow base 5 1 r (xs ++ (putv ys.length ++ ys)).length ((xs ++ (putv ys.length ++ ys)).map (Value.int .u8)) ∧ GrW w w' vo r := by
  obtain ⟨ao, cap, rfl⟩ := hv.form
  have al : Below w.heap.size w (w.alloc (.cells #[.int .i64 (ys.length : Int)] 3)) := (Below.refl _ _).alloc (Nat.le_refl _) _
  have C := putN1 base vo xs ys.length w.heap.size _ (ht.al _) (owns_below ho al) (Nat.le_trans hb al.size) (by omega) (by omega) (by omega) (laid1 w (.int .i64 (ys.length : Int)) 3)
  have HH : Hid _ := And.intro C (And.intro (hv.below al) (And.intro ha (And.intro hb (And.intro (putv_le ys.length (by omega) (by omega)) al))))
  obtain ⟨n, en⟩ : ∃ n, n = ys.length := ⟨_, rfl⟩
  have EN : Hid _ := And.intro en True.intro
  have hny : n ≤ 100000 := by omega
  rw [← en] at hc ⊢
  clear C hv ha hb ho en hy ht al
  go_enter Tryz.func53, Tryz.ntmps53
  go_wp2
  refine wp_loop_rounds 2 ?_
  rw [rounds_succ]
  go_wp2_with (first
    | (go_at_call 75; rw [EN.out.1]; refine HH.out.1.mono ?_; rintro e w1 ⟨r1, rfl, o1, g1⟩; have H1 : Hid _ := And.intro o1 (And.intro g1 (GrW.after HH.out.2.2.2.2.2 g1)); clear o1 g1)
    | (at_builtin; refine wpList_append_loc rfl (.tmp 17) (.tmp 18) rfl base _ (xs ++ putv ys.length) rfl H1.out.1 _ ys (by rw [← EN.out.1]; rfl) (HH.out.2.1.chg H1.out.2.1.chg (fun hx k h e => HH.out.2.2.1 hx k h e)) (by have := HH.out.2.2.2.2.1; have := EN.out.1; rw [List.length_append]; omega) (Nat.le_trans HH.out.2.2.2.1 H1.out.2.2.chg.size) ?_; intro q2 w2 o2 g2; have H2 : Hid _ := And.intro o2 (GrW.trans H1.out.2.2 g2); clear o2 g2))
  rw [rounds_succ]
  go_wp2
  go_ret
  refine ⟨_, rfl, ?_, H2.out.2⟩
  have := H2.out.1
  rw [List.append_assoc, ← EN.out.1] at this
  exact this
set_option maxRecDepth 20000 in
theorem numVal (b g off : Nat) (x : Int) (w : World) (ht : Tab w) (x0 : 0 ≤ x) (x1 : x ≤ 4611686018427387903) (c0 : w.cell? ⟨b, 0, none⟩ = some (.pointer (some ⟨g, off, none⟩))) (cx : w.cell? ⟨g, off, none⟩ = some (.int .i64 x)) :
    Calls Tryz.prog 99 #[.pointer (some ⟨b, 0, none⟩)] w fun e w' => ∃ r, e = .returned r ∧ w'.ownsRow w.heap.size 5 1 r (putv x).length ((putv x).map (Value.int .u8)) ∧ Below w.heap.size w w' := by
  have al : Below w.heap.size w (w.alloc (.cells #[.int .i64 x] 3)) := (Below.refl _ _).alloc (Nat.le_refl _) _
  have oz : (w.alloc (.cells #[.int .i64 x] 3)).ownsRow w.heap.size 5 1 (.slice none 0 0) ([] : List Int).length (([] : List Int).map (Value.int .u8)) := World.ownsRow_nil _ _ _ _
  have C := putN1 w.heap.size (.slice none 0 0) [] x w.heap.size _ (ht.al _) oz al.size (by simp) x0 x1 (laid1 w (.int .i64 x) 3)
  have HH : Hid _ := And.intro C (And.intro al oz)
  clear C al oz ht
  go_enter Tryz.func99, Tryz.ntmps99
  go_wp2_with (go_at_call 75; refine HH.out.1.mono ?_; rintro e w1 ⟨r1, rfl, o1, g1⟩; rw [List.nil_append] at o1; have H1 : Hid _ := And.intro o1 (HH.out.2.1.trans (g1.below HH.out.2.2 HH.out.2.1.size)); clear o1 g1)
  go_ret
  exact ⟨_, rfl, H1.out.1, H1.out.2⟩
theorem lstVal (b g off : Nat) (ao : Option Addr) (n cap : Nat) (w : World) (c0 : w.cell? ⟨b, 0, none⟩ = some (.pointer (some ⟨g, off, none⟩))) (cx : w.cell? ⟨g, off, none⟩ = some (.slice ao n cap)) :
    Calls Tryz.prog 111 #[.pointer (some ⟨b, 0, none⟩)] w fun e w' => e = .returned (.slice ao n cap) ∧ w' = w := by
  go_enter Tryz.func111, Tryz.ntmps111
  go_wp2
  go_ret
  exact ⟨rfl, rfl⟩
theorem flgVal (w : World) : Calls Tryz.prog 106 #[] w fun e w' => e = .returned (.slice none 0 0) ∧ w' = w := by
  go_enter Tryz.func106, Tryz.ntmps106
  go_wp2
  go_ret
  exact ⟨rfl, rfl⟩
theorem orgTold (c : Nat) (s : Bool) (w : World) (hc : w.cell? ⟨c, 0, none⟩ = some (.bool s)) : Calls Tryz.prog 96 #[.pointer (some ⟨c, 0, none⟩)] w fun e w' => e = .returned (.bool s) ∧ w' = w := by
  go_enter Tryz.func96, Tryz.ntmps96
  go_wp2
  go_ret
  exact ⟨rfl, rfl⟩
theorem tokTold (c g off : Nat) (ao : Option Addr) (n cap : Nat) (w : World) (hn : n ≤ 9223372036854775807) (c0 : w.cell? ⟨c, 0, none⟩ = some (.pointer (some ⟨g, off, none⟩))) (cx : w.cell? ⟨g, off, none⟩ = some (.slice ao n cap)) : Calls Tryz.prog 103 #[.pointer (some ⟨c, 0, none⟩)] w fun e w' => e = .returned (.bool (decide (0 < n))) ∧ w' = w := by
  go_enter Tryz.func103, Tryz.ntmps103
  go_wp2
  go_ret
  exact ⟨by first | rfl | (simp; done) | (simp; omega), rfl⟩
theorem flgTold (b g off : Nat) (m : Bool) (w : World) (c0 : w.cell? ⟨b, 0, none⟩ = some (.pointer (some ⟨g, off, none⟩))) (cx : w.cell? ⟨g, off, none⟩ = some (.bool m)) : Calls Tryz.prog 105 #[.pointer (some ⟨b, 0, none⟩)] w fun e w' => e = .returned (.bool m) ∧ w' = w := by
  go_enter Tryz.func105, Tryz.ntmps105
  go_wp2
  go_ret
  exact ⟨rfl, rfl⟩
end Go.Proofs.YteggfkekgdlecaaGreatDoor

namespace Go.Proofs.YteggfkekgdlecaaGreatDoor
open Go.RowKit
set_option linter.unusedVariables false

theorem pok_parts (p : PP) (s : Bool) (h : pok p s = true) : (p.o.length ≤ 8 ∧ p.t.length ≤ 8 ∧ p.f.length ≤ 8) ∧ (0 ≤ p.a0 ∧ p.a0 ≤ 1000000000000) ∧ (1200 ≤ p.a1 ∧ p.a1 ≤ 2000) ∧ (1 ≤ p.a2 ∧ p.a2 ≤ 16384) ∧ (1 ≤ p.a3 ∧ p.a3 ≤ 16384) ∧ (0 ≤ p.a4 ∧ p.a4 ≤ 64) ∧ (0 ≤ p.a5 ∧ p.a5 ≤ 64) ∧ (0 ≤ p.a6 ∧ p.a6 ≤ 1000000) ∧ (2 ≤ p.a7 ∧ p.a7 ≤ 16) ∧ (0 ≤ p.a8 ∧ p.a8 ≤ 1500) := by
  unfold pok pokL at h
  simp only [List.all_cons, List.all_nil, id, Bool.and_true, Bool.true_and, Bool.and_eq_true, btw, decide_eq_true_eq] at h
  obtain ⟨h0, h1, h2, h3, h4, h5, h6, h7, h8, h10, h11, h12⟩ := h
  have e0 : p.o.length ≤ 8 := by generalize p.o.length = no at h0 ⊢; cases s <;> simp at h0 <;> omega
  have e2 : p.t.length ≤ 8 := by generalize p.t.length = nt at h2 ⊢; cases s <;> simp at h2 <;> omega
  exact ⟨⟨e0, e2, h11⟩, h1, h3, h4, h5, h6, h7, h8, h10, h12⟩
theorem parL_le (p : PP) (s : Bool) (h : pok p s = true) (k : Nat) : ((parL p s).getD k []).length ≤ 24 := by
  obtain ⟨⟨e0, e2, e1⟩, h0, h1, h2, h3, h4, h5, h6, h7, h8⟩ := pok_parts p s h
  have pe : ∀ (n x : Int), 0 ≤ n → n ≤ 63 → 0 ≤ x → x ≤ 4611686018427387903 → (entB n (putv x)).length ≤ 24 := fun n x a b c d => entB_le n _ a b (putv_le x c d)
  unfold parL
  match k with
  | 0 => simp only [List.getD, List.getElem?_cons_zero, Option.getD_some]; split; exact entB_le 0 p.o (by decide) (by decide) e0; simp
  | 1 => exact pe 1 p.a0 (by decide) (by decide) (by omega) (by omega)
  | 2 => show (if 0 < p.t.length then entB 2 p.t else []).length ≤ 24; split; exact entB_le 2 p.t (by decide) (by decide) e2; simp
  | 3 => exact pe 3 p.a1 (by decide) (by decide) (by omega) (by omega)
  | 4 => exact pe 4 p.a2 (by decide) (by decide) (by omega) (by omega)
  | 5 => exact pe 5 p.a3 (by decide) (by decide) (by omega) (by omega)
  | 6 => exact pe 8 p.a4 (by decide) (by decide) (by omega) (by omega)
  | 7 => exact pe 9 p.a5 (by decide) (by decide) (by omega) (by omega)
  | 8 => exact pe 11 p.a6 (by decide) (by decide) (by omega) (by omega)
  | 9 => show (if p.m = true then entB 12 [] else []).length ≤ 24; split; exact entB_le 12 [] (by decide) (by decide) (by simp); simp
  | 10 => exact pe 14 p.a7 (by decide) (by decide) (by omega) (by omega)
  | 11 => exact entB_le 15 p.f (by decide) (by decide) e1
  | 12 => exact pe 32 p.a8 (by decide) (by decide) (by omega) (by omega)
  | k + 13 => simp
theorem parA_le (p : PP) (s : Bool) (h : pok p s = true) : ∀ k, k ≤ 13 → (parA p s k).length ≤ 24 * k
  | 0, _ => by simp [parA]
  | k + 1, hk => by
    have := parA_le p s h k (by omega)
    have b := parL_le p s h k
    rw [parA_succ p s k (by omega), List.length_append]
    omega
theorem parB_le (p : PP) (s : Bool) (h : pok p s = true) : (parB p s).length ≤ 312 := by
  have := parA_le p s h 13 (by decide)
  rwa [parA_13] at this
/-- Where the bytes stand behind k entries. -/
structure OutK (w1 wk : World) (vo : Value) (p : PP) (s : Bool) (k : Nat) : Prop where
  own : wk.ownsRow w1.heap.size 5 1 vo (parA p s k).length ((parA p s k).map (Value.int .u8))
  bel : Below w1.heap.size w1 wk
theorem OutK.step {w1 wk wx : World} {vo r : Value} {p : PP} {s : Bool} {k : Nat} (h : OutK w1 wk vo p s k) (hk : k < 13) (ho : wx.ownsRow w1.heap.size 5 1 r (parA p s k ++ (parL p s).getD k []).length ((parA p s k ++ (parL p s).getD k []).map (Value.int .u8))) (g : GrW wk wx vo r) : OutK w1 wx r p s (k + 1) := by
  refine ⟨by rw [parA_succ p s k hk]; exact ho, h.bel.trans (g.below h.own h.bel.size)⟩
theorem OutK.skip {w1 wk : World} {vo : Value} {p : PP} {s : Bool} {k : Nat} (h : OutK w1 wk vo p s k) (hk : k < 13) (he : (parL p s).getD k [] = []) : OutK w1 wk vo p s (k + 1) := by
  refine ⟨by rw [parA_succ p s k hk, he, List.append_nil]; exact h.own, h.bel⟩

set_option maxRecDepth 20000 in
theorem pbS_bad (v : Value) (p : PP) (s : Bool) (w : World) (hr : PPRow w v p) (hs : p.small 9223372036854775807) (hno : pok p s = false) :
    Calls Tryz.prog 48 #[v, .bool s] w fun e w' => ∃ r, e = .returned (.tuple #[r, .int .i64 11]) ∧ w'.ownsRow w.heap.size 5 1 r ([] : List Int).length (([] : List Int).map (Value.int .u8)) ∧ Below w.heap.size w w' := by
  obtain ⟨d2, d3, d4, p2, p3, p4, rfl, -, -, -⟩ := hr.parts
  have b0 := (Below.refl w.heap.size w).alloc (Nat.le_refl _) (.cells #[.int .i64 p.a0, .int .i64 p.a1, .int .i64 p.a2, .int .i64 p.a3, .int .i64 p.a4, .int .i64 p.a5, .int .i64 p.a6, .int .i64 p.a7, .int .i64 p.a8, .bool p.m, .slice d2 p.o.length p2, .slice d3 p.t.length p3, .slice d4 p.f.length p4] 35)
  have C := pokS _ p s _ (hr.below b0) hs
  rw [hno] at C
  have H0 : Hid _ := And.intro C b0
  clear C b0 hr hs hno
  go_enter Tryz.func48, Tryz.ntmps48
  go_wp2_with (go_at_call 44; refine H0.out.1.mono ?_; rintro e w1 ⟨rfl, b1⟩; have H1 : Hid _ := And.intro (H0.out.2.trans (b1.mono H0.out.2.size)) True.intro; clear b1)
  go_ret2
  exact ⟨_, rfl, World.ownsRow_lit _ #[] 0 H1.out.1.size (by decide) rfl, H1.out.1.alloc H1.out.1.size _⟩

end Go.Proofs.YteggfkekgdlecaaGreatDoor
