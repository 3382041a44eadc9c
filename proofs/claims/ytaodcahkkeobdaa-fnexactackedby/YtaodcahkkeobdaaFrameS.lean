import Derived.Test.YtaodcahkkeobdaaRngOK
import Derived.Deep.CutRange
import Derived.Test.YtaodcahkkeobdaaVNum
import Derived.Test.YtaodcahkkeobdaaUsesC
import Derived.Test.YtaodcahkkeobdaaBlocks
namespace Go.Proofs.Ytaodcahkkeobdaa
open Go.RowKit
set_option linter.unusedVariables false

theorem var_n (x : Int) (w : World) (h : ¬ 0 ≤ x) : Calls Try.prog 23 #[.int .i64 x] w fun e w' => e = .returned (.bool false) ∧ w' = w := by
  replace h : decide (0 ≤ x) = false := decide_eq_false h
  go_enter Try.func23, Try.ntmps23
  go_wp2
  go_ret
  exact ⟨rfl, rfl⟩
theorem var_y (x : Int) (w : World) (h : 0 ≤ x) : Calls Try.prog 23 #[.int .i64 x] w fun e w' => e = .returned (.bool (decide (x ≤ 4611686018427387903))) ∧ w' = w := by
  go_enter Try.func23, Try.ntmps23
  go_wp2
  go_ret
  exact ⟨rfl, rfl⟩
theorem varC (x : Int) (w : World) : Calls Try.prog 23 #[.int .i64 x] w fun e w' => e = .returned (.bool (nin x)) ∧ w' = w := by
  unfold nin
  by_cases h : 0 ≤ x
  · rw [decide_eq_true h]; exact var_y x w h
  · rw [decide_eq_false h]; exact var_n x w h
def ok1 (a b c : Int) (fin kn ua ub uc uf : Bool) : Bool := kn && nin a && nin b && nin c && (ua || !(a != 0)) && (ub || !(b != 0)) && (uc || !(c != 0)) && (uf || !fin)
def ok2 (nd nt nr : Nat) (R : List (Int × Int)) (ur : Bool) (least most tok : Int) : Bool := !decide ((nd : Int) < least) && !decide (most < (nd : Int)) && !((nt : Int) != tok) && !(ur != decide (0 < (nr : Int))) && rokV R
def ok3 (k a b : Int) (nd : Nat) : Bool := if k = 0 then decide (1 ≤ a) && decide (a ≤ 1500) else if k = 18 ∨ k = 22 then decide (a ≤ 1152921504606846976) && decide (b ≤ 1) else if k = 6 then decide (a ≤ 4611686018427387903 - (nd : Int)) else if k = 8 then decide (b ≤ 4611686018427387903 - (nd : Int)) else if k = 24 then decide (b ≤ a) else true
set_option maxRecDepth 20000 in
set_option maxHeartbeats 16000000 in
theorem specOK (k a b c : Int) (fin : Bool) (ad at' ar : Option Addr) (nd pd nt pt nr pr : Nat) (R : List (Int × Int)) (kn ua ub uc uf ur : Bool) (least most tok : Int) (w : World)
    (cu : ∀ wx, Calls Try.prog 40 #[.int .i64 k] wx fun e w' => e = .returned (.agg #[.bool kn, .bool ua, .bool ub, .bool uc, .bool uf, .bool ur, .int .i64 least, .int .i64 most, .int .i64 tok]) ∧ Below wx.heap.size wx w')
    (hr : RRow w (.slice ar nr pr) R) (el : R.length = nr) (hnd : nd ≤ 9223372036854775807) (hnr : nr ≤ 9223372036854775807) :
    Calls Try.prog 33 #[.agg #[.int .i64 k, .int .i64 a, .int .i64 b, .int .i64 c, .bool fin, .slice ad nd pd, .slice at' nt pt, .slice ar nr pr]] w fun e w' => e = .returned (.bool (ok1 a b c fin kn ua ub uc uf && ok2 nd nt nr R ur least most tok && ok3 k a b nd)) ∧ Below w.heap.size w w' := by
  have B0 : Below w.heap.size w (w.alloc (.cells #[.int .i64 k, .int .i64 a, .int .i64 b, .int .i64 c, .bool fin, .slice ad nd pd, .slice at' nt pt, .slice ar nr pr] 27)) := (Below.refl _ _).alloc (Nat.le_refl _) _
  have hs0 : w.heap.size < (w.alloc (.cells #[.int .i64 k, .int .i64 a, .int .i64 b, .int .i64 c, .bool fin, .slice ad nd pd, .slice at' nt pt, .slice ar nr pr] 27)).heap.size := by simp
  have hk0 : ∀ j, (w.alloc (.cells #[.int .i64 k, .int .i64 a, .int .i64 b, .int .i64 c, .bool fin, .slice ad nd pd, .slice at' nt pt, .slice ar nr pr] 27)).cell? ⟨w.heap.size, j, none⟩ = (#[.int .i64 k, .int .i64 a, .int .i64 b, .int .i64 c, .bool fin, .slice ad nd pd, .slice at' nt pt, .slice ar nr pr] : Array Value)[j]? := fun j => bk_cell (heap_alloc_new w _) j
  have HH : Hid _ := And.intro B0 (And.intro hs0 (And.intro hk0 (And.intro hr (And.intro el (And.intro hnd hnr)))))
  clear B0 hs0 hk0 hr el hnd hnr
  go_enter Try.func33, Try.ntmps33
  go_wp2_with fail
  go_at_call 40
  refine (cu _).mono ?_
  rintro e w1 ⟨rfl, b1⟩
  clear cu
  obtain ⟨w2, ew2⟩ : ∃ w2, w2 = w1.alloc (.cells #[.bool kn, .bool ua, .bool ub, .bool uc, .bool uf, .bool ur, .int .i64 least, .int .i64 most, .int .i64 tok] 68) := ⟨_, rfl⟩
  have s1 : w.heap.size < w1.heap.size := Nat.lt_of_lt_of_le HH.out.2.1 b1.size
  have bw2 : Below w.heap.size w w2 := by rw [ew2]; exact (HH.out.1.trans (b1.mono HH.out.1.size)).alloc (Nat.le_of_lt s1) _
  have hk2 : ∀ j, w2.cell? ⟨w.heap.size, j, none⟩ = (#[.int .i64 k, .int .i64 a, .int .i64 b, .int .i64 c, .bool fin, .slice ad nd pd, .slice at' nt pt, .slice ar nr pr] : Array Value)[j]? := fun j => by rw [ew2]; exact ((((Below.refl w1.heap.size w1).alloc (Nat.le_refl _) _).cell (p := ⟨w.heap.size, j, none⟩) s1).trans (b1.cell (p := ⟨w.heap.size, j, none⟩) HH.out.2.1)).trans (HH.out.2.2.1 j)
  have hu2 : ∀ j, w2.cell? ⟨w1.heap.size, j, none⟩ = (#[.bool kn, .bool ua, .bool ub, .bool uc, .bool uf, .bool ur, .int .i64 least, .int .i64 most, .int .i64 tok] : Array Value)[j]? := fun j => by rw [ew2]; exact bk_cell (heap_alloc_new w1 _) j
  have H2 : Hid _ := And.intro bw2 (And.intro hk2 (And.intro hu2 (And.intro ew2 b1)))
  have x0 : w2.cell? ⟨w.heap.size, 0, none⟩ = some (.int .i64 k) := hk2 0
  have x1 : w2.cell? ⟨w.heap.size, 1, none⟩ = some (.int .i64 a) := hk2 1
  have x2 : w2.cell? ⟨w.heap.size, 2, none⟩ = some (.int .i64 b) := hk2 2
  have x3 : w2.cell? ⟨w.heap.size, 3, none⟩ = some (.int .i64 c) := hk2 3
  have x4 : w2.cell? ⟨w.heap.size, 4, none⟩ = some (.bool fin) := hk2 4
  have x5 : w2.cell? ⟨w.heap.size, 5, none⟩ = some (.slice ad nd pd) := hk2 5
  have x6 : w2.cell? ⟨w.heap.size, 6, none⟩ = some (.slice at' nt pt) := hk2 6
  have x7 : w2.cell? ⟨w.heap.size, 7, none⟩ = some (.slice ar nr pr) := hk2 7
  have y0 : w2.cell? ⟨w1.heap.size, 0, none⟩ = some (.bool kn) := hu2 0
  have y1 : w2.cell? ⟨w1.heap.size, 1, none⟩ = some (.bool ua) := hu2 1
  have y2 : w2.cell? ⟨w1.heap.size, 2, none⟩ = some (.bool ub) := hu2 2
  have y3 : w2.cell? ⟨w1.heap.size, 3, none⟩ = some (.bool uc) := hu2 3
  have y4 : w2.cell? ⟨w1.heap.size, 4, none⟩ = some (.bool uf) := hu2 4
  have y5 : w2.cell? ⟨w1.heap.size, 5, none⟩ = some (.bool ur) := hu2 5
  have y6 : w2.cell? ⟨w1.heap.size, 6, none⟩ = some (.int .i64 least) := hu2 6
  have y7 : w2.cell? ⟨w1.heap.size, 7, none⟩ = some (.int .i64 most) := hu2 7
  have y8 : w2.cell? ⟨w1.heap.size, 8, none⟩ = some (.int .i64 tok) := hu2 8
  clear b1 bw2 hk2 hu2
  have ra : ∀ wx, _ := fun wx => varC a wx
  have rb : ∀ wx, _ := fun wx => varC b wx
  have rc : ∀ wx, _ := fun wx => varC c wx
  go_upto_region 2 with fail
  rw [← ew2]
  clear ew2
  go_cut [66] from 7 to 66 (fun cv wx => cv = .bool (!ok1 a b c fin kn ua ub uc uf) ∧ wx = w2)
  case first =>
    cases kn
    · go_wp2_with fail
      go_meet
      exact ⟨by simp [ok1], rfl⟩
    cases ha : nin a
    all_goals rw [ha] at ra
    · go_wp2_with fail
      go_at_call 23
      refine (ra _).mono ?_
      rintro e wz ⟨rfl, ez⟩
      subst wz
      go_wp2_with fail
      go_meet
      exact ⟨by simp [ok1, ha], rfl⟩
    cases hb : nin b
    all_goals rw [hb] at rb
    · go_wp2_with fail
      go_at_call 23
      refine (ra _).mono ?_
      rintro e wz ⟨rfl, ez⟩
      subst wz
      go_wp2_with fail
      go_at_call 23
      refine (rb _).mono ?_
      rintro e wz ⟨rfl, ez⟩
      subst wz
      go_wp2_with fail
      go_meet
      exact ⟨by simp [ok1, ha, hb], rfl⟩
    cases hc : nin c
    all_goals rw [hc] at rc
    · go_wp2_with fail
      go_at_call 23
      refine (ra _).mono ?_
      rintro e wz ⟨rfl, ez⟩
      subst wz
      go_wp2_with fail
      go_at_call 23
      refine (rb _).mono ?_
      rintro e wz ⟨rfl, ez⟩
      subst wz
      go_wp2_with fail
      go_at_call 23
      refine (rc _).mono ?_
      rintro e wz ⟨rfl, ez⟩
      subst wz
      go_wp2_with fail
      go_meet
      exact ⟨by simp [ok1, ha, hb, hc], rfl⟩
    cases ua
    · cases za : (a != 0)
      · cases ub
        · cases zb : (b != 0)
          · cases uc
            · cases zc : (c != 0)
              · cases uf
                · cases fin
                  · go_wp2_with fail
                    go_at_call 23
                    refine (ra _).mono ?_
                    rintro e wz ⟨rfl, ez⟩
                    subst wz
                    go_wp2_with fail
                    go_at_call 23
                    refine (rb _).mono ?_
                    rintro e wz ⟨rfl, ez⟩
                    subst wz
                    go_wp2_with fail
                    go_at_call 23
                    refine (rc _).mono ?_
                    rintro e wz ⟨rfl, ez⟩
                    subst wz
                    go_wp2_with fail
                    go_meet
                    exact ⟨by simp [ok1, ha, hb, hc, za, zb, zc], rfl⟩
                  · go_wp2_with fail
                    go_at_call 23
                    refine (ra _).mono ?_
                    rintro e wz ⟨rfl, ez⟩
                    subst wz
                    go_wp2_with fail
                    go_at_call 23
                    refine (rb _).mono ?_
                    rintro e wz ⟨rfl, ez⟩
                    subst wz
                    go_wp2_with fail
                    go_at_call 23
                    refine (rc _).mono ?_
                    rintro e wz ⟨rfl, ez⟩
                    subst wz
                    go_wp2_with fail
                    go_meet
                    exact ⟨by simp [ok1, ha, hb, hc, za, zb, zc], rfl⟩
                · go_wp2_with fail
                  go_at_call 23
                  refine (ra _).mono ?_
                  rintro e wz ⟨rfl, ez⟩
                  subst wz
                  go_wp2_with fail
                  go_at_call 23
                  refine (rb _).mono ?_
                  rintro e wz ⟨rfl, ez⟩
                  subst wz
                  go_wp2_with fail
                  go_at_call 23
                  refine (rc _).mono ?_
                  rintro e wz ⟨rfl, ez⟩
                  subst wz
                  go_wp2_with fail
                  go_meet
                  exact ⟨by simp [ok1, ha, hb, hc, za, zb, zc], rfl⟩
              · go_wp2_with fail
                go_at_call 23
                refine (ra _).mono ?_
                rintro e wz ⟨rfl, ez⟩
                subst wz
                go_wp2_with fail
                go_at_call 23
                refine (rb _).mono ?_
                rintro e wz ⟨rfl, ez⟩
                subst wz
                go_wp2_with fail
                go_at_call 23
                refine (rc _).mono ?_
                rintro e wz ⟨rfl, ez⟩
                subst wz
                go_wp2_with fail
                go_meet
                exact ⟨by simp [ok1, ha, hb, hc, za, zb, zc], rfl⟩
            · cases uf
              · cases fin
                · go_wp2_with fail
                  go_at_call 23
                  refine (ra _).mono ?_
                  rintro e wz ⟨rfl, ez⟩
                  subst wz
                  go_wp2_with fail
                  go_at_call 23
                  refine (rb _).mono ?_
                  rintro e wz ⟨rfl, ez⟩
                  subst wz
                  go_wp2_with fail
                  go_at_call 23
                  refine (rc _).mono ?_
                  rintro e wz ⟨rfl, ez⟩
                  subst wz
                  go_wp2_with fail
                  go_meet
                  exact ⟨by simp [ok1, ha, hb, hc, za, zb], rfl⟩
                · go_wp2_with fail
                  go_at_call 23
                  refine (ra _).mono ?_
                  rintro e wz ⟨rfl, ez⟩
                  subst wz
                  go_wp2_with fail
                  go_at_call 23
                  refine (rb _).mono ?_
                  rintro e wz ⟨rfl, ez⟩
                  subst wz
                  go_wp2_with fail
                  go_at_call 23
                  refine (rc _).mono ?_
                  rintro e wz ⟨rfl, ez⟩
                  subst wz
                  go_wp2_with fail
                  go_meet
                  exact ⟨by simp [ok1, ha, hb, hc, za, zb], rfl⟩
              · go_wp2_with fail
                go_at_call 23
                refine (ra _).mono ?_
                rintro e wz ⟨rfl, ez⟩
                subst wz
                go_wp2_with fail
                go_at_call 23
                refine (rb _).mono ?_
                rintro e wz ⟨rfl, ez⟩
                subst wz
                go_wp2_with fail
                go_at_call 23
                refine (rc _).mono ?_
                rintro e wz ⟨rfl, ez⟩
                subst wz
                go_wp2_with fail
                go_meet
                exact ⟨by simp [ok1, ha, hb, hc, za, zb], rfl⟩
          · go_wp2_with fail
            go_at_call 23
            refine (ra _).mono ?_
            rintro e wz ⟨rfl, ez⟩
            subst wz
            go_wp2_with fail
            go_at_call 23
            refine (rb _).mono ?_
            rintro e wz ⟨rfl, ez⟩
            subst wz
            go_wp2_with fail
            go_at_call 23
            refine (rc _).mono ?_
            rintro e wz ⟨rfl, ez⟩
            subst wz
            go_wp2_with fail
            go_meet
            exact ⟨by simp [ok1, ha, hb, hc, za, zb], rfl⟩
        · cases uc
          · cases zc : (c != 0)
            · cases uf
              · cases fin
                · go_wp2_with fail
                  go_at_call 23
                  refine (ra _).mono ?_
                  rintro e wz ⟨rfl, ez⟩
                  subst wz
                  go_wp2_with fail
                  go_at_call 23
                  refine (rb _).mono ?_
                  rintro e wz ⟨rfl, ez⟩
                  subst wz
                  go_wp2_with fail
                  go_at_call 23
                  refine (rc _).mono ?_
                  rintro e wz ⟨rfl, ez⟩
                  subst wz
                  go_wp2_with fail
                  go_meet
                  exact ⟨by simp [ok1, ha, hb, hc, za, zc], rfl⟩
                · go_wp2_with fail
                  go_at_call 23
                  refine (ra _).mono ?_
                  rintro e wz ⟨rfl, ez⟩
                  subst wz
                  go_wp2_with fail
                  go_at_call 23
                  refine (rb _).mono ?_
                  rintro e wz ⟨rfl, ez⟩
                  subst wz
                  go_wp2_with fail
                  go_at_call 23
                  refine (rc _).mono ?_
                  rintro e wz ⟨rfl, ez⟩
                  subst wz
                  go_wp2_with fail
                  go_meet
                  exact ⟨by simp [ok1, ha, hb, hc, za, zc], rfl⟩
              · go_wp2_with fail
                go_at_call 23
                refine (ra _).mono ?_
                rintro e wz ⟨rfl, ez⟩
                subst wz
                go_wp2_with fail
                go_at_call 23
                refine (rb _).mono ?_
                rintro e wz ⟨rfl, ez⟩
                subst wz
                go_wp2_with fail
                go_at_call 23
                refine (rc _).mono ?_
                rintro e wz ⟨rfl, ez⟩
                subst wz
                go_wp2_with fail
                go_meet
                exact ⟨by simp [ok1, ha, hb, hc, za, zc], rfl⟩
            · go_wp2_with fail
              go_at_call 23
              refine (ra _).mono ?_
              rintro e wz ⟨rfl, ez⟩
              subst wz
              go_wp2_with fail
              go_at_call 23
              refine (rb _).mono ?_
              rintro e wz ⟨rfl, ez⟩
              subst wz
              go_wp2_with fail
              go_at_call 23
              refine (rc _).mono ?_
              rintro e wz ⟨rfl, ez⟩
              subst wz
              go_wp2_with fail
              go_meet
              exact ⟨by simp [ok1, ha, hb, hc, za, zc], rfl⟩
          · cases uf
            · cases fin
              · go_wp2_with fail
                go_at_call 23
                refine (ra _).mono ?_
                rintro e wz ⟨rfl, ez⟩
                subst wz
                go_wp2_with fail
                go_at_call 23
                refine (rb _).mono ?_
                rintro e wz ⟨rfl, ez⟩
                subst wz
                go_wp2_with fail
                go_at_call 23
                refine (rc _).mono ?_
                rintro e wz ⟨rfl, ez⟩
                subst wz
                go_wp2_with fail
                go_meet
                exact ⟨by simp [ok1, ha, hb, hc, za], rfl⟩
              · go_wp2_with fail
                go_at_call 23
                refine (ra _).mono ?_
                rintro e wz ⟨rfl, ez⟩
                subst wz
                go_wp2_with fail
                go_at_call 23
                refine (rb _).mono ?_
                rintro e wz ⟨rfl, ez⟩
                subst wz
                go_wp2_with fail
                go_at_call 23
                refine (rc _).mono ?_
                rintro e wz ⟨rfl, ez⟩
                subst wz
                go_wp2_with fail
                go_meet
                exact ⟨by simp [ok1, ha, hb, hc, za], rfl⟩
            · go_wp2_with fail
              go_at_call 23
              refine (ra _).mono ?_
              rintro e wz ⟨rfl, ez⟩
              subst wz
              go_wp2_with fail
              go_at_call 23
              refine (rb _).mono ?_
              rintro e wz ⟨rfl, ez⟩
              subst wz
              go_wp2_with fail
              go_at_call 23
              refine (rc _).mono ?_
              rintro e wz ⟨rfl, ez⟩
              subst wz
              go_wp2_with fail
              go_meet
              exact ⟨by simp [ok1, ha, hb, hc, za], rfl⟩
      · go_wp2_with fail
        go_at_call 23
        refine (ra _).mono ?_
        rintro e wz ⟨rfl, ez⟩
        subst wz
        go_wp2_with fail
        go_at_call 23
        refine (rb _).mono ?_
        rintro e wz ⟨rfl, ez⟩
        subst wz
        go_wp2_with fail
        go_at_call 23
        refine (rc _).mono ?_
        rintro e wz ⟨rfl, ez⟩
        subst wz
        go_wp2_with fail
        go_meet
        exact ⟨by simp [ok1, ha, hb, hc, za], rfl⟩
    · cases ub
      · cases zb : (b != 0)
        · cases uc
          · cases zc : (c != 0)
            · cases uf
              · cases fin
                · go_wp2_with fail
                  go_at_call 23
                  refine (ra _).mono ?_
                  rintro e wz ⟨rfl, ez⟩
                  subst wz
                  go_wp2_with fail
                  go_at_call 23
                  refine (rb _).mono ?_
                  rintro e wz ⟨rfl, ez⟩
                  subst wz
                  go_wp2_with fail
                  go_at_call 23
                  refine (rc _).mono ?_
                  rintro e wz ⟨rfl, ez⟩
                  subst wz
                  go_wp2_with fail
                  go_meet
                  exact ⟨by simp [ok1, ha, hb, hc, zb, zc], rfl⟩
                · go_wp2_with fail
                  go_at_call 23
                  refine (ra _).mono ?_
                  rintro e wz ⟨rfl, ez⟩
                  subst wz
                  go_wp2_with fail
                  go_at_call 23
                  refine (rb _).mono ?_
                  rintro e wz ⟨rfl, ez⟩
                  subst wz
                  go_wp2_with fail
                  go_at_call 23
                  refine (rc _).mono ?_
                  rintro e wz ⟨rfl, ez⟩
                  subst wz
                  go_wp2_with fail
                  go_meet
                  exact ⟨by simp [ok1, ha, hb, hc, zb, zc], rfl⟩
              · go_wp2_with fail
                go_at_call 23
                refine (ra _).mono ?_
                rintro e wz ⟨rfl, ez⟩
                subst wz
                go_wp2_with fail
                go_at_call 23
                refine (rb _).mono ?_
                rintro e wz ⟨rfl, ez⟩
                subst wz
                go_wp2_with fail
                go_at_call 23
                refine (rc _).mono ?_
                rintro e wz ⟨rfl, ez⟩
                subst wz
                go_wp2_with fail
                go_meet
                exact ⟨by simp [ok1, ha, hb, hc, zb, zc], rfl⟩
            · go_wp2_with fail
              go_at_call 23
              refine (ra _).mono ?_
              rintro e wz ⟨rfl, ez⟩
              subst wz
              go_wp2_with fail
              go_at_call 23
              refine (rb _).mono ?_
              rintro e wz ⟨rfl, ez⟩
              subst wz
              go_wp2_with fail
              go_at_call 23
              refine (rc _).mono ?_
              rintro e wz ⟨rfl, ez⟩
              subst wz
              go_wp2_with fail
              go_meet
              exact ⟨by simp [ok1, ha, hb, hc, zb, zc], rfl⟩
          · cases uf
            · cases fin
              · go_wp2_with fail
                go_at_call 23
                refine (ra _).mono ?_
                rintro e wz ⟨rfl, ez⟩
                subst wz
                go_wp2_with fail
                go_at_call 23
                refine (rb _).mono ?_
                rintro e wz ⟨rfl, ez⟩
                subst wz
                go_wp2_with fail
                go_at_call 23
                refine (rc _).mono ?_
                rintro e wz ⟨rfl, ez⟩
                subst wz
                go_wp2_with fail
                go_meet
                exact ⟨by simp [ok1, ha, hb, hc, zb], rfl⟩
              · go_wp2_with fail
                go_at_call 23
                refine (ra _).mono ?_
                rintro e wz ⟨rfl, ez⟩
                subst wz
                go_wp2_with fail
                go_at_call 23
                refine (rb _).mono ?_
                rintro e wz ⟨rfl, ez⟩
                subst wz
                go_wp2_with fail
                go_at_call 23
                refine (rc _).mono ?_
                rintro e wz ⟨rfl, ez⟩
                subst wz
                go_wp2_with fail
                go_meet
                exact ⟨by simp [ok1, ha, hb, hc, zb], rfl⟩
            · go_wp2_with fail
              go_at_call 23
              refine (ra _).mono ?_
              rintro e wz ⟨rfl, ez⟩
              subst wz
              go_wp2_with fail
              go_at_call 23
              refine (rb _).mono ?_
              rintro e wz ⟨rfl, ez⟩
              subst wz
              go_wp2_with fail
              go_at_call 23
              refine (rc _).mono ?_
              rintro e wz ⟨rfl, ez⟩
              subst wz
              go_wp2_with fail
              go_meet
              exact ⟨by simp [ok1, ha, hb, hc, zb], rfl⟩
        · go_wp2_with fail
          go_at_call 23
          refine (ra _).mono ?_
          rintro e wz ⟨rfl, ez⟩
          subst wz
          go_wp2_with fail
          go_at_call 23
          refine (rb _).mono ?_
          rintro e wz ⟨rfl, ez⟩
          subst wz
          go_wp2_with fail
          go_at_call 23
          refine (rc _).mono ?_
          rintro e wz ⟨rfl, ez⟩
          subst wz
          go_wp2_with fail
          go_meet
          exact ⟨by simp [ok1, ha, hb, hc, zb], rfl⟩
      · cases uc
        · cases zc : (c != 0)
          · cases uf
            · cases fin
              · go_wp2_with fail
                go_at_call 23
                refine (ra _).mono ?_
                rintro e wz ⟨rfl, ez⟩
                subst wz
                go_wp2_with fail
                go_at_call 23
                refine (rb _).mono ?_
                rintro e wz ⟨rfl, ez⟩
                subst wz
                go_wp2_with fail
                go_at_call 23
                refine (rc _).mono ?_
                rintro e wz ⟨rfl, ez⟩
                subst wz
                go_wp2_with fail
                go_meet
                exact ⟨by simp [ok1, ha, hb, hc, zc], rfl⟩
              · go_wp2_with fail
                go_at_call 23
                refine (ra _).mono ?_
                rintro e wz ⟨rfl, ez⟩
                subst wz
                go_wp2_with fail
                go_at_call 23
                refine (rb _).mono ?_
                rintro e wz ⟨rfl, ez⟩
                subst wz
                go_wp2_with fail
                go_at_call 23
                refine (rc _).mono ?_
                rintro e wz ⟨rfl, ez⟩
                subst wz
                go_wp2_with fail
                go_meet
                exact ⟨by simp [ok1, ha, hb, hc, zc], rfl⟩
            · go_wp2_with fail
              go_at_call 23
              refine (ra _).mono ?_
              rintro e wz ⟨rfl, ez⟩
              subst wz
              go_wp2_with fail
              go_at_call 23
              refine (rb _).mono ?_
              rintro e wz ⟨rfl, ez⟩
              subst wz
              go_wp2_with fail
              go_at_call 23
              refine (rc _).mono ?_
              rintro e wz ⟨rfl, ez⟩
              subst wz
              go_wp2_with fail
              go_meet
              exact ⟨by simp [ok1, ha, hb, hc, zc], rfl⟩
          · go_wp2_with fail
            go_at_call 23
            refine (ra _).mono ?_
            rintro e wz ⟨rfl, ez⟩
            subst wz
            go_wp2_with fail
            go_at_call 23
            refine (rb _).mono ?_
            rintro e wz ⟨rfl, ez⟩
            subst wz
            go_wp2_with fail
            go_at_call 23
            refine (rc _).mono ?_
            rintro e wz ⟨rfl, ez⟩
            subst wz
            go_wp2_with fail
            go_meet
            exact ⟨by simp [ok1, ha, hb, hc, zc], rfl⟩
        · cases uf
          · cases fin
            · go_wp2_with fail
              go_at_call 23
              refine (ra _).mono ?_
              rintro e wz ⟨rfl, ez⟩
              subst wz
              go_wp2_with fail
              go_at_call 23
              refine (rb _).mono ?_
              rintro e wz ⟨rfl, ez⟩
              subst wz
              go_wp2_with fail
              go_at_call 23
              refine (rc _).mono ?_
              rintro e wz ⟨rfl, ez⟩
              subst wz
              go_wp2_with fail
              go_meet
              exact ⟨by simp [ok1, ha, hb, hc], rfl⟩
            · go_wp2_with fail
              go_at_call 23
              refine (ra _).mono ?_
              rintro e wz ⟨rfl, ez⟩
              subst wz
              go_wp2_with fail
              go_at_call 23
              refine (rb _).mono ?_
              rintro e wz ⟨rfl, ez⟩
              subst wz
              go_wp2_with fail
              go_at_call 23
              refine (rc _).mono ?_
              rintro e wz ⟨rfl, ez⟩
              subst wz
              go_wp2_with fail
              go_meet
              exact ⟨by simp [ok1, ha, hb, hc], rfl⟩
          · go_wp2_with fail
            go_at_call 23
            refine (ra _).mono ?_
            rintro e wz ⟨rfl, ez⟩
            subst wz
            go_wp2_with fail
            go_at_call 23
            refine (rb _).mono ?_
            rintro e wz ⟨rfl, ez⟩
            subst wz
            go_wp2_with fail
            go_at_call 23
            refine (rc _).mono ?_
            rintro e wz ⟨rfl, ez⟩
            subst wz
            go_wp2_with fail
            go_meet
            exact ⟨by simp [ok1, ha, hb, hc], rfl⟩
  case rest =>
  obtain ⟨rfl, ew⟩ := hcut
  subst ew
  clear ra rb rc
  cases h1 : ok1 a b c fin kn ua ub uc uf
  · go_wp2
    go_ret
    exact ⟨by rw [h1]; rfl, H2.out.1⟩
  go_upto_region 4 with fail
  go_cut [103] from 67 to 103 (fun cv wx => cv = .bool (!ok2 nd nt nr R ur least most tok) ∧ Below w.heap.size w wx ∧ ∀ j, wx.cell? ⟨w.heap.size, j, none⟩ = (#[.int .i64 k, .int .i64 a, .int .i64 b, .int .i64 c, .bool fin, .slice ad nd pd, .slice at' nt pt, .slice ar nr pr] : Array Value)[j]?)
  case first =>
    have rr : ∀ wx, Below w.heap.size w wx → _ := fun wx hx => rokS _ R wx (HH.out.2.2.2.1.below hx) (by have := HH.out.2.2.2.2.1; have := HH.out.2.2.2.2.2.2; omega)
    have RR : Hid _ := And.intro rr True.intro
    clear rr
    by_cases d1 : (nd : Int) < least
    · have d1d := decide_eq_true d1
      go_wp2_with fail
      go_meet
      exact ⟨by simp [ok2, d1d], H2.out.1, H2.out.2.1⟩
    replace d1 : decide ((nd : Int) < least) = false := decide_eq_false d1
    by_cases d2 : most < (nd : Int)
    · have d2d := decide_eq_true d2
      go_wp2_with fail
      go_meet
      exact ⟨by simp [ok2, d1, d2d], H2.out.1, H2.out.2.1⟩
    replace d2 : decide (most < (nd : Int)) = false := decide_eq_false d2
    cases d3 : ((nt : Int) != tok)
    case true =>
      go_wp2_with fail
      go_meet
      exact ⟨by simp [ok2, d1, d2, d3], H2.out.1, H2.out.2.1⟩
    by_cases h0 : 0 < nr
    · have z1 : decide (0 < nr) = true := by simp [h0]
      have z2 : decide ((0 : Int) < (nr : Int)) = true := by simp [h0]
      cases ur
      · go_wp2_with fail
        go_meet
        exact ⟨by unfold ok2; rw [d1, d2, d3, z2]; rfl, H2.out.1, H2.out.2.1⟩
      · go_wp2_with fail
        go_at_call 22
        refine (RR.out.1 _ H2.out.1).mono ?_
        rintro e w3 ⟨rfl, b3⟩
        go_wp2_with fail
        go_meet
        exact ⟨by unfold ok2; rw [d1, d2, d3, z2]; rfl, H2.out.1.trans (b3.mono H2.out.1.size), fun j => (b3.cell (p := ⟨w.heap.size, j, none⟩) (by have h1 := H2.out.2.2.2.1; have h2 := H2.out.2.2.2.2.size; have h3 := HH.out.2.1; refine Nat.lt_of_lt_of_le h3 (Nat.le_trans h2 ?_); rw [h1]; simp)).trans (H2.out.2.1 j)⟩
    replace h0 : nr = 0 := by omega
    have z1 : decide (0 < nr) = false := by simp [h0]
    have z2 : decide ((0 : Int) < (nr : Int)) = false := by simp [h0]
    clear h0
    cases ur
    · go_wp2_with fail
      go_at_call 22
      refine (RR.out.1 _ H2.out.1).mono ?_
      rintro e w3 ⟨rfl, b3⟩
      go_wp2_with fail
      go_meet
      exact ⟨by unfold ok2; rw [d1, d2, d3, z2]; rfl, H2.out.1.trans (b3.mono H2.out.1.size), fun j => (b3.cell (p := ⟨w.heap.size, j, none⟩) (by have h1 := H2.out.2.2.2.1; have h2 := H2.out.2.2.2.2.size; have h3 := HH.out.2.1; refine Nat.lt_of_lt_of_le h3 (Nat.le_trans h2 ?_); rw [h1]; simp)).trans (H2.out.2.1 j)⟩
    · go_wp2_with fail
      go_meet
      exact ⟨by unfold ok2; rw [d1, d2, d3, z2]; rfl, H2.out.1, H2.out.2.1⟩
  case rest =>
  obtain ⟨rfl, bw3, hk3⟩ := hcut
  clear x0 x1 x2 x3 x4 x5 x6 x7 y0 y1 y2 y3 y4 y5 y6 y7 y8
  have H3 : Hid _ := And.intro bw3 True.intro
  have x0 : wc.cell? ⟨w.heap.size, 0, none⟩ = some (.int .i64 k) := hk3 0
  have x1 : wc.cell? ⟨w.heap.size, 1, none⟩ = some (.int .i64 a) := hk3 1
  have x2 : wc.cell? ⟨w.heap.size, 2, none⟩ = some (.int .i64 b) := hk3 2
  have x5 : wc.cell? ⟨w.heap.size, 5, none⟩ = some (.slice ad nd pd) := hk3 5
  clear bw3 hk3
  cases h2 : ok2 nd nt nr R ur least most tok
  · go_wp2
    go_ret
    exact ⟨by rw [h1, h2]; rfl, H3.out.1⟩
  have hw : IntKind.i64.wrap (4611686018427387903 - (nd : Int)) = 4611686018427387903 - (nd : Int) := by have := HH.out.2.2.2.2.2.1; rw [IntKind.wrap_i64]; omega
  by_cases k0 : k = 0
  · subst k0
    by_cases g1 : 1 ≤ a
    · have e3 : ok3 0 a b nd = decide (a ≤ 1500) := by unfold ok3; rw [if_pos rfl, decide_eq_true g1]; rfl
      go_wp2
      go_ret
      exact ⟨by rw [h1, h2, e3]; rfl, H3.out.1⟩
    · have e3 : ok3 0 a b nd = false := by unfold ok3; rw [if_pos rfl, decide_eq_false g1]; rfl
      replace g1 : decide (1 ≤ a) = false := decide_eq_false g1
      go_wp2
      go_ret
      exact ⟨by rw [h1, h2, e3]; rfl, H3.out.1⟩
  have k0b : (k == 0) = false := by simp [k0]
  by_cases k18 : k = 18
  · subst k18
    by_cases g1 : a ≤ 1152921504606846976
    · have e3 : ok3 18 a b nd = decide (b ≤ 1) := by unfold ok3; rw [if_neg (by decide), if_pos (by decide), decide_eq_true g1]; rfl
      go_wp2
      go_ret
      exact ⟨by rw [h1, h2, e3]; rfl, H3.out.1⟩
    · have e3 : ok3 18 a b nd = false := by unfold ok3; rw [if_neg (by decide), if_pos (by decide), decide_eq_false g1]; rfl
      replace g1 : decide (a ≤ 1152921504606846976) = false := decide_eq_false g1
      go_wp2
      go_ret
      exact ⟨by rw [h1, h2, e3]; rfl, H3.out.1⟩
  have k18b : (k == 18) = false := by simp [k18]
  by_cases k22 : k = 22
  · subst k22
    by_cases g1 : a ≤ 1152921504606846976
    · have e3 : ok3 22 a b nd = decide (b ≤ 1) := by unfold ok3; rw [if_neg (by decide), if_pos (by decide), decide_eq_true g1]; rfl
      go_wp2
      go_ret
      exact ⟨by rw [h1, h2, e3]; rfl, H3.out.1⟩
    · have e3 : ok3 22 a b nd = false := by unfold ok3; rw [if_neg (by decide), if_pos (by decide), decide_eq_false g1]; rfl
      replace g1 : decide (a ≤ 1152921504606846976) = false := decide_eq_false g1
      go_wp2
      go_ret
      exact ⟨by rw [h1, h2, e3]; rfl, H3.out.1⟩
  have k22b : (k == 22) = false := by simp [k22]
  by_cases k6 : k = 6
  · subst k6
    have e3 : ok3 6 a b nd = decide (a ≤ 4611686018427387903 - (nd : Int)) := by unfold ok3; rw [if_neg (by decide), if_neg (by decide), if_pos rfl]
    go_wp2
    go_ret
    exact ⟨by rw [h1, h2, e3]; rfl, H3.out.1⟩
  have k6b : (k == 6) = false := by simp [k6]
  by_cases k8 : k = 8
  · subst k8
    have e3 : ok3 8 a b nd = decide (b ≤ 4611686018427387903 - (nd : Int)) := by unfold ok3; rw [if_neg (by decide), if_neg (by decide), if_neg (by decide), if_pos rfl]
    go_wp2
    go_ret
    exact ⟨by rw [h1, h2, e3]; rfl, H3.out.1⟩
  have k8b : (k == 8) = false := by simp [k8]
  by_cases k24 : k = 24
  · subst k24
    have e3 : ok3 24 a b nd = decide (b ≤ a) := by unfold ok3; rw [if_neg (by decide), if_neg (by decide), if_neg (by decide), if_neg (by decide), if_pos rfl]
    go_wp2
    go_ret
    exact ⟨by rw [h1, h2, e3]; rfl, H3.out.1⟩
  have k24b : (k == 24) = false := by simp [k24]
  have e3 : ok3 k a b nd = true := by unfold ok3; rw [if_neg k0, if_neg (by omega), if_neg k6, if_neg k8, if_neg k24]
  go_wp2
  go_ret
  exact ⟨by rw [h1, h2, e3]; rfl, H3.out.1⟩
end Go.Proofs.Ytaodcahkkeobdaa
