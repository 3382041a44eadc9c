import Derived.Test.YthbggabgklnhgaaDoorStP
import Derived.Deep.LoopGhost
import Derived.Deep.QuietTactic
import Derived.BigQuiet
import Derived.Laws.CopyRow
import Derived.Laws.CopyOwn
import Derived.Deep.RegionLaw
import Derived.Deep.RegionHeld3
import Derived.Deep.CutRange
namespace Go.Proofs.YthbggabgklnhgaaDoor
open Go.RowKit
set_option linter.unusedVariables false

theorem Chg.set' {S : Nat → Prop} {w w' : World} (h : Chg S w w') (g i : Nat) (u : Value) (hg : S g) : Chg S w (w'.setCell ⟨g, i, none⟩ u) :=
  ⟨h.os, h.tape, h.output, by have := h.size; simpa [World.setCell] using this, fun k hk hs => (bk_other (k := k) (g := g) (fun e => hs (by rw [e]; exact hg)) i u).trans (h.block k hk hs)⟩
set_option maxRecDepth 20000 in
/-- The state may turn. -/
theorem turnI (g p s x : Nat) (cs : Array Value) (t : TypeId) (hp : p < 2) (hs : s < 6) (h1 : 1 ≤ x) (h5 : x ≤ 5) (w : World) (ht : TabF w) (h0 : 0 < w.heap.size)
    (hb : w.heap[g]? = some (.cells cs t (0, 0))) (c0 : cs[0]? = some (.int .i64 (p : Int))) (c1 : cs[1]? = some (.int .i64 (s : Int))) :
    Calls Tryd.prog 28 #[.pointer (some ⟨g, 0, none⟩), .int .i64 (x : Int)] w fun e w' => e = .returned (.bool (mtV p s x)) ∧
      w'.heap[g]? = some (.cells (if mtV p s x then cs.setIfInBounds 1 (.int .i64 (x : Int)) else cs) t (0, 0)) ∧ Chg (· = g) w w' := by
  have d0 : w.cell? ⟨g, 0, none⟩ = some (.int .i64 (p : Int)) := (bk_cell hb 0).trans c0
  have d1 : w.cell? ⟨g, 1, none⟩ = some (.int .i64 (s : Int)) := (bk_cell hb 1).trans c1
  have C := mayTurnI p s x hp hs h1 h5 w ht h0
  have hgl : g < w.heap.size := (Array.getElem?_eq_some_iff.1 hb).1
  have HB : Hid _ := And.intro hb (And.intro hgl c1)
  generalize mtV p s x = b at C ⊢
  clear hb c0 c1 ht h0
  go_enter Tryd.func28, Tryd.ntmps28
  go_wp2_with fail
  go_at_call 37
  refine C.mono ?_
  rintro e w1 ⟨rfl, b1⟩
  have hb1 := (b1.block g HB.out.2.1).trans HB.out.1
  have e1 : w1.cell? ⟨g, 1, none⟩ = some (.int .i64 (s : Int)) := (bk_cell hb1 1).trans HB.out.2.2
  have f1 := bk_free hb1 1
  have H1 : Hid _ := And.intro hb1 (And.intro (Chg.of_below (S := (· = g)) b1) True.intro)
  clear b1 hb1 C
  cases b
  · go_wp2
    go_ret
    exact ⟨rfl, H1.out.1, H1.out.2.1⟩
  · go_wp2
    go_ret
    exact ⟨rfl, bk_set H1.out.1 1 _, H1.out.2.1.set' g 1 _ rfl⟩

/-- The receiving part, as it lies in memory. -/
def rcB (w : World) (g c win : Nat) (st : Nat) (first came gr fin told : Int) : Prop :=
  w.heap[g]? = some (.cells #[.int .i64 0, .int .i64 (st : Int), .slice (some ⟨c, 0, none⟩) win win, .int .i64 first, .int .i64 came, .int .i64 gr, .int .i64 fin, .int .i64 told] 66 (0, 0))
set_option maxRecDepth 20000 in
theorem takingI (g c win st : Nat) (first came gr fin told : Int) (w : World) (hs : st < 6) (ht : TabF w) (h0 : 0 < w.heap.size) (hb : rcB w g c win st first came gr fin told) :
    Calls Tryd.prog 32 #[.pointer (some ⟨g, 0, none⟩)] w fun e w' => e = .returned (.bool (decide (st < 2))) ∧ Below w.heap.size w w' := by
  have d0 : w.cell? ⟨g, 0, none⟩ = some (.int .i64 0) := (bk_cell hb 0).trans rfl
  have d1 : w.cell? ⟨g, 1, none⟩ = some (.int .i64 (st : Int)) := (bk_cell hb 1).trans rfl
  have C := mayTurnI 0 st 4 (by decide) hs (by decide) (by decide) w ht h0
  have e : mtV 0 st 4 = decide (st < 2) := by
    have : st = 0 ∨ st = 1 ∨ st = 2 ∨ st = 3 ∨ st = 4 ∨ st = 5 := by omega
    rcases this with rfl | rfl | rfl | rfl | rfl | rfl <;> rfl
  rw [e] at C
  generalize decide (st < 2) = b at C ⊢
  clear hb ht h0
  go_enter Tryd.func32, Tryd.ntmps32
  go_wp2_with fail
  go_at_call 37
  refine C.mono ?_
  rintro e w1 ⟨rfl, b1⟩
  go_wp2
  go_ret
  exact ⟨rfl, b1⟩
set_option maxRecDepth 20000 in
theorem mayEndI (g c win st : Nat) (first came gr fin told n : Int) (w : World) (hb : rcB w g c win st first came gr fin told) :
    Calls Tryd.prog 31 #[.pointer (some ⟨g, 0, none⟩), .int .i64 n] w fun e w' => e = .returned (.bool (decide (gr ≤ n ∧ (fin = -1 ∨ n = fin)))) ∧ w' = w := by
  have d5 : w.cell? ⟨g, 5, none⟩ = some (.int .i64 gr) := (bk_cell hb 5).trans rfl
  have d6 : w.cell? ⟨g, 6, none⟩ = some (.int .i64 fin) := (bk_cell hb 6).trans rfl
  clear hb
  by_cases a1 : gr ≤ n
  · by_cases a2 : fin = -1
    · rw [decide_eq_true ⟨a1, Or.inl a2⟩]
      subst a2
      go_enter Tryd.func31, Tryd.ntmps31
      go_wp2
      go_ret
      exact ⟨rfl, rfl⟩
    · have b2 : (fin == -1) = false := by simpa using a2
      by_cases a3 : n = fin
      · rw [decide_eq_true ⟨a1, Or.inr a3⟩]
        have b3 : (n == fin) = true := by simpa using a3
        go_enter Tryd.func31, Tryd.ntmps31
        go_wp2
        go_ret
        exact ⟨rfl, rfl⟩
      · rw [decide_eq_false (by rintro ⟨_, h | h⟩ <;> contradiction)]
        have b3 : (n == fin) = false := by simpa using a3
        go_enter Tryd.func31, Tryd.ntmps31
        go_wp2
        go_ret
        exact ⟨rfl, rfl⟩
  · rw [decide_eq_false (fun h => a1 h.1)]
    go_enter Tryd.func31, Tryd.ntmps31
    go_wp2
    go_ret
    exact ⟨rfl, rfl⟩
end Go.Proofs.YthbggabgklnhgaaDoor

namespace Go.Proofs.YthbggabgklnhgaaDoor
open Go.RowKit
set_option linter.unusedVariables false

set_option maxRecDepth 20000 in
/-- Where a place's cell lies. -/
theorem atI (g o c win p : Nat) (w : World) (hc : w.cell? ⟨g, o, none⟩ = some (.slice (some ⟨c, 0, none⟩) win win)) (hw : 0 < win) (hwm : win ≤ 16384) (hp : p ≤ 1099511627776) :
    Calls Tryd.prog 39 #[.pointer (some ⟨g, o, none⟩), .int .i64 (p : Int)] w fun e w' => e = .returned (.pointer (some ⟨c, p % win * 2, none⟩)) ∧ ∃ m, w' = w.drewN m := by
  obtain ⟨r, er⟩ : ∃ r, r = p % win := ⟨_, rfl⟩
  have hr : (p : Int).tmod (win : Int) = (r : Int) := by rw [er, Int.tmod_eq_emod_of_nonneg (by omega)]; omega
  have hlt : r < win := by rw [er]; exact Nat.mod_lt _ hw
  have h1 : 0 ≤ (r : Int) ∧ (r : Int) < (win : Int) := by omega
  have hz : ((win : Int) == 0) = false := by simp; omega
  have hz2 : ¬ (win : Int) = 0 := by omega
  rw [← er]
  clear er hw
  go_enter Tryd.func39, Tryd.ntmps39
  go_wp2_with fail
  go_quiet (fail)
  go_wp2
  go_ret
  exact ⟨rfl, nq, rfl⟩
end Go.Proofs.YthbggabgklnhgaaDoor

namespace Go.Proofs.YthbggabgklnhgaaDoor
open Go.RowKit
set_option linter.unusedVariables false

/-- The ring's cells. -/
def rc : List (Bool × Int) → List Value
  | [] => []
  | x :: r => .bool x.1 :: .int .u8 x.2 :: rc r
theorem rc_length : ∀ L, (rc L).length = 2 * L.length
  | [] => rfl
  | x :: r => by simp [rc, rc_length r]; omega
theorem rc_get0 : ∀ (L : List (Bool × Int)) (j : Nat), j < L.length → (rc L)[j * 2]? = some (.bool (L.getD j (false, 0)).1)
  | [], j, h => by simp at h
  | x :: r, 0, h => by simp [rc]
  | x :: r, j + 1, h => by
    have := rc_get0 r j (by simpa using h)
    rw [show (j + 1) * 2 = j * 2 + 1 + 1 by omega]
    simpa [rc] using this
theorem rc_get1 : ∀ (L : List (Bool × Int)) (j : Nat), j < L.length → (rc L)[j * 2 + 1]? = some (.int .u8 (L.getD j (false, 0)).2)
  | [], j, h => by simp at h
  | x :: r, 0, h => by simp [rc]
  | x :: r, j + 1, h => by
    have := rc_get1 r j (by simpa using h)
    rw [show (j + 1) * 2 + 1 = j * 2 + 1 + 1 + 1 by omega]
    simpa [rc] using this
theorem rc_set : ∀ (L : List (Bool × Int)) (j : Nat) (b : Bool) (v : Int), ((rc L).set (j * 2) (.bool b)).set (j * 2 + 1) (.int .u8 v) = rc (L.set j (b, v))
  | [], j, b, v => by simp [rc]
  | x :: r, 0, b, v => by simp [rc]
  | x :: r, j + 1, b, v => by
    have := rc_set r j b v
    rw [show (j + 1) * 2 = j * 2 + 1 + 1 by omega]
    simpa [rc] using this
def rgB (w : World) (c : Nat) (L : List (Bool × Int)) : Prop := w.heap[c]? = some (.cells (rc L).toArray 78 (0, 0))
theorem rgB.c0 {w : World} {c : Nat} {L : List (Bool × Int)} (h : rgB w c L) (j : Nat) (hj : j < L.length) : w.cell? ⟨c, j * 2, none⟩ = some (.bool (L.getD j (false, 0)).1) := by
  rw [bk_cell h, List.getElem?_toArray]
  exact rc_get0 L j hj
theorem rgB.c1 {w : World} {c : Nat} {L : List (Bool × Int)} (h : rgB w c L) (j : Nat) (hj : j < L.length) : w.cell? ⟨c, j * 2 + 1, none⟩ = some (.int .u8 (L.getD j (false, 0)).2) := by
  rw [bk_cell h, List.getElem?_toArray]
  exact rc_get1 L j hj
theorem rgB.set {w : World} {c : Nat} {L : List (Bool × Int)} (h : rgB w c L) (j : Nat) (b : Bool) (v : Int) : rgB ((w.setCell ⟨c, j * 2, none⟩ (.bool b)).setCell ⟨c, j * 2 + 1, none⟩ (.int .u8 v)) c (L.set j (b, v)) := by
  have := bk_set (bk_set h (j * 2) (.bool b)) (j * 2 + 1) (.int .u8 v)
  unfold rgB
  rw [this, ← rc_set]
  simp
/-- One byte that comes: what is in the ring, how many have come. -/
def kst (first win : Nat) (S : List (Bool × Int) × Nat) (pl : Nat) (v : Int) : List (Bool × Int) × Nat :=
  if pl < first then S else if (S.1.getD (pl % win) (false, 0)).1 then S else (S.1.set (pl % win) (true, v), S.2 + 1)
def kfo (first win off : Nat) (D : List Int) (S : List (Bool × Int) × Nat) : Nat → List (Bool × Int) × Nat
  | 0 => S
  | i + 1 => kst first win (kfo first win off D S i) (off + i) (D.getD i 0)
theorem kst_length (first win : Nat) (S : List (Bool × Int) × Nat) (pl : Nat) (v : Int) : (kst first win S pl v).1.length = S.1.length := by
  unfold kst
  split
  · rfl
  · split
    · rfl
    · simp
theorem kfo_length (first win off : Nat) (D : List Int) (S : List (Bool × Int) × Nat) : ∀ i, (kfo first win off D S i).1.length = S.1.length
  | 0 => rfl
  | i + 1 => by unfold kfo; rw [kst_length]; exact kfo_length first win off D S i
theorem kst_came (first win : Nat) (S : List (Bool × Int) × Nat) (pl : Nat) (v : Int) : (kst first win S pl v).2 ≤ S.2 + 1 := by
  unfold kst
  split
  · omega
  · split <;> simp
theorem kfo_came (first win off : Nat) (D : List Int) (S : List (Bool × Int) × Nat) : ∀ i, (kfo first win off D S i).2 ≤ S.2 + i
  | 0 => Nat.le_refl _
  | i + 1 => by
    have h1 := kfo_came first win off D S i
    have h2 := kst_came first win (kfo first win off D S i) (off + i) (D.getD i 0)
    show (kst first win (kfo first win off D S i) (off + i) (D.getD i 0)).2 ≤ _
    omega
end Go.Proofs.YthbggabgklnhgaaDoor

namespace Go.Proofs.YthbggabgklnhgaaDoor
open Go.RowKit
set_option linter.unusedVariables false

def K2 (g c : Nat) : Nat → Prop := fun k => k = g ∨ k = c
theorem rcB.set {w : World} {g c win st : Nat} {first came gr fin told : Int} (h : rcB w g c win st first came gr fin told) (x : Int) : rcB (w.setCell ⟨g, 4, none⟩ (.int .i64 x)) g c win st first x gr fin told := bk_set h 4 _
set_option maxRecDepth 20000 in
set_option maxHeartbeats 2000000 in
theorem keepI (g c win st first came off b do' n dc : Nat) (gr : Nat) (fin told : Int) (D : List Int) (L : List (Bool × Int)) (w : World)
    (hb : rcB w g c win st first came gr fin told) (hr : rgB w c L) (hL : L.length = win) (hw : 0 < win) (hwm : win ≤ 16384) (hgc : g ≠ c)
    (hD : D.length = n) (hn : n ≤ 1500) (hc : ∀ j, j < n → w.cell? ⟨b, do' + j, none⟩ = some (.int .u8 (D.getD j 0))) (hbg : b ≠ g) (hbc : b ≠ c) (hbl : b < w.heap.size) (ho : off ≤ 1000000) (hf : first ≤ 1000000) (hcm : came ≤ 1000000) (hgr : gr ≤ 1000000) :
    Calls Tryd.prog 33 #[.pointer (some ⟨g, 0, none⟩), .int .i64 (off : Int), .slice (some ⟨b, do', none⟩) n dc] w fun e w' => e = .returned (.tuple #[]) ∧
      rcB w' g c win st first (kfo first win off D (L, came) n).2 (max gr (off + n) : Nat) fin told ∧ rgB w' c (kfo first win off D (L, came) n).1 ∧ Chg (K2 g c) w w' := by
  have HC : Hid _ := And.intro hc (And.intro hL (And.intro hD True.intro))
  have H0 : Hid _ := And.intro hb hr
  clear hc hL hD hb hr
  go_enter Tryd.func33, Tryd.ntmps33
  go_wp2_with fail
  go_loopg [12] n (fun q i wr => ∃ j : Nat, j ≤ n ∧ q = n - j ∧ i = .int .i64 (j : Int) ∧ rcB wr g c win st first (kfo first win off D (L, came) j).2 gr fin told ∧ rgB wr c (kfo first win off D (L, came) j).1 ∧ Chg (K2 g c) w wr)
  case atStart => exact ⟨0, by omega, by omega, rfl, H0.out.1, H0.out.2, ⟨rfl, rfl, rfl, Nat.le_refl _, fun _ _ _ => rfl⟩⟩
  case round =>
    obtain ⟨j, hj, hq, rfl, rb, rr, ch⟩ := hrel
    have c3 : wr.cell? ⟨g, 3, none⟩ = some (.int .i64 (first : Int)) := (bk_cell rb 3).trans rfl
    have c2 : wr.cell? ⟨g, 2, none⟩ = some (.slice (some ⟨c, 0, none⟩) win win) := (bk_cell rb 2).trans rfl
    have c4 : wr.cell? ⟨g, 4, none⟩ = some (.int .i64 ((kfo first win off D (L, came) j).2 : Int)) := (bk_cell rb 4).trans rfl
    have c5 : wr.cell? ⟨g, 5, none⟩ = some (.int .i64 (gr : Int)) := (bk_cell rb 5).trans rfl
    have f4 := bk_free rb 4
    have f5 := bk_free rb 5
    have hcw := kfo_came first win off D (L, came) j
    simp only at hcw
    by_cases hlt : j < n
    · have cd : wr.cell? ⟨b, do' + j, none⟩ = some (.int .u8 (D.getD j 0)) := by
        have hblk := ch.block b hbl (fun h => by rcases h with h | h <;> contradiction)
        have : wr.cell? ⟨b, do' + j, none⟩ = w.cell? ⟨b, do' + j, none⟩ := by simp [World.cell?, hblk]
        rw [this]; exact HC.out.1 j hlt
      have hk : kfo first win off D (L, came) (j + 1) = kst first win (kfo first win off D (L, came) j) (off + j) (D.getD j 0) := rfl
      have hlen : (kfo first win off D (L, came) j).1.length = win := by rw [kfo_length]; exact HC.out.2.1
      have H2 : Hid _ := And.intro rb (And.intro rr (And.intro ch (And.intro hk hlen)))
      generalize hS : kfo first win off D (L, came) j = S at *
      generalize D.getD j 0 = x at *
      clear rb rr ch hk c5 f5
      by_cases h1 : off + j < first
      · have d1 : decide ((off : Int) + (j : Int) < (first : Int)) = true := decide_eq_true (by omega)
        go_wp2_with fail
        go_roundg (n - (j + 1))
        case measure => omega
        case rel =>
          refine ⟨j + 1, by omega, rfl, by go_num, ?_⟩
          rw [H2.out.2.2.2.1]
          unfold kst
          rw [if_pos h1]
          exact ⟨H2.out.1, H2.out.2.1, H2.out.2.2.1⟩
      · have d1 : decide ((off : Int) + (j : Int) < (first : Int)) = false := decide_eq_false (by omega)
        obtain ⟨r, er⟩ : ∃ r, r = (off + j) % win := ⟨_, rfl⟩
        have CA := atI g 2 c win (off + j) wr c2 hw hwm (by omega)
        rw [← er, show ((off + j : Nat) : Int) = (off : Int) + (j : Int) by omega] at CA
        have hrl : r < win := by rw [er]; exact Nat.mod_lt _ hw
        have r0 := H2.out.2.1.c0 r (by rw [H2.out.2.2.2.2]; exact hrl)
        have r1 := H2.out.2.1.c1 r (by rw [H2.out.2.2.2.2]; exact hrl)
        have g0 := bk_free H2.out.2.1 (r * 2)
        have g1 := bk_free H2.out.2.1 (r * 2 + 1)
        generalize hv : S.1.getD r (false, 0) = y at r0 r1
        obtain ⟨y1, y2⟩ := y
        simp only at r0 r1
        have HR : Hid _ := And.intro er (And.intro hv True.intro)
        clear er hv hrl
        cases y1
        · go_wp2_with fail
          go_at_call 39
          refine CA.mono ?_
          rintro e wq ⟨rfl, q, rfl⟩
          clear CA
          go_wp2_with fail
          go_roundg (n - (j + 1))
          case measure => omega
          case rel =>
            refine ⟨j + 1, by omega, rfl, by go_num, ?_⟩
            rw [H2.out.2.2.2.1]
            unfold kst
            rw [if_neg h1, ← HR.out.1, HR.out.2.1]
            have hb3 : rcB (wr.drewN q) g c win st first S.2 gr fin told := H2.out.1
            have hr3 : rgB (wr.drewN q) c S.1 := H2.out.2.1
            have ch3 : Chg (K2 g c) w (wr.drewN q) := H2.out.2.2.1.trans ⟨rfl, rfl, rfl, Nat.le_refl _, fun _ _ _ => rfl⟩
            refine ⟨?_, ?_, ((ch3.set' c (r * 2) _ (Or.inr rfl)).set' c (r * 2 + 1) _ (Or.inr rfl)).set' g 4 _ (Or.inl rfl)⟩
            · have e : (((S.1.set r (true, x), S.2 + 1) : List (Bool × Int) × Nat).2 : Int) = (S.2 : Int) + 1 := by simp
              rw [if_neg (by simp), e]
              exact rcB.set ((bk_other hgc _ _).trans ((bk_other hgc _ _).trans hb3)) _
            · rw [if_neg (by simp)]
              exact (bk_other (Ne.symm hgc) _ _).trans (hr3.set r true x)
        · go_wp2_with fail
          go_at_call 39
          refine CA.mono ?_
          rintro e wq ⟨rfl, q, rfl⟩
          clear CA
          go_wp2_with fail
          go_roundg (n - (j + 1))
          case measure => omega
          case rel =>
            refine ⟨j + 1, by omega, rfl, by go_num, ?_⟩
            rw [H2.out.2.2.2.1]
            unfold kst
            rw [if_neg h1, ← HR.out.1, HR.out.2.1]
            exact ⟨H2.out.1, H2.out.2.1, H2.out.2.2.1.trans ⟨rfl, rfl, rfl, Nat.le_refl _, fun _ _ _ => rfl⟩⟩
    · obtain rfl : n = j := by omega
      have hmx : ((max gr (off + n) : Nat) : Int) = (if (gr : Int) < (off : Int) + (n : Int) then (off : Int) + (n : Int) else (gr : Int)) := by split <;> omega
      have H2 : Hid _ := And.intro rb (And.intro rr (And.intro ch hmx))
      clear rb rr ch hmx
      have hjd : decide ((n : Int) < (n : Int)) = false := decide_eq_false (by omega)
      go_wp2_with fail
      · rename_i h
        go_end0
        refine ⟨rfl, ?_, (bk_other (Ne.symm hgc) 5 _).trans H2.out.2.1, H2.out.2.2.1.set' g 5 _ (Or.inl rfl)⟩
        have e : ((max gr (off + n) : Nat) : Int) = (off : Int) + (n : Int) := by omega
        rw [e]
        exact bk_set H2.out.1 5 _
      · rename_i h
        go_end0
        refine ⟨rfl, ?_, (bk_other (Ne.symm hgc) 5 _).trans H2.out.2.1, H2.out.2.2.1.set' g 5 _ (Or.inl rfl)⟩
        have e : ((max gr (off + n) : Nat) : Int) = (gr : Int) := by omega
        rw [e]
        exact bk_set H2.out.1 5 _
end Go.Proofs.YthbggabgklnhgaaDoor

namespace Go.Proofs.YthbggabgklnhgaaDoor
open Go.RowKit
set_option linter.unusedVariables false

set_option maxRecDepth 20000 in
set_option maxHeartbeats 2000000 in
/-- How many lie ready, one behind the other. -/
theorem thereA (g c win st first : Nat) (came gr fin told : Int) (M : Nat) (L : List (Bool × Int)) (w : World)
    (hb : rcB w g c win st first came gr fin told) (hr : rgB w c L) (hL : L.length = win) (hw : 0 < win) (hwm : win ≤ 16384) (hf : first ≤ 1000000) (hM : M ≤ win) :
    Calls Tryd.prog 35 #[.pointer (some ⟨g, 0, none⟩), .int .i64 (M : Int)] w fun e w' => ∃ r : Nat, e = .returned (.int .i64 (r : Int)) ∧ r ≤ M ∧ (∀ i, i < r → (L.getD ((first + i) % win) (false, 0)).1 = true) ∧ (r = M ∨ (L.getD ((first + r) % win) (false, 0)).1 = false) ∧ ∃ m, w' = w.drewN m := by
  have c2 : w.cell? ⟨g, 2, none⟩ = some (.slice (some ⟨c, 0, none⟩) win win) := (bk_cell hb 2).trans rfl
  have c3 : w.cell? ⟨g, 3, none⟩ = some (.int .i64 (first : Int)) := (bk_cell hb 3).trans rfl
  have HR : Hid _ := And.intro hr (And.intro hL True.intro)
  clear hb hr hL
  have hmw : (M : Int) ≤ (win : Int) := by omega
  go_enter Tryd.func35, Tryd.ntmps35
  go_wp2_with fail
  go_loopg [5] M (fun q i wr => ∃ j : Nat, j ≤ M ∧ q = M - j ∧ i = .int .i64 (j : Int) ∧ (∀ i, i < j → (L.getD ((first + i) % win) (false, 0)).1 = true) ∧ ∃ m, wr = w.drewN m)
  case atStart => exact ⟨0, by omega, by omega, rfl, fun i h => by omega, 0, rfl⟩
  case round =>
    obtain ⟨j, hj, hq, rfl, hp, m, rfl⟩ := hrel
    have HP : Hid _ := hp
    clear hp
    have w2 : (w.drewN m).cell? ⟨g, 2, none⟩ = some (.slice (some ⟨c, 0, none⟩) win win) := c2
    have w3 : (w.drewN m).cell? ⟨g, 3, none⟩ = some (.int .i64 (first : Int)) := c3
    have hrW : rgB (w.drewN m) c L := HR.out.1
    have hDD : ∀ q, ∃ m', (w.drewN m).drewN q = w.drewN m' := fun q => ⟨m + q, by rw [World.drewN_drewN]⟩
    generalize w.drewN m = W at *
    by_cases hlt : j < M
    · have CA : ∀ q, _ := fun q => atI g 2 c win (first + j) (W.drewN q) w2 hw hwm (by omega)
      have hrl : (first + j) % win < win := Nat.mod_lt _ hw
      have r0 := hrW.c0 ((first + j) % win) (by rw [HR.out.2.1]; exact hrl)
      generalize hbb : (L.getD ((first + j) % win) (false, 0)).1 = bb at r0
      have HA : Hid _ := And.intro CA (And.intro hbb (And.intro hDD True.intro))
      clear CA hbb hrl hDD hrW c2 c3
      have ea : ((first + j : Nat) : Int) = (first : Int) + (j : Int) := by omega
      rw [ea] at HA
      generalize hrr : (first + j) % win = r at *
      have HRR : Hid _ := hrr
      have ew : IntKind.i64.wrap ((first : Int) + (j : Int)) = (first : Int) + (j : Int) := by rw [IntKind.wrap_i64]; omega
      have d1 : decide ((j : Int) < (M : Int)) = true := decide_eq_true (by omega)
      clear hrr ea
      go_wp2_with fail
      go_quiet (first | (go_at_call 39; exact Calls.quiet_of (HA.out.1 _)))
      cases bb
      · go_wp2_with fail
        go_ret
        exact ⟨j, rfl, by omega, HP.out, Or.inr (by rw [HRR.out]; exact HA.out.2.1), HA.out.2.2.1 nq⟩
      · go_wp2_with fail
        go_roundg (M - (j + 1))
        case measure => omega
        case rel =>
          refine ⟨j + 1, by omega, rfl, by go_num, fun i hi => ?_, HA.out.2.2.1 nq⟩
          by_cases e : i = j
          · subst e; rw [HRR.out]; exact HA.out.2.1
          · exact HP.out i (by omega)
    · obtain rfl : M = j := by omega
      have d1 : decide ((M : Int) < (M : Int)) = false := decide_eq_false (by omega)
      have HA : Hid _ := hDD
      clear hDD hrW c2 c3
      go_wp2_with fail
      go_quiet (fail)
      go_wp2_with fail
      go_ret
      exact ⟨M, rfl, by omega, HP.out, Or.inl rfl, HA.out nq⟩
set_option maxRecDepth 20000 in
set_option maxHeartbeats 2000000 in
/-- How many lie ready, one behind the other. -/
theorem thereB (g c win st first : Nat) (came gr fin told most : Int) (M : Nat) (L : List (Bool × Int)) (w : World)
    (hb : rcB w g c win st first came gr fin told) (hr : rgB w c L) (hL : L.length = win) (hw : 0 < win) (hwm : win ≤ 16384) (hf : first ≤ 1000000) (hM : M = win) (hmo : (win : Int) < most) :
    Calls Tryd.prog 35 #[.pointer (some ⟨g, 0, none⟩), .int .i64 most] w fun e w' => ∃ r : Nat, e = .returned (.int .i64 (r : Int)) ∧ r ≤ M ∧ (∀ i, i < r → (L.getD ((first + i) % win) (false, 0)).1 = true) ∧ (r = M ∨ (L.getD ((first + r) % win) (false, 0)).1 = false) ∧ ∃ m, w' = w.drewN m := by
  have c2 : w.cell? ⟨g, 2, none⟩ = some (.slice (some ⟨c, 0, none⟩) win win) := (bk_cell hb 2).trans rfl
  have c3 : w.cell? ⟨g, 3, none⟩ = some (.int .i64 (first : Int)) := (bk_cell hb 3).trans rfl
  have HR : Hid _ := And.intro hr (And.intro hL True.intro)
  clear hb hr hL
  have hmw : (most ≤ (win : Int)) = False := by simp; omega
  have hmw2 : decide (most ≤ (win : Int)) = false := decide_eq_false (by omega)
  have hmw3 : min most (win : Int) = (win : Int) := by omega
  go_enter Tryd.func35, Tryd.ntmps35
  go_wp2_with fail
  go_loopg [5] M (fun q i wr => ∃ j : Nat, j ≤ M ∧ q = M - j ∧ i = .int .i64 (j : Int) ∧ (∀ i, i < j → (L.getD ((first + i) % win) (false, 0)).1 = true) ∧ ∃ m, wr = w.drewN m)
  case atStart => exact ⟨0, by omega, by omega, rfl, fun i h => by omega, 0, rfl⟩
  case round =>
    obtain ⟨j, hj, hq, rfl, hp, m, rfl⟩ := hrel
    have HP : Hid _ := hp
    clear hp
    have w2 : (w.drewN m).cell? ⟨g, 2, none⟩ = some (.slice (some ⟨c, 0, none⟩) win win) := c2
    have w3 : (w.drewN m).cell? ⟨g, 3, none⟩ = some (.int .i64 (first : Int)) := c3
    have hrW : rgB (w.drewN m) c L := HR.out.1
    have hDD : ∀ q, ∃ m', (w.drewN m).drewN q = w.drewN m' := fun q => ⟨m + q, by rw [World.drewN_drewN]⟩
    generalize w.drewN m = W at *
    by_cases hlt : j < M
    · have CA : ∀ q, _ := fun q => atI g 2 c win (first + j) (W.drewN q) w2 hw hwm (by omega)
      have hrl : (first + j) % win < win := Nat.mod_lt _ hw
      have r0 := hrW.c0 ((first + j) % win) (by rw [HR.out.2.1]; exact hrl)
      generalize hbb : (L.getD ((first + j) % win) (false, 0)).1 = bb at r0
      have HA : Hid _ := And.intro CA (And.intro hbb (And.intro hDD True.intro))
      clear CA hbb hrl hDD hrW c2 c3
      have ea : ((first + j : Nat) : Int) = (first : Int) + (j : Int) := by omega
      rw [ea] at HA
      generalize hrr : (first + j) % win = r at *
      have HRR : Hid _ := hrr
      have ew : IntKind.i64.wrap ((first : Int) + (j : Int)) = (first : Int) + (j : Int) := by rw [IntKind.wrap_i64]; omega
      have d1 : decide (j < win) = true := decide_eq_true (by omega)
      have d2 : j < win := by omega
      clear hrr ea
      go_wp2_with fail
      go_quiet (first | (go_at_call 39; exact Calls.quiet_of (HA.out.1 _)))
      cases bb
      · go_wp2_with fail
        go_ret
        exact ⟨j, rfl, by omega, HP.out, Or.inr (by rw [HRR.out]; exact HA.out.2.1), HA.out.2.2.1 nq⟩
      · go_wp2_with fail
        go_roundg (M - (j + 1))
        case measure => omega
        case rel =>
          refine ⟨j + 1, by omega, rfl, by go_num, fun i hi => ?_, HA.out.2.2.1 nq⟩
          by_cases e : i = j
          · subst e; rw [HRR.out]; exact HA.out.2.1
          · exact HP.out i (by omega)
    · obtain rfl : M = j := by omega
      have d1 : decide (M < win) = false := decide_eq_false (by omega)
      have HA : Hid _ := hDD
      clear hDD hrW c2 c3
      go_wp2_with fail
      go_quiet (fail)
      go_wp2_with fail
      go_ret
      exact ⟨M, rfl, by omega, HP.out, Or.inl rfl, HA.out nq⟩
end Go.Proofs.YthbggabgklnhgaaDoor

namespace Go.Proofs.YthbggabgklnhgaaDoor
open Go.RowKit
set_option linter.unusedVariables false

theorem mt4 (st : Nat) (hs : st < 6) : mtV 0 st 4 = decide (st < 2) := by
  have : st = 0 ∨ st = 1 ∨ st = 2 ∨ st = 3 ∨ st = 4 ∨ st = 5 := by omega
  rcases this with rfl | rfl | rfl | rfl | rfl | rfl <;> rfl
/-- What a reset does: the code, the state, the final size. -/
def rsV (st : Nat) (gr fin told n : Int) : Int × Nat × Int :=
  if n < 0 ∨ 4611686018427387903 < n then (1, st, fin) else if told < n then (8, st, fin) else if ¬ (gr ≤ n ∧ (fin = -1 ∨ n = fin)) then (10, st, fin) else (0, (if st < 2 then 4 else st), n)
set_option maxRecDepth 20000 in
set_option maxHeartbeats 1000000 in
theorem resetI (g c win st : Nat) (first came gr fin told n : Int) (w : World) (hs : st < 6) (ht : TabF w) (h0 : 0 < w.heap.size) (hne : 0 ≠ g) (hb : rcB w g c win st first came gr fin told) :
    Calls Tryd.prog 23 #[.pointer (some ⟨g, 0, none⟩), .int .i64 n] w fun e w' => e = .returned (.int .i64 (rsV st gr fin told n).1) ∧ rcB w' g c win (rsV st gr fin told n).2.1 first came gr (rsV st gr fin told n).2.2 told ∧ Chg (· = g) w w' := by
  have d7 : w.cell? ⟨g, 7, none⟩ = some (.int .i64 told) := (bk_cell hb 7).trans rfl
  have d6 : w.cell? ⟨g, 6, none⟩ = some (.int .i64 fin) := (bk_cell hb 6).trans rfl
  have f6 := bk_free hb 6
  have CM := mayEndI g c win st first came gr fin told n w hb
  have HB : Hid _ := And.intro hb (And.intro ht True.intro)
  have hrf : Chg (· = g) w w := ⟨rfl, rfl, rfl, Nat.le_refl _, fun _ _ _ => rfl⟩
  by_cases a1 : n < 0
  · have e : rsV st gr fin told n = (1, st, fin) := by unfold rsV; rw [if_pos (Or.inl a1)]
    rw [e]
    clear hb CM
    go_enter Tryd.func23, Tryd.ntmps23
    go_wp2
    go_ret
    exact ⟨rfl, HB.out.1, hrf⟩
  by_cases a2 : 4611686018427387903 < n
  · have e : rsV st gr fin told n = (1, st, fin) := by unfold rsV; rw [if_pos (Or.inr a2)]
    rw [e]
    clear hb CM
    go_enter Tryd.func23, Tryd.ntmps23
    go_wp2
    go_ret
    exact ⟨rfl, HB.out.1, hrf⟩
  have hno : ¬ (n < 0 ∨ 4611686018427387903 < n) := by omega
  by_cases a3 : told < n
  · have e : rsV st gr fin told n = (8, st, fin) := by unfold rsV; rw [if_neg hno, if_pos a3]
    rw [e]
    clear hb CM
    go_enter Tryd.func23, Tryd.ntmps23
    go_wp2
    go_ret
    exact ⟨rfl, HB.out.1, hrf⟩
  by_cases a4 : gr ≤ n ∧ (fin = -1 ∨ n = fin)
  · obtain ⟨s2, es⟩ : ∃ s2, s2 = (if st < 2 then 4 else st) := ⟨_, rfl⟩
    have e : rsV st gr fin told n = (0, s2, n) := by unfold rsV; rw [if_neg hno, if_neg a3, if_neg (fun h => h a4), es]
    rw [e]
    rw [decide_eq_true a4] at CM
    have hb2 : rcB (w.setCell ⟨g, 6, none⟩ (.int .i64 n)) g c win st first came gr n told := bk_set hb 6 _
    have ht2 : TabF (w.setCell ⟨g, 6, none⟩ (.int .i64 n)) := by
      have hcell : ∀ j, (w.setCell ⟨g, 6, none⟩ (.int .i64 n)).cell? ⟨0, j, none⟩ = w.cell? ⟨0, j, none⟩ := fun j => by simp only [World.cell?, bk_other hne 6 _]
      exact ⟨(hcell 0).trans ht.c0, (hcell 1).trans ht.c1, (hcell 2).trans ht.c2, (hcell 3).trans ht.c3, (hcell 4).trans ht.c4, (hcell 5).trans ht.c5, (hcell 6).trans ht.c6, (hcell 7).trans ht.c7, (hcell 8).trans ht.c8, (hcell 9).trans ht.c9, (hcell 10).trans ht.c10, (hcell 11).trans ht.c11⟩
    have CT := turnI g 0 st 4 _ _ (by decide) hs (by decide) (by decide) _ ht2 (by simpa [World.setCell] using h0) hb2 rfl rfl
    have H2 : Hid _ := And.intro (mt4 st hs) (hrf.set' g 6 (.int .i64 n) rfl)
    have HE : Hid _ := es
    clear hb hb2 ht2 ht es
    go_enter Tryd.func23, Tryd.ntmps23
    go_wp2_with fail
    go_at_call 31
    refine CM.mono ?_
    rintro e w1 ⟨rfl, hw⟩
    subst w1
    go_wp2_with fail
    go_at_call 28
    refine CT.mono ?_
    rintro e w1 ⟨rfl, r1, r2⟩
    have H3 : Hid _ := And.intro r1 (H2.out.2.trans r2)
    clear r1 r2 CT CM
    go_wp2
    go_ret
    refine ⟨rfl, ?_, H3.out.2⟩
    rw [HE.out]
    have r1 := H3.out.1
    rw [H2.out.1] at r1
    by_cases hst : st < 2
    · rw [if_pos hst]
      rw [decide_eq_true hst, if_pos rfl] at r1
      exact r1
    · rw [if_neg hst]
      rw [decide_eq_false hst, if_neg (by simp)] at r1
      exact r1
  · have e : rsV st gr fin told n = (10, st, fin) := by unfold rsV; rw [if_neg hno, if_neg a3, if_pos a4]
    rw [e]
    rw [decide_eq_false a4] at CM
    clear hb
    go_enter Tryd.func23, Tryd.ntmps23
    go_wp2_with fail
    go_at_call 31
    refine CM.mono ?_
    rintro e w1 ⟨rfl, hw⟩
    subst w1
    go_wp2
    go_ret
    exact ⟨rfl, HB.out.1, hrf⟩
end Go.Proofs.YthbggabgklnhgaaDoor

namespace Go.Proofs.YthbggabgklnhgaaDoor
open Go.RowKit
set_option linter.unusedVariables false

theorem TabF.chg {w w' : World} {S : Nat → Prop} (h : TabF w) (hc : Chg S w w') (h0 : 0 < w.heap.size) (hs : ¬ S 0) : TabF w' := by
  have hb := hc.block _ h0 hs
  have hcell : ∀ j, w'.cell? ⟨0, j, none⟩ = w.cell? ⟨0, j, none⟩ := fun j => by simp only [World.cell?, hb]
  exact ⟨(hcell 0).trans h.c0, (hcell 1).trans h.c1, (hcell 2).trans h.c2, (hcell 3).trans h.c3, (hcell 4).trans h.c4, (hcell 5).trans h.c5, (hcell 6).trans h.c6, (hcell 7).trans h.c7, (hcell 8).trans h.c8, (hcell 9).trans h.c9, (hcell 10).trans h.c10, (hcell 11).trans h.c11⟩
theorem mt1 (st : Nat) (hs : st < 6) : mtV 0 st 1 = decide (st = 0) := by
  have : st = 0 ∨ st = 1 ∨ st = 2 ∨ st = 3 ∨ st = 4 ∨ st = 5 := by omega
  rcases this with rfl | rfl | rfl | rfl | rfl | rfl <;> rfl
theorem mt2 (st : Nat) (hs : st < 6) : mtV 0 st 2 = decide (st = 1) := by
  have : st = 0 ∨ st = 1 ∨ st = 2 ∨ st = 3 ∨ st = 4 ∨ st = 5 := by omega
  rcases this with rfl | rfl | rfl | rfl | rfl | rfl <;> rfl
/-- The end of the turn's contract, at the receiving part. -/
theorem turnR (g c win st x : Nat) (first came gr fin told : Int) (hs : st < 6) (h1 : 1 ≤ x) (h5 : x ≤ 5) (w : World) (ht : TabF w) (h0 : 0 < w.heap.size) (hb : rcB w g c win st first came gr fin told) :
    Calls Tryd.prog 28 #[.pointer (some ⟨g, 0, none⟩), .int .i64 (x : Int)] w fun e w' => e = .returned (.bool (mtV 0 st x)) ∧ rcB w' g c win (if mtV 0 st x then x else st) first came gr fin told ∧ Chg (· = g) w w' := by
  refine (turnI g 0 st x _ _ (by decide) hs h1 h5 w ht h0 hb rfl rfl).mono ?_
  rintro e w' ⟨rfl, h2, h3⟩
  refine ⟨rfl, ?_, h3⟩
  cases hm : mtV 0 st x
  · rw [hm] at h2; exact h2
  · rw [hm] at h2; exact h2
end Go.Proofs.YthbggabgklnhgaaDoor

namespace Go.Proofs.YthbggabgklnhgaaDoor
open Go.RowKit
set_option linter.unusedVariables false

/-- Where data is refused: the code, 0 where it is not. -/
def dtE (gr : Nat) (fin told : Int) (n : Nat) (off : Int) (fb : Bool) : Int :=
  if 1500 < n ∨ off < 0 ∨ 4611686018427387903 - (n : Int) < off then 1
  else if told < off + n then 8
  else if (fin ≠ -1 ∧ fin < off + n) ∨ (fb = true ∧ ¬ ((gr : Int) ≤ off + n ∧ (fin = -1 ∨ off + n = fin))) then 10 else 0
set_option maxRecDepth 20000 in
set_option maxHeartbeats 1000000 in
theorem data_1 (g c win st first came gr : Nat) (fin told off : Int) (av : Option Addr) (n dc : Nat) (fb : Bool) (w : World) (hb : rcB w g c win st first came gr fin told) (h : 1500 < n) (hm : n ≤ 9223372036854775807) :
    Calls Tryd.prog 22 #[.pointer (some ⟨g, 0, none⟩), .int .i64 off, .slice av n dc, .bool fb] w fun e w' => e = .returned (.int .i64 1) ∧ w' = w := by
  have d6 : w.cell? ⟨g, 6, none⟩ = some (.int .i64 fin) := (bk_cell hb 6).trans rfl
  have d7 : w.cell? ⟨g, 7, none⟩ = some (.int .i64 told) := (bk_cell hb 7).trans rfl
  clear hb
  go_enter Tryd.func22, Tryd.ntmps22
  go_wp2
  go_ret
  exact ⟨rfl, rfl⟩
set_option maxRecDepth 20000 in
set_option maxHeartbeats 1000000 in
theorem data_2 (g c win st first came gr : Nat) (fin told off : Int) (av : Option Addr) (n dc : Nat) (fb : Bool) (w : World) (hb : rcB w g c win st first came gr fin told) (h : n ≤ 1500) (h2 : off < 0) :
    Calls Tryd.prog 22 #[.pointer (some ⟨g, 0, none⟩), .int .i64 off, .slice av n dc, .bool fb] w fun e w' => e = .returned (.int .i64 1) ∧ w' = w := by
  have d6 : w.cell? ⟨g, 6, none⟩ = some (.int .i64 fin) := (bk_cell hb 6).trans rfl
  have d7 : w.cell? ⟨g, 7, none⟩ = some (.int .i64 told) := (bk_cell hb 7).trans rfl
  clear hb
  go_enter Tryd.func22, Tryd.ntmps22
  go_wp2
  go_ret
  exact ⟨rfl, rfl⟩
set_option maxRecDepth 20000 in
set_option maxHeartbeats 1000000 in
theorem data_3 (g c win st first came gr : Nat) (fin told off : Int) (av : Option Addr) (n dc : Nat) (fb : Bool) (w : World) (hb : rcB w g c win st first came gr fin told) (h : n ≤ 1500) (h2 : 0 ≤ off) (h3 : 4611686018427387903 - (n : Int) < off) (hm : off ≤ 9223372036854775807) :
    Calls Tryd.prog 22 #[.pointer (some ⟨g, 0, none⟩), .int .i64 off, .slice av n dc, .bool fb] w fun e w' => e = .returned (.int .i64 1) ∧ w' = w := by
  have d6 : w.cell? ⟨g, 6, none⟩ = some (.int .i64 fin) := (bk_cell hb 6).trans rfl
  have d7 : w.cell? ⟨g, 7, none⟩ = some (.int .i64 told) := (bk_cell hb 7).trans rfl
  clear hb
  go_enter Tryd.func22, Tryd.ntmps22
  go_wp2
  go_ret
  exact ⟨rfl, rfl⟩
set_option maxRecDepth 20000 in
set_option maxHeartbeats 1000000 in
theorem data_4 (g c win st first came gr : Nat) (fin told off : Int) (av : Option Addr) (n dc : Nat) (fb : Bool) (w : World) (hb : rcB w g c win st first came gr fin told) (h : n ≤ 1500) (h2 : 0 ≤ off) (h3 : off ≤ 4611686018427387903 - (n : Int)) (h4 : told < off + n) :
    Calls Tryd.prog 22 #[.pointer (some ⟨g, 0, none⟩), .int .i64 off, .slice av n dc, .bool fb] w fun e w' => e = .returned (.int .i64 8) ∧ w' = w := by
  have d6 : w.cell? ⟨g, 6, none⟩ = some (.int .i64 fin) := (bk_cell hb 6).trans rfl
  have d7 : w.cell? ⟨g, 7, none⟩ = some (.int .i64 told) := (bk_cell hb 7).trans rfl
  clear hb
  go_enter Tryd.func22, Tryd.ntmps22
  go_wp2
  go_ret
  exact ⟨rfl, rfl⟩
set_option maxRecDepth 20000 in
set_option maxHeartbeats 1000000 in
theorem data_5 (g c win st first came gr : Nat) (fin told off : Int) (av : Option Addr) (n dc : Nat) (fb : Bool) (w : World) (hb : rcB w g c win st first came gr fin told) (h : n ≤ 1500) (h2 : 0 ≤ off) (h3 : off ≤ 4611686018427387903 - (n : Int)) (h4 : off + n ≤ told) (h5 : fin ≠ -1) (h6 : fin < off + n) :
    Calls Tryd.prog 22 #[.pointer (some ⟨g, 0, none⟩), .int .i64 off, .slice av n dc, .bool fb] w fun e w' => e = .returned (.int .i64 10) ∧ w' = w := by
  have d6 : w.cell? ⟨g, 6, none⟩ = some (.int .i64 fin) := (bk_cell hb 6).trans rfl
  have d7 : w.cell? ⟨g, 7, none⟩ = some (.int .i64 told) := (bk_cell hb 7).trans rfl
  have b5 : (fin != -1) = true := by simpa using h5
  clear hb
  go_enter Tryd.func22, Tryd.ntmps22
  go_wp2
  go_ret
  exact ⟨rfl, rfl⟩
set_option maxRecDepth 20000 in
set_option maxHeartbeats 1000000 in
theorem data_6 (g c win st first came gr : Nat) (fin told off : Int) (av : Option Addr) (n dc : Nat) (fb : Bool) (w : World) (hb : rcB w g c win st first came gr fin told) (h : n ≤ 1500) (h2 : 0 ≤ off) (h3 : off ≤ 4611686018427387903 - (n : Int)) (h4 : off + n ≤ told) (h5 : fin = -1 ∨ off + n ≤ fin) (hf : fb = true) (h6 : ¬ ((gr : Int) ≤ off + n ∧ (fin = -1 ∨ off + n = fin))) :
    Calls Tryd.prog 22 #[.pointer (some ⟨g, 0, none⟩), .int .i64 off, .slice av n dc, .bool fb] w fun e w' => e = .returned (.int .i64 10) ∧ w' = w := by
  have d6 : w.cell? ⟨g, 6, none⟩ = some (.int .i64 fin) := (bk_cell hb 6).trans rfl
  have d7 : w.cell? ⟨g, 7, none⟩ = some (.int .i64 told) := (bk_cell hb 7).trans rfl
  have CM := mayEndI g c win st first came gr fin told (off + n) w hb
  rw [decide_eq_false h6] at CM
  clear hb
  subst hf
  by_cases h7 : fin = -1
  · have b5 : (fin != -1) = false := by simpa using h7
    go_enter Tryd.func22, Tryd.ntmps22
    go_wp2_with (go_at_call 31; refine CM.mono ?_; rintro e wy ⟨rfl, rfl⟩)
    go_ret
    exact ⟨rfl, rfl⟩
  have b5 : (fin != -1) = true := by simpa using h7
  have b6 : off + n ≤ fin := h5.resolve_left h7
  go_enter Tryd.func22, Tryd.ntmps22
  go_wp2_with (go_at_call 31; refine CM.mono ?_; rintro e wy ⟨rfl, rfl⟩)
  go_ret
  exact ⟨rfl, rfl⟩
theorem chg_of_eq {S : Nat → Prop} (w : World) : Chg S w w := ⟨rfl, rfl, rfl, Nat.le_refl _, fun _ _ _ => rfl⟩
set_option maxRecDepth 20000 in
set_option maxHeartbeats 1000000 in
theorem data_7te (g c win st first came gr : Nat) (fin told off : Int) (av : Option Addr) (n dc : Nat) (w : World) (hb : rcB w g c win st first came gr fin told) (h : n ≤ 1500) (h2 : 0 ≤ off) (h3 : off ≤ 4611686018427387903 - (n : Int)) (h4 : off + n ≤ told) (h7 : fin = -1) (h6 : (gr : Int) ≤ off + n ∧ (fin = -1 ∨ off + n = fin))  (hs : st < 6) (h8 : 2 ≤ st) (ht : TabF w) (h0 : 0 < w.heap.size) :
    Calls Tryd.prog 22 #[.pointer (some ⟨g, 0, none⟩), .int .i64 off, .slice av n dc, .bool true] w fun e w' => e = .returned (.int .i64 0) ∧ Below w.heap.size w w' := by
  have d6 : w.cell? ⟨g, 6, none⟩ = some (.int .i64 fin) := (bk_cell hb 6).trans rfl
  have d7 : w.cell? ⟨g, 7, none⟩ = some (.int .i64 told) := (bk_cell hb 7).trans rfl
  have b5 : (fin != -1) = false := by simpa using h7
  have CM := mayEndI g c win st first came gr fin told (off + n) w hb
  rw [decide_eq_true h6] at CM
  have CT := takingI g c win st first came gr fin told w hs ht h0 hb
  rw [decide_eq_false (by omega)] at CT
  clear hb ht h0
  go_enter Tryd.func22, Tryd.ntmps22
  go_wp2_with fail
  go_at_call 31
  refine CM.mono ?_
  rintro e wy ⟨rfl, hwy⟩
  subst wy
  go_wp2_with fail
  go_at_call 32
  refine CT.mono ?_
  rintro e w1 ⟨rfl, b1⟩
  go_wp2
  go_ret
  exact ⟨rfl, b1⟩
set_option maxRecDepth 20000 in
set_option maxHeartbeats 1000000 in
theorem data_7tn (g c win st first came gr : Nat) (fin told off : Int) (av : Option Addr) (n dc : Nat) (w : World) (hb : rcB w g c win st first came gr fin told) (h : n ≤ 1500) (h2 : 0 ≤ off) (h3 : off ≤ 4611686018427387903 - (n : Int)) (h4 : off + n ≤ told) (h7 : fin ≠ -1) (h5 : off + n ≤ fin) (h6 : (gr : Int) ≤ off + n ∧ (fin = -1 ∨ off + n = fin))  (hs : st < 6) (h8 : 2 ≤ st) (ht : TabF w) (h0 : 0 < w.heap.size) :
    Calls Tryd.prog 22 #[.pointer (some ⟨g, 0, none⟩), .int .i64 off, .slice av n dc, .bool true] w fun e w' => e = .returned (.int .i64 0) ∧ Below w.heap.size w w' := by
  have d6 : w.cell? ⟨g, 6, none⟩ = some (.int .i64 fin) := (bk_cell hb 6).trans rfl
  have d7 : w.cell? ⟨g, 7, none⟩ = some (.int .i64 told) := (bk_cell hb 7).trans rfl
  have b5 : (fin != -1) = true := by simpa using h7
  have CM := mayEndI g c win st first came gr fin told (off + n) w hb
  rw [decide_eq_true h6] at CM
  have CT := takingI g c win st first came gr fin told w hs ht h0 hb
  rw [decide_eq_false (by omega)] at CT
  clear hb ht h0
  go_enter Tryd.func22, Tryd.ntmps22
  go_wp2_with fail
  go_at_call 31
  refine CM.mono ?_
  rintro e wy ⟨rfl, hwy⟩
  subst wy
  go_wp2_with fail
  go_at_call 32
  refine CT.mono ?_
  rintro e w1 ⟨rfl, b1⟩
  go_wp2
  go_ret
  exact ⟨rfl, b1⟩
set_option maxRecDepth 20000 in
set_option maxHeartbeats 1000000 in
theorem data_7fe (g c win st first came gr : Nat) (fin told off : Int) (av : Option Addr) (n dc : Nat) (w : World) (hb : rcB w g c win st first came gr fin told) (h : n ≤ 1500) (h2 : 0 ≤ off) (h3 : off ≤ 4611686018427387903 - (n : Int)) (h4 : off + n ≤ told) (h7 : fin = -1)  (hs : st < 6) (h8 : 2 ≤ st) (ht : TabF w) (h0 : 0 < w.heap.size) :
    Calls Tryd.prog 22 #[.pointer (some ⟨g, 0, none⟩), .int .i64 off, .slice av n dc, .bool false] w fun e w' => e = .returned (.int .i64 0) ∧ Below w.heap.size w w' := by
  have d6 : w.cell? ⟨g, 6, none⟩ = some (.int .i64 fin) := (bk_cell hb 6).trans rfl
  have d7 : w.cell? ⟨g, 7, none⟩ = some (.int .i64 told) := (bk_cell hb 7).trans rfl
  have b5 : (fin != -1) = false := by simpa using h7
  have CT := takingI g c win st first came gr fin told w hs ht h0 hb
  rw [decide_eq_false (by omega)] at CT
  clear hb ht h0
  go_enter Tryd.func22, Tryd.ntmps22
  go_wp2_with fail
  go_at_call 32
  refine CT.mono ?_
  rintro e w1 ⟨rfl, b1⟩
  go_wp2
  go_ret
  exact ⟨rfl, b1⟩
set_option maxRecDepth 20000 in
set_option maxHeartbeats 1000000 in
theorem data_7fn (g c win st first came gr : Nat) (fin told off : Int) (av : Option Addr) (n dc : Nat) (w : World) (hb : rcB w g c win st first came gr fin told) (h : n ≤ 1500) (h2 : 0 ≤ off) (h3 : off ≤ 4611686018427387903 - (n : Int)) (h4 : off + n ≤ told) (h7 : fin ≠ -1) (h5 : off + n ≤ fin)  (hs : st < 6) (h8 : 2 ≤ st) (ht : TabF w) (h0 : 0 < w.heap.size) :
    Calls Tryd.prog 22 #[.pointer (some ⟨g, 0, none⟩), .int .i64 off, .slice av n dc, .bool false] w fun e w' => e = .returned (.int .i64 0) ∧ Below w.heap.size w w' := by
  have d6 : w.cell? ⟨g, 6, none⟩ = some (.int .i64 fin) := (bk_cell hb 6).trans rfl
  have d7 : w.cell? ⟨g, 7, none⟩ = some (.int .i64 told) := (bk_cell hb 7).trans rfl
  have b5 : (fin != -1) = true := by simpa using h7
  have CT := takingI g c win st first came gr fin told w hs ht h0 hb
  rw [decide_eq_false (by omega)] at CT
  clear hb ht h0
  go_enter Tryd.func22, Tryd.ntmps22
  go_wp2_with fail
  go_at_call 32
  refine CT.mono ?_
  rintro e w1 ⟨rfl, b1⟩
  go_wp2
  go_ret
  exact ⟨rfl, b1⟩
end Go.Proofs.YthbggabgklnhgaaDoor

namespace Go.Proofs.YthbggabgklnhgaaDoor
open Go.RowKit
set_option linter.unusedVariables false

/-- keep of no byte. -/
theorem keep0 (g c win st first came off : Nat) (av : Option Addr) (dc gr : Nat) (fin told : Int) (w : World) (hb : rcB w g c win st first came gr fin told) (hgc : g ≠ c) (L : List (Bool × Int)) (hr : rgB w c L) (ho : off ≤ 1000000) (hgr : gr ≤ 1000000) :
    Calls Tryd.prog 33 #[.pointer (some ⟨g, 0, none⟩), .int .i64 (off : Int), .slice av 0 dc] w fun e w' => e = .returned (.tuple #[]) ∧ rcB w' g c win st first came (max gr off : Nat) fin told ∧ rgB w' c L ∧ Chg (K2 g c) w w' := by
  have c5 : w.cell? ⟨g, 5, none⟩ = some (.int .i64 (gr : Int)) := (bk_cell hb 5).trans rfl
  have f5 := bk_free hb 5
  have H2 : Hid _ := And.intro hb (And.intro hr (chg_of_eq (S := K2 g c) w))
  clear hb hr
  go_enter Tryd.func33, Tryd.ntmps33
  go_wp2
  refine wp_loop_rounds 1 ?_
  rw [rounds_succ]
  go_wp2_with fail
  · rename_i h
    go_end0
    refine ⟨rfl, ?_, (bk_other (Ne.symm hgc) 5 _).trans H2.out.2.1, H2.out.2.2.set' g 5 _ (Or.inl rfl)⟩
    have e : ((max gr off : Nat) : Int) = (off : Int) := by omega
    rw [e]
    exact bk_set H2.out.1 5 _
  · rename_i h
    go_end0
    refine ⟨rfl, ?_, (bk_other (Ne.symm hgc) 5 _).trans H2.out.2.1, H2.out.2.2.set' g 5 _ (Or.inl rfl)⟩
    have e : ((max gr off : Nat) : Int) = (gr : Int) := by omega
    rw [e]
    exact bk_set H2.out.1 5 _

end Go.Proofs.YthbggabgklnhgaaDoor

namespace Go.Proofs.YthbggabgklnhgaaDoor
open Go.RowKit
set_option linter.unusedVariables false

theorem rcB.fin {w : World} {g c win st : Nat} {first came gr fin told : Int} (h : rcB w g c win st first came gr fin told) (x : Int) : rcB (w.setCell ⟨g, 6, none⟩ (.int .i64 x)) g c win st first came gr x told := bk_set h 6 _
theorem rgB.chg {w w' : World} {g c : Nat} {L : List (Bool × Int)} (h : rgB w c L) (hc : Chg (· = g) w w') (hgc : g ≠ c) : rgB w' c L := (hc.block c (Array.getElem?_eq_some_iff.1 h).1 (fun e => hgc e.symm)).trans h
theorem Chg.k2 {g c : Nat} {w w' : World} (h : Chg (· = g) w w') : Chg (K2 g c) w w' := ⟨h.os, h.tape, h.output, h.size, fun k hk hs => h.block k hk (fun e => hs (Or.inl e))⟩

set_option maxRecDepth 20000 in
set_option maxHeartbeats 2000000 in
theorem data_8te (g c win st first came gr cm gr2 : Nat) (fin told off : Int) (av : Option Addr) (n dc : Nat) (L2 : List (Bool × Int)) (w : World) (hb : rcB w g c win st first came gr fin told) (h : n ≤ 1500) (h2 : 0 ≤ off) (h3 : off ≤ 4611686018427387903 - (n : Int)) (h4 : off + n ≤ told) (h7 : fin = -1) (h6 : (gr : Int) ≤ off + n ∧ (fin = -1 ∨ off + n = fin))  (hs : st < 2) (ht : TabF w) (h0 : 0 < w.heap.size) (hne : ¬ K2 g c 0) (hgc : g ≠ c) (htold : told ≤ 1000000)
    (hK : ∀ u : World, Below w.heap.size w u → Calls Tryd.prog 33 #[.pointer (some ⟨g, 0, none⟩), .int .i64 off, .slice av n dc] u fun e w' => e = .returned (.tuple #[]) ∧ rcB w' g c win st first cm gr2 fin told ∧ rgB w' c L2 ∧ Chg (K2 g c) u w') :
    Calls Tryd.prog 22 #[.pointer (some ⟨g, 0, none⟩), .int .i64 off, .slice av n dc, .bool true] w fun e w' => e = .returned (.int .i64 0) ∧ rcB w' g c win (if (cm : Int) = (off + n) ∧ (if st = 0 then 1 else st) = 1 then 2 else (if st = 0 then 1 else st)) first cm gr2 (off + n) told ∧ rgB w' c L2 ∧ Chg (K2 g c) w w' := by
  have d6 : w.cell? ⟨g, 6, none⟩ = some (.int .i64 fin) := (bk_cell hb 6).trans rfl
  have d7 : w.cell? ⟨g, 7, none⟩ = some (.int .i64 told) := (bk_cell hb 7).trans rfl
  have b5 : (fin != -1) = false := by simpa using h7
  have CM := mayEndI g c win st first came gr fin told (off + n) w hb
  rw [decide_eq_true h6] at CM
  have CT := takingI g c win st first came gr fin told w (by omega) ht h0 hb
  rw [decide_eq_true hs] at CT
  have HK : Hid _ := And.intro hK (And.intro ht True.intro)
  obtain ⟨s2, es2⟩ : ∃ s2, s2 = (if (cm : Int) = (off + n) ∧ (if st = 0 then 1 else st) = 1 then 2 else (if st = 0 then 1 else st)) := ⟨_, rfl⟩
  rw [← es2]
  have HE : Hid _ := es2
  clear hb ht hK es2
  go_enter Tryd.func22, Tryd.ntmps22
  go_wp2_with fail
  go_at_call 31
  refine CM.mono ?_
  rintro e wy ⟨rfl, hwy⟩
  subst wy
  go_wp2_with fail
  go_at_call 32
  refine CT.mono ?_
  rintro e w1 ⟨rfl, b1⟩
  have C2 := HK.out.1 w1 b1
  have ht1 := HK.out.2.1.below b1 h0
  have z1 : 0 < w1.heap.size := Nat.lt_of_lt_of_le h0 b1.size
  go_wp2_with fail
  go_at_call 33
  refine C2.mono ?_
  rintro e w2 ⟨rfl, rb, rr, ch⟩
  have ht2 := ht1.chg ch z1 hne
  have z2 : 0 < w2.heap.size := Nat.lt_of_lt_of_le z1 ch.size
  have ch2 : Chg (K2 g c) w w2 := (Chg.of_below b1).trans ch
  clear C2 CT ch b1 ht1 z1 CM d6 d7
  have f6 := bk_free rb 6
  have d6 : w2.cell? ⟨g, 6, none⟩ = some (.int .i64 fin) := (bk_cell rb 6).trans rfl
  have cs : Chg (· = g) w2 (w2.setCell ⟨g, 6, none⟩ (.int .i64 (off + n))) := (chg_of_eq w2).set' g 6 _ rfl
  have rb3 : rcB (w2.setCell ⟨g, 6, none⟩ (.int .i64 (off + n))) g c win st first cm gr2 (off + n) told := rb.fin _
  have ht3 := ht2.chg cs z2 (fun e => hne (Or.inl e))
  have z3 : 0 < (w2.setCell ⟨g, 6, none⟩ (.int .i64 (off + n))).heap.size := Nat.lt_of_lt_of_le z2 cs.size
  have C3 := turnR g c win st 1 first cm gr2 (off + n) told (by omega) (by decide) (by decide) _ ht3 z3 rb3
  rw [mt1 st (by omega)] at C3
  have H3 : Hid _ := And.intro ht3 (And.intro z3 (And.intro (rr.chg cs hgc) (ch2.trans cs.k2)))
  clear rb rb3 cs ht2 z2 rr ch2 ht3 z3
  go_wp2_with fail
  go_at_call 28
  refine C3.mono ?_
  rintro e w4 ⟨rfl, rb4, c4⟩
  have ht4 := H3.out.1.chg c4 H3.out.2.1 (fun e => hne (Or.inl e))
  have z4 : 0 < w4.heap.size := Nat.lt_of_lt_of_le H3.out.2.1 c4.size
  have rr4 := H3.out.2.2.1.chg c4 hgc
  have ch4 := H3.out.2.2.2.trans c4.k2
  clear C3 H3 c4 f6 d6
  obtain ⟨s1, es1⟩ : ∃ s1, s1 = (if st = 0 then 1 else st) := ⟨_, rfl⟩
  have rb5 : rcB w4 g c win s1 first cm gr2 (off + n) told := by
    rw [es1]
    by_cases hst : st = 0
    · rw [if_pos hst]; rw [decide_eq_true hst] at rb4; exact rb4
    · rw [if_neg hst]; rw [decide_eq_false hst] at rb4; exact rb4
  have hs1 : s1 < 6 := by rw [es1]; split <;> omega
  have HS1 : Hid _ := es1
  rw [← es1] at HE
  clear rb4 es1
  have e4 : w4.cell? ⟨g, 4, none⟩ = some (.int .i64 (cm : Int)) := (bk_cell rb5 4).trans rfl
  have e6 : w4.cell? ⟨g, 6, none⟩ = some (.int .i64 (off + n)) := (bk_cell rb5 6).trans rfl
  have H5 : Hid _ := And.intro rb5 (And.intro ht4 (And.intro z4 (And.intro rr4 ch4)))
  clear rb5 ht4 z4 rr4 ch4
  go_wp2_with fail
  go_quiet (fail)
  have hd : ∀ S : Nat → Prop, Chg S w4 (w4.drewN nq) := fun S => ⟨rfl, rfl, rfl, Nat.le_refl _, fun _ _ _ => rfl⟩
  by_cases heq : (cm : Int) = (off + n)
  · have bq : ((cm : Int) == (off + n)) = true := by simpa using heq
    have C6 := turnR g c win s1 2 first cm gr2 (off + n) told hs1 (by decide) (by decide) (w4.drewN nq) (H5.out.2.1.chg (S := fun _ => False) (hd _) H5.out.2.2.1 (fun e => e)) H5.out.2.2.1 H5.out.1
    rw [mt2 s1 hs1] at C6
    go_wp2_with fail
    go_at_call 28
    refine C6.mono ?_
    rintro e w7 ⟨rfl, rb7, c7⟩
    have H7 : Hid _ := And.intro rb7 c7
    clear rb7 c7 C6
    go_wp2
    go_ret
    refine ⟨rfl, ?_, rgB.chg (w := w4.drewN nq) H5.out.2.2.2.1 H7.out.2 hgc, (H5.out.2.2.2.2.trans (hd _)).trans H7.out.2.k2⟩
    have r := H7.out.1
    rw [HE.out]
    by_cases h1 : s1 = 1
    · rw [if_pos ⟨heq, h1⟩]; rw [decide_eq_true h1] at r; exact r
    · rw [if_neg (fun x => h1 x.2)]; rw [decide_eq_false h1] at r; exact r
  · have bq : ((cm : Int) == (off + n)) = false := by simpa using heq
    go_wp2
    go_ret
    refine ⟨rfl, ?_, H5.out.2.2.2.1, H5.out.2.2.2.2.trans (hd _)⟩
    rw [HE.out, if_neg (fun x => heq x.1)]
    exact H5.out.1
set_option maxRecDepth 20000 in
set_option maxHeartbeats 2000000 in
theorem data_8tn (g c win st first came gr cm gr2 : Nat) (fin told off : Int) (av : Option Addr) (n dc : Nat) (L2 : List (Bool × Int)) (w : World) (hb : rcB w g c win st first came gr fin told) (h : n ≤ 1500) (h2 : 0 ≤ off) (h3 : off ≤ 4611686018427387903 - (n : Int)) (h4 : off + n ≤ told) (h7 : fin ≠ -1) (h5 : off + n ≤ fin) (h6 : (gr : Int) ≤ off + n ∧ (fin = -1 ∨ off + n = fin))  (hs : st < 2) (ht : TabF w) (h0 : 0 < w.heap.size) (hne : ¬ K2 g c 0) (hgc : g ≠ c) (htold : told ≤ 1000000)
    (hK : ∀ u : World, Below w.heap.size w u → Calls Tryd.prog 33 #[.pointer (some ⟨g, 0, none⟩), .int .i64 off, .slice av n dc] u fun e w' => e = .returned (.tuple #[]) ∧ rcB w' g c win st first cm gr2 fin told ∧ rgB w' c L2 ∧ Chg (K2 g c) u w') :
    Calls Tryd.prog 22 #[.pointer (some ⟨g, 0, none⟩), .int .i64 off, .slice av n dc, .bool true] w fun e w' => e = .returned (.int .i64 0) ∧ rcB w' g c win (if (cm : Int) = (off + n) ∧ (if st = 0 then 1 else st) = 1 then 2 else (if st = 0 then 1 else st)) first cm gr2 (off + n) told ∧ rgB w' c L2 ∧ Chg (K2 g c) w w' := by
  have d6 : w.cell? ⟨g, 6, none⟩ = some (.int .i64 fin) := (bk_cell hb 6).trans rfl
  have d7 : w.cell? ⟨g, 7, none⟩ = some (.int .i64 told) := (bk_cell hb 7).trans rfl
  have b5 : (fin != -1) = true := by simpa using h7
  have CM := mayEndI g c win st first came gr fin told (off + n) w hb
  rw [decide_eq_true h6] at CM
  have CT := takingI g c win st first came gr fin told w (by omega) ht h0 hb
  rw [decide_eq_true hs] at CT
  have HK : Hid _ := And.intro hK (And.intro ht True.intro)
  obtain ⟨s2, es2⟩ : ∃ s2, s2 = (if (cm : Int) = (off + n) ∧ (if st = 0 then 1 else st) = 1 then 2 else (if st = 0 then 1 else st)) := ⟨_, rfl⟩
  rw [← es2]
  have HE : Hid _ := es2
  clear hb ht hK es2
  go_enter Tryd.func22, Tryd.ntmps22
  go_wp2_with fail
  go_at_call 31
  refine CM.mono ?_
  rintro e wy ⟨rfl, hwy⟩
  subst wy
  go_wp2_with fail
  go_at_call 32
  refine CT.mono ?_
  rintro e w1 ⟨rfl, b1⟩
  have C2 := HK.out.1 w1 b1
  have ht1 := HK.out.2.1.below b1 h0
  have z1 : 0 < w1.heap.size := Nat.lt_of_lt_of_le h0 b1.size
  go_wp2_with fail
  go_at_call 33
  refine C2.mono ?_
  rintro e w2 ⟨rfl, rb, rr, ch⟩
  have ht2 := ht1.chg ch z1 hne
  have z2 : 0 < w2.heap.size := Nat.lt_of_lt_of_le z1 ch.size
  have ch2 : Chg (K2 g c) w w2 := (Chg.of_below b1).trans ch
  clear C2 CT ch b1 ht1 z1 CM d6 d7
  have f6 := bk_free rb 6
  have d6 : w2.cell? ⟨g, 6, none⟩ = some (.int .i64 fin) := (bk_cell rb 6).trans rfl
  have cs : Chg (· = g) w2 (w2.setCell ⟨g, 6, none⟩ (.int .i64 (off + n))) := (chg_of_eq w2).set' g 6 _ rfl
  have rb3 : rcB (w2.setCell ⟨g, 6, none⟩ (.int .i64 (off + n))) g c win st first cm gr2 (off + n) told := rb.fin _
  have ht3 := ht2.chg cs z2 (fun e => hne (Or.inl e))
  have z3 : 0 < (w2.setCell ⟨g, 6, none⟩ (.int .i64 (off + n))).heap.size := Nat.lt_of_lt_of_le z2 cs.size
  have C3 := turnR g c win st 1 first cm gr2 (off + n) told (by omega) (by decide) (by decide) _ ht3 z3 rb3
  rw [mt1 st (by omega)] at C3
  have H3 : Hid _ := And.intro ht3 (And.intro z3 (And.intro (rr.chg cs hgc) (ch2.trans cs.k2)))
  clear rb rb3 cs ht2 z2 rr ch2 ht3 z3
  go_wp2_with fail
  go_at_call 28
  refine C3.mono ?_
  rintro e w4 ⟨rfl, rb4, c4⟩
  have ht4 := H3.out.1.chg c4 H3.out.2.1 (fun e => hne (Or.inl e))
  have z4 : 0 < w4.heap.size := Nat.lt_of_lt_of_le H3.out.2.1 c4.size
  have rr4 := H3.out.2.2.1.chg c4 hgc
  have ch4 := H3.out.2.2.2.trans c4.k2
  clear C3 H3 c4 f6 d6
  obtain ⟨s1, es1⟩ : ∃ s1, s1 = (if st = 0 then 1 else st) := ⟨_, rfl⟩
  have rb5 : rcB w4 g c win s1 first cm gr2 (off + n) told := by
    rw [es1]
    by_cases hst : st = 0
    · rw [if_pos hst]; rw [decide_eq_true hst] at rb4; exact rb4
    · rw [if_neg hst]; rw [decide_eq_false hst] at rb4; exact rb4
  have hs1 : s1 < 6 := by rw [es1]; split <;> omega
  have HS1 : Hid _ := es1
  rw [← es1] at HE
  clear rb4 es1
  have e4 : w4.cell? ⟨g, 4, none⟩ = some (.int .i64 (cm : Int)) := (bk_cell rb5 4).trans rfl
  have e6 : w4.cell? ⟨g, 6, none⟩ = some (.int .i64 (off + n)) := (bk_cell rb5 6).trans rfl
  have H5 : Hid _ := And.intro rb5 (And.intro ht4 (And.intro z4 (And.intro rr4 ch4)))
  clear rb5 ht4 z4 rr4 ch4
  go_wp2_with fail
  go_quiet (fail)
  have hd : ∀ S : Nat → Prop, Chg S w4 (w4.drewN nq) := fun S => ⟨rfl, rfl, rfl, Nat.le_refl _, fun _ _ _ => rfl⟩
  by_cases heq : (cm : Int) = (off + n)
  · have bq : ((cm : Int) == (off + n)) = true := by simpa using heq
    have C6 := turnR g c win s1 2 first cm gr2 (off + n) told hs1 (by decide) (by decide) (w4.drewN nq) (H5.out.2.1.chg (S := fun _ => False) (hd _) H5.out.2.2.1 (fun e => e)) H5.out.2.2.1 H5.out.1
    rw [mt2 s1 hs1] at C6
    go_wp2_with fail
    go_at_call 28
    refine C6.mono ?_
    rintro e w7 ⟨rfl, rb7, c7⟩
    have H7 : Hid _ := And.intro rb7 c7
    clear rb7 c7 C6
    go_wp2
    go_ret
    refine ⟨rfl, ?_, rgB.chg (w := w4.drewN nq) H5.out.2.2.2.1 H7.out.2 hgc, (H5.out.2.2.2.2.trans (hd _)).trans H7.out.2.k2⟩
    have r := H7.out.1
    rw [HE.out]
    by_cases h1 : s1 = 1
    · rw [if_pos ⟨heq, h1⟩]; rw [decide_eq_true h1] at r; exact r
    · rw [if_neg (fun x => h1 x.2)]; rw [decide_eq_false h1] at r; exact r
  · have bq : ((cm : Int) == (off + n)) = false := by simpa using heq
    go_wp2
    go_ret
    refine ⟨rfl, ?_, H5.out.2.2.2.1, H5.out.2.2.2.2.trans (hd _)⟩
    rw [HE.out, if_neg (fun x => heq x.1)]
    exact H5.out.1
set_option maxRecDepth 20000 in
set_option maxHeartbeats 2000000 in
theorem data_8fe (g c win st first came gr cm gr2 : Nat) (fin told off : Int) (av : Option Addr) (n dc : Nat) (L2 : List (Bool × Int)) (w : World) (hb : rcB w g c win st first came gr fin told) (h : n ≤ 1500) (h2 : 0 ≤ off) (h3 : off ≤ 4611686018427387903 - (n : Int)) (h4 : off + n ≤ told) (h7 : fin = -1)  (hs : st < 2) (ht : TabF w) (h0 : 0 < w.heap.size) (hne : ¬ K2 g c 0) (hgc : g ≠ c) (htold : told ≤ 1000000)
    (hK : ∀ u : World, Below w.heap.size w u → Calls Tryd.prog 33 #[.pointer (some ⟨g, 0, none⟩), .int .i64 off, .slice av n dc] u fun e w' => e = .returned (.tuple #[]) ∧ rcB w' g c win st first cm gr2 fin told ∧ rgB w' c L2 ∧ Chg (K2 g c) u w') :
    Calls Tryd.prog 22 #[.pointer (some ⟨g, 0, none⟩), .int .i64 off, .slice av n dc, .bool false] w fun e w' => e = .returned (.int .i64 0) ∧ rcB w' g c win (if (cm : Int) = fin ∧ st = 1 then 2 else st) first cm gr2 fin told ∧ rgB w' c L2 ∧ Chg (K2 g c) w w' := by
  have d6 : w.cell? ⟨g, 6, none⟩ = some (.int .i64 fin) := (bk_cell hb 6).trans rfl
  have d7 : w.cell? ⟨g, 7, none⟩ = some (.int .i64 told) := (bk_cell hb 7).trans rfl
  have b5 : (fin != -1) = false := by simpa using h7
  have CT := takingI g c win st first came gr fin told w (by omega) ht h0 hb
  rw [decide_eq_true hs] at CT
  have HK : Hid _ := And.intro hK (And.intro ht True.intro)
  obtain ⟨s2, es2⟩ : ∃ s2, s2 = (if (cm : Int) = fin ∧ st = 1 then 2 else st) := ⟨_, rfl⟩
  rw [← es2]
  have HE : Hid _ := es2
  clear hb ht hK es2
  go_enter Tryd.func22, Tryd.ntmps22
  go_wp2_with fail
  go_at_call 32
  refine CT.mono ?_
  rintro e w1 ⟨rfl, b1⟩
  have C2 := HK.out.1 w1 b1
  have ht1 := HK.out.2.1.below b1 h0
  have z1 : 0 < w1.heap.size := Nat.lt_of_lt_of_le h0 b1.size
  go_wp2_with fail
  go_at_call 33
  refine C2.mono ?_
  rintro e w2 ⟨rfl, rb, rr, ch⟩
  have ht2 := ht1.chg ch z1 hne
  have z2 : 0 < w2.heap.size := Nat.lt_of_lt_of_le z1 ch.size
  have ch2 : Chg (K2 g c) w w2 := (Chg.of_below b1).trans ch
  clear C2 CT ch b1 ht1 z1 d6 d7
  have ht4 := ht2
  have z4 := z2
  have rr4 := rr
  have ch4 := ch2
  clear ht2 z2 rr ch2
  obtain ⟨s1, es1⟩ : ∃ s1, s1 = st := ⟨_, rfl⟩
  have rb5 : rcB w2 g c win s1 first cm gr2 fin told := by rw [es1]; exact rb
  have hs1 : s1 < 6 := by omega
  rw [← es1] at HE
  clear rb
  have e4 : w2.cell? ⟨g, 4, none⟩ = some (.int .i64 (cm : Int)) := (bk_cell rb5 4).trans rfl
  have e6 : w2.cell? ⟨g, 6, none⟩ = some (.int .i64 fin) := (bk_cell rb5 6).trans rfl
  have H5 : Hid _ := And.intro rb5 (And.intro ht4 (And.intro z4 (And.intro rr4 ch4)))
  clear rb5 ht4 z4 rr4 ch4
  go_wp2_with fail
  go_quiet (fail)
  have hd : ∀ S : Nat → Prop, Chg S w2 (w2.drewN nq) := fun S => ⟨rfl, rfl, rfl, Nat.le_refl _, fun _ _ _ => rfl⟩
  by_cases heq : (cm : Int) = fin
  · exact absurd heq (by omega)
  · have bq : ((cm : Int) == fin) = false := by simpa using heq
    go_wp2
    go_ret
    refine ⟨rfl, ?_, H5.out.2.2.2.1, H5.out.2.2.2.2.trans (hd _)⟩
    rw [HE.out, if_neg (fun x => heq x.1)]
    exact H5.out.1
set_option maxRecDepth 20000 in
set_option maxHeartbeats 2000000 in
theorem data_8fn (g c win st first came gr cm gr2 : Nat) (fin told off : Int) (av : Option Addr) (n dc : Nat) (L2 : List (Bool × Int)) (w : World) (hb : rcB w g c win st first came gr fin told) (h : n ≤ 1500) (h2 : 0 ≤ off) (h3 : off ≤ 4611686018427387903 - (n : Int)) (h4 : off + n ≤ told) (h7 : fin ≠ -1) (h5 : off + n ≤ fin)  (hs : st < 2) (ht : TabF w) (h0 : 0 < w.heap.size) (hne : ¬ K2 g c 0) (hgc : g ≠ c) (htold : told ≤ 1000000)
    (hK : ∀ u : World, Below w.heap.size w u → Calls Tryd.prog 33 #[.pointer (some ⟨g, 0, none⟩), .int .i64 off, .slice av n dc] u fun e w' => e = .returned (.tuple #[]) ∧ rcB w' g c win st first cm gr2 fin told ∧ rgB w' c L2 ∧ Chg (K2 g c) u w') :
    Calls Tryd.prog 22 #[.pointer (some ⟨g, 0, none⟩), .int .i64 off, .slice av n dc, .bool false] w fun e w' => e = .returned (.int .i64 0) ∧ rcB w' g c win (if (cm : Int) = fin ∧ st = 1 then 2 else st) first cm gr2 fin told ∧ rgB w' c L2 ∧ Chg (K2 g c) w w' := by
  have d6 : w.cell? ⟨g, 6, none⟩ = some (.int .i64 fin) := (bk_cell hb 6).trans rfl
  have d7 : w.cell? ⟨g, 7, none⟩ = some (.int .i64 told) := (bk_cell hb 7).trans rfl
  have b5 : (fin != -1) = true := by simpa using h7
  have CT := takingI g c win st first came gr fin told w (by omega) ht h0 hb
  rw [decide_eq_true hs] at CT
  have HK : Hid _ := And.intro hK (And.intro ht True.intro)
  obtain ⟨s2, es2⟩ : ∃ s2, s2 = (if (cm : Int) = fin ∧ st = 1 then 2 else st) := ⟨_, rfl⟩
  rw [← es2]
  have HE : Hid _ := es2
  clear hb ht hK es2
  go_enter Tryd.func22, Tryd.ntmps22
  go_wp2_with fail
  go_at_call 32
  refine CT.mono ?_
  rintro e w1 ⟨rfl, b1⟩
  have C2 := HK.out.1 w1 b1
  have ht1 := HK.out.2.1.below b1 h0
  have z1 : 0 < w1.heap.size := Nat.lt_of_lt_of_le h0 b1.size
  go_wp2_with fail
  go_at_call 33
  refine C2.mono ?_
  rintro e w2 ⟨rfl, rb, rr, ch⟩
  have ht2 := ht1.chg ch z1 hne
  have z2 : 0 < w2.heap.size := Nat.lt_of_lt_of_le z1 ch.size
  have ch2 : Chg (K2 g c) w w2 := (Chg.of_below b1).trans ch
  clear C2 CT ch b1 ht1 z1 d6 d7
  have ht4 := ht2
  have z4 := z2
  have rr4 := rr
  have ch4 := ch2
  clear ht2 z2 rr ch2
  obtain ⟨s1, es1⟩ : ∃ s1, s1 = st := ⟨_, rfl⟩
  have rb5 : rcB w2 g c win s1 first cm gr2 fin told := by rw [es1]; exact rb
  have hs1 : s1 < 6 := by omega
  rw [← es1] at HE
  clear rb
  have e4 : w2.cell? ⟨g, 4, none⟩ = some (.int .i64 (cm : Int)) := (bk_cell rb5 4).trans rfl
  have e6 : w2.cell? ⟨g, 6, none⟩ = some (.int .i64 fin) := (bk_cell rb5 6).trans rfl
  have H5 : Hid _ := And.intro rb5 (And.intro ht4 (And.intro z4 (And.intro rr4 ch4)))
  clear rb5 ht4 z4 rr4 ch4
  go_wp2_with fail
  go_quiet (fail)
  have hd : ∀ S : Nat → Prop, Chg S w2 (w2.drewN nq) := fun S => ⟨rfl, rfl, rfl, Nat.le_refl _, fun _ _ _ => rfl⟩
  by_cases heq : (cm : Int) = fin
  · have bq : ((cm : Int) == fin) = true := by simpa using heq
    have C6 := turnR g c win s1 2 first cm gr2 fin told hs1 (by decide) (by decide) (w2.drewN nq) (H5.out.2.1.chg (S := fun _ => False) (hd _) H5.out.2.2.1 (fun e => e)) H5.out.2.2.1 H5.out.1
    rw [mt2 s1 hs1] at C6
    go_wp2_with fail
    go_at_call 28
    refine C6.mono ?_
    rintro e w7 ⟨rfl, rb7, c7⟩
    have H7 : Hid _ := And.intro rb7 c7
    clear rb7 c7 C6
    go_wp2
    go_ret
    refine ⟨rfl, ?_, rgB.chg (w := w2.drewN nq) H5.out.2.2.2.1 H7.out.2 hgc, (H5.out.2.2.2.2.trans (hd _)).trans H7.out.2.k2⟩
    have r := H7.out.1
    rw [HE.out]
    by_cases h1 : s1 = 1
    · rw [if_pos ⟨heq, h1⟩]; rw [decide_eq_true h1] at r; exact r
    · rw [if_neg (fun x => h1 x.2)]; rw [decide_eq_false h1] at r; exact r
  · have bq : ((cm : Int) == fin) = false := by simpa using heq
    go_wp2
    go_ret
    refine ⟨rfl, ?_, H5.out.2.2.2.1, H5.out.2.2.2.2.trans (hd _)⟩
    rw [HE.out, if_neg (fun x => heq x.1)]
    exact H5.out.1
end Go.Proofs.YthbggabgklnhgaaDoor

namespace Go.Proofs.YthbggabgklnhgaaDoor
open Go.RowKit
set_option linter.unusedVariables false

theorem run_copy2 {P : Program} (w : World) (dT sT ty elem : TypeId) (g o dLen dCap : Nat) (a : Addr) (sLen sCap : Nat) (cur : Array Value) (t : TypeId) (cs : List Value)
    (hu : P.underlying dT = some (.slice elem)) (hs : (P.info? elem).map (·.size) = some 2)
    (hg : w.heap[g]? = some (.cells cur t (0, 0))) (hn : cs.length = Nat.min sLen dLen * 2)
    (hsrc : ∀ j v, cs[j]? = some v → w.cell? (a.add j) = some v) (hfit : o + cs.length ≤ cur.size) (h1 : ∀ v ∈ cs, v.oneCell' = true) :
    (Builtin.copy_ #[dT, sT] ty #[.slice (some ⟨g, o, none⟩) dLen dCap, .slice (some a) sLen sCap]).run P w =
      .ok (goInt (Nat.min sLen dLen)) (w.setRow g (cur.toList.take o ++ cs ++ cur.toList.drop (o + cs.length)).toArray) := by
  have hl := run_loadCells_list (P := P) w a cs hsrc
  have hst := run_storeCells_at P g o t cs 0 cur w hg (by simpa using hfit) h1
  cases hq : P.info? elem with
  | none => simp [hq] at hs
  | some i =>
    have hi : i.size = 2 := by simpa [hq] using hs
    rw [hn] at hl
    simp [Builtin.copy_, run_underlying hu, Builtin.lenOf, Builtin.firstCells, sizeOf, typeInfo, hq, hi, hl, hst]
theorem zeros2 (n : Nat) : (Builtin.zeroCells #[Value.bool false, Value.int .u8 0] n).toList = rc (List.replicate n (false, 0)) := by
  apply List.ext_getElem?
  intro i
  simp only [Builtin.zeroCells, Array.toList_map, Array.toList_range]
  by_cases h : i < n * 2
  · obtain ⟨j, hj⟩ : ∃ j, i = j * 2 ∨ i = j * 2 + 1 := ⟨i / 2, by omega⟩
    rcases hj with rfl | rfl
    · rw [rc_get0 _ j (by simp; omega)]
      simp [show j * 2 < n * 2 by omega, show j < n by omega]
    · rw [rc_get1 _ j (by simp; omega)]
      simp [show j * 2 + 1 < n * 2 by omega, show j < n by omega, show (j * 2 + 1) % 2 = 1 by omega]
  · rw [List.getElem?_eq_none (by simp; omega), List.getElem?_eq_none (by rw [rc_length]; simp; omega)]
theorem run_clear2 {P : Program} (w : World) (T ty elem : TypeId) (g o n cap : Nat) (cur : Array Value) (t : TypeId) (h0 : 0 < n)
    (hu : P.underlying T = some (.slice elem)) (hz : (P.info? elem).map (·.zero) = some (some (.agg #[.bool false, .int .u8 0])))
    (hg : w.heap[g]? = some (.cells cur t (0, 0))) (hfit : o + n * 2 ≤ cur.size) :
    (Builtin.clear_ #[T] ty #[.slice (some ⟨g, o, none⟩) n cap]).run P w = .ok (.tuple #[]) (w.setRow g (cur.toList.take o ++ rc (List.replicate n (false, 0)) ++ cur.toList.drop (o + n * 2)).toArray) := by
  have hlen : (rc (List.replicate n (false, (0 : Int)))).length = n * 2 := by rw [rc_length]; simp; omega
  have hone : ∀ v ∈ rc (List.replicate n (false, (0 : Int))), v.oneCell' = true := by
    intro v hv
    obtain ⟨i, hi, e⟩ := List.getElem_of_mem hv
    have hg' := List.getElem?_eq_getElem hi
    rw [e] at hg'
    obtain ⟨j, hj⟩ : ∃ j, i = j * 2 ∨ i = j * 2 + 1 := ⟨i / 2, by omega⟩
    rcases hj with rfl | rfl
    · rw [rc_get0 _ j (by simp; omega)] at hg'; cases hg'; rfl
    · rw [rc_get1 _ j (by simp; omega)] at hg'; cases hg'; rfl
  have hst := run_storeCells_at P g o t (rc (List.replicate n (false, 0))) 0 cur w hg (by rw [hlen]; simpa using hfit) hone
  rw [hlen] at hst
  cases hq : P.info? elem with
  | none => simp [hq] at hz
  | some i =>
    have hi : i.zero = some (.agg #[.bool false, .int .u8 0]) := by simpa [hq] using hz
    have hc : (Value.agg #[.bool false, .int .u8 0]).cells = #[.bool false, .int .u8 0] := rfl
    obtain ⟨m, rfl⟩ : ∃ m, n = m + 1 := ⟨n - 1, by omega⟩
    simp [Builtin.clear_, run_underlying hu, zeroValue, typeInfo, hq, hi, hc, zeros2, hst]
end Go.Proofs.YthbggabgklnhgaaDoor

namespace Go.Proofs.YthbggabgklnhgaaDoor
open Go.RowKit
set_option linter.unusedVariables false

theorem rc_append : ∀ A B : List (Bool × Int), rc (A ++ B) = rc A ++ rc B
  | [], B => rfl
  | x :: r, B => by simp [rc, rc_append r B]
theorem rc_take : ∀ (L : List (Bool × Int)) (k : Nat), (rc L).take (k * 2) = rc (L.take k)
  | [], k => by simp [rc]
  | x :: r, 0 => by simp [rc]
  | x :: r, k + 1 => by
    rw [show (k + 1) * 2 = k * 2 + 1 + 1 by omega]
    simp [rc, rc_take r k]
theorem rc_drop : ∀ (L : List (Bool × Int)) (k : Nat), (rc L).drop (k * 2) = rc (L.drop k)
  | [], k => by simp [rc]
  | x :: r, 0 => by simp [rc]
  | x :: r, k + 1 => by
    rw [show (k + 1) * 2 = k * 2 + 1 + 1 by omega]
    simp [rc, rc_drop r k]
theorem rc_one (L : List (Bool × Int)) : ∀ v ∈ rc L, v.oneCell' = true := by
  induction L with
  | nil => simp [rc]
  | cons x r ih =>
    intro v hv
    simp only [rc, List.mem_cons] at hv
    rcases hv with rfl | rfl | hv
    · rfl
    · rfl
    · exact ih v hv
theorem rg_src {w : World} {c : Nat} {L : List (Bool × Int)} (h : rgB w c L) (r m : Nat) (hm : r + m ≤ L.length) :
    ∀ j v, (rc ((L.drop r).take m))[j]? = some v → w.cell? ((⟨c, r * 2, none⟩ : Addr).add j) = some v := by
  intro j v hj
  have hadd : (⟨c, r * 2, none⟩ : Addr).add j = ⟨c, r * 2 + j, none⟩ := by unfold Addr.add; split <;> simp_all
  rw [hadd, bk_cell h, List.getElem?_toArray]
  rw [← rc_take, ← rc_drop] at hj
  rw [List.getElem?_take] at hj
  split at hj
  · rw [List.getElem?_drop] at hj; exact hj
  · cases hj
theorem only_setRowS (w : World) (g : Nat) (cs : Array Value) : Only (some g) w (w.setRow g cs) :=
  ⟨rfl, rfl, rfl, by simp [World.setRow], fun k hk => setRow_other w g k cs (by simpa using hk)⟩
theorem run_copy_none2 {P : Program} (w : World) (dT sT ty elem : TypeId) (d a : Option Addr) (dLen dCap sLen sCap : Nat) (hu : P.underlying dT = some (.slice elem)) (hs : (P.info? elem).map (·.size) = some 2) (hn : Nat.min sLen dLen = 0) :
    (Builtin.copy_ #[dT, sT] ty #[.slice d dLen dCap, .slice a sLen sCap]).run P w = .ok (goInt 0) w := by
  cases hq : P.info? elem with
  | none => simp [hq] at hs
  | some i =>
    have hl : ∀ (x : Addr), (loadCells x 0).run P w = .ok #[] w := fun x => by simpa using run_loadCells_list (P := P) w x [] (by simp)
    cases d <;> cases a <;> simp [Builtin.copy_, run_underlying hu, Builtin.lenOf, Builtin.firstCells, sizeOf, typeInfo, hq, hn, storeCells, hl]
/-- What a copy from the ring L, from r on, into the row O, from q on, leaves there. -/
def cpL (O L : List (Bool × Int)) (q r m : Nat) : List (Bool × Int) := O.take q ++ ((L.drop r).take m ++ O.drop (q + m))
theorem run_copyR {P : Program} (w : World) (dT sT ty elem : TypeId) (g c q r dLen dCap sLen sCap m : Nat) (O L : List (Bool × Int)) (dp sp : Option Addr)
    (hu : P.underlying dT = some (.slice elem)) (hs : (P.info? elem).map (·.size) = some 2) (hg : rgB w g O) (hc : rgB w c L) (hm : m = Nat.min sLen dLen) (hr : r + m ≤ L.length) (hq : q + m ≤ O.length)
    (ha : 0 < m → dp = some ⟨g, q * 2, none⟩ ∧ sp = some ⟨c, r * 2, none⟩) :
    ∃ w', (Builtin.copy_ #[dT, sT] ty #[.slice dp dLen dCap, .slice sp sLen sCap]).run P w = .ok (goInt m) w' ∧ rgB w' g (cpL O L q r m) ∧ Only (some g) w w' := by
  by_cases h0 : m = 0
  · subst h0
    refine ⟨w, run_copy_none2 w dT sT ty elem dp sp dLen dCap sLen sCap hu hs hm.symm, ?_, Only.refl _ _⟩
    have : cpL O L q r 0 = O := by simp [cpL]
    rw [this]; exact hg
  · obtain ⟨rfl, rfl⟩ := ha (by omega)
    have hl : (rc ((L.drop r).take m)).length = m * 2 := by rw [rc_length, List.length_take, List.length_drop]; omega
    have hcur : (rc O).toArray.size = O.length * 2 := by simp [rc_length]; omega
    have := run_copy2 (P := P) w dT sT ty elem g (q * 2) dLen dCap ⟨c, r * 2, none⟩ sLen sCap (rc O).toArray 78 (rc ((L.drop r).take m)) hu hs hg (by rw [hl, hm]) (rg_src hc r m hr) (by rw [hl, hcur]; omega) (rc_one _)
    rw [hl, ← hm] at this
    refine ⟨_, this, ?_, only_setRowS _ _ _⟩
    unfold rgB
    rw [setRow_heap w g _ _ 78 _ hg]
    congr 2
    unfold cpL
    rw [rc_append, rc_append, ← rc_take O q, ← rc_drop O, show q * 2 + m * 2 = (q + m) * 2 by omega]
    simp
/-- What a clearing of m places from r on leaves. -/
def clL (L : List (Bool × Int)) (r m : Nat) : List (Bool × Int) := L.take r ++ (List.replicate m (false, 0) ++ L.drop (r + m))
theorem run_clearR {P : Program} (w : World) (T ty elem : TypeId) (c r m cap : Nat) (L : List (Bool × Int)) (sp : Option Addr)
    (hu : P.underlying T = some (.slice elem)) (hz : (P.info? elem).map (·.zero) = some (some (.agg #[.bool false, .int .u8 0]))) (hc : rgB w c L) (hr : r + m ≤ L.length) (ha : 0 < m → sp = some ⟨c, r * 2, none⟩) :
    ∃ w', (Builtin.clear_ #[T] ty #[.slice sp m cap]).run P w = .ok (.tuple #[]) w' ∧ rgB w' c (clL L r m) ∧ Only (some c) w w' := by
  by_cases h0 : m = 0
  · subst h0
    refine ⟨w, ?_, ?_, Only.refl _ _⟩
    · cases sp <;> simp [Builtin.clear_, run_underlying hu]
    · have : clL L r 0 = L := by simp [clL]
      rw [this]; exact hc
  · obtain rfl := ha (by omega)
    have hcur : (rc L).toArray.size = L.length * 2 := by simp [rc_length]; omega
    have := run_clear2 (P := P) w T ty elem c (r * 2) m cap (rc L).toArray 78 (by omega) hu hz hc (by rw [hcur]; omega)
    refine ⟨_, this, ?_, only_setRowS _ _ _⟩
    unfold rgB
    rw [setRow_heap w c _ _ 78 _ hc]
    congr 2
    unfold clL
    rw [rc_append, rc_append, ← rc_take, ← rc_drop L, show r * 2 + m * 2 = (r + m) * 2 by omega]
    simp
end Go.Proofs.YthbggabgklnhgaaDoor

namespace Go.Proofs.YthbggabgklnhgaaDoor
open Go.RowKit
set_option linter.unusedVariables false

theorem infoAr : (Tryd.prog.info? 78).map (fun i => (i.zero, i.size, i.bytes)) = some (some (.agg #[.bool false, .int .u8 0]), 2, 2) := by kernel_rfl
theorem infoAr2 : (Tryd.prog.info? 78).map (·.size) = some 2 := by kernel_rfl
theorem infoArZ : (Tryd.prog.info? 78).map (·.zero) = some (some (.agg #[.bool false, .int .u8 0])) := by kernel_rfl
theorem made_ar (n : Nat) : madeCells #[Value.bool false, Value.int .u8 0] (n * 2) = (rc (List.replicate n (false, 0))).toArray := by
  have := zeros2 n
  apply Array.toList_inj.1
  rw [List.toList_toArray, ← this]
  rfl
theorem wpList_makeR {w : World} {ops : Array Oper} {rest : List Oper} {o : Oper} {a : Act} {Q : Exit → Act → World → Prop} (hgd : o.guard = none) (l c : Operand) (ho : o.op = .makeSlice 62 l c)
    (n : Nat) (N : Int) (hl : a.eval l = .int .i64 N) (hc : a.eval c = .int .i64 N) (eN : N = (n : Int)) (hm : n ≤ 1099511627776)
    (h : wpList Tryd.prog ops Q rest (a.put o.dst (.slice (some ⟨w.heap.size, 0, none⟩) n n)) (w.alloc (.cells (rc (List.replicate n (false, 0))).toArray 78))) :
    wpList Tryd.prog ops Q (o :: rest) a w := by
  cases hi : Tryd.prog.info? 78 with
  | none => have := infoAr; rw [hi] at this; cases this
  | some i0 =>
    have h3 := infoAr
    rw [hi] at h3
    simp only [Option.map_some, Option.some.injEq, Prod.mk.injEq] at h3
    obtain ⟨hz0, hz1, hz2⟩ := h3
    subst eN
    have hr := run_make (P := Tryd.prog) w 62 78 i0 (.agg #[.bool false, .int .u8 0]) Tryd.underlying62 hi hz0 .i64 .i64 (n : Int) (n : Int) (by omega) (by omega) (by rw [hz2]; omega) (by omega)
    simp only [Int.toNat_natCast, hz1] at hr
    have hcl : (Value.agg #[.bool false, .int .u8 0]).cells = #[.bool false, .int .u8 0] := rfl
    rw [hcl, made_ar] at hr
    refine wpList_plain hgd fun K hK => ?_
    unfold Oper.wp
    simp [execOp, ho, hl, hc, hr, Result.andThen]
    exact hK _ _ h
theorem wpList_copyR {w : World} {ops : Array Oper} {rest : List Oper} {o : Oper} {a : Act} {Q : Exit → Act → World → Prop} (hgd : o.guard = none) (d s : Operand)
    (ho : o.op = .call { callee := .builtin .copy, args := #[d, s], argTypes := #[62, 62] })
    (g c q r dLen dCap sLen sCap m : Nat) (O L : List (Bool × Int)) (dp sp : Option Addr) (hd : a.eval d = .slice dp dLen dCap) (hs : a.eval s = .slice sp sLen sCap)
    (hg : rgB w g O) (hc : rgB w c L) (hm : m = Nat.min sLen dLen) (hr : r + m ≤ L.length) (hq : q + m ≤ O.length) (ha : 0 < m → dp = some ⟨g, q * 2, none⟩ ∧ sp = some ⟨c, r * 2, none⟩)
    (h : ∀ w', rgB w' g (cpL O L q r m) → Only (some g) w w' → wpList Tryd.prog ops Q rest (a.put o.dst (goInt m)) w') : wpList Tryd.prog ops Q (o :: rest) a w := by
  refine wpList_plain hgd fun K hK => ?_
  obtain ⟨w', hrun, h1, h2⟩ := run_copyR (P := Tryd.prog) w 62 62 o.type 78 g c q r dLen dCap sLen sCap m O L dp sp Tryd.underlying62 infoAr2 hg hc hm hr hq ha
  unfold Oper.wp
  simp [execOp, ho, resolve, invoke, builtin, hd, hs, hrun, Result.andThen]
  exact hK _ _ (h w' h1 h2)
theorem step_copyR {ops : Array Oper} {o : Oper} {a : Act} {w : World} {K : Act → World → Prop} {Q : Exit → Act → World → Prop} {E : Prop} (hgd : o.guard = none) (d s : Operand)
    (ho : o.op = .call { callee := .builtin .copy, args := #[d, s], argTypes := #[62, 62] })
    (g c q r dLen dCap sLen sCap m : Nat) (O L : List (Bool × Int)) (dp sp : Option Addr) (hd : a.eval d = .slice dp dLen dCap) (hs : a.eval s = .slice sp sLen sCap)
    (hg : rgB w g O) (hc : rgB w c L) (hm : m = Nat.min sLen dLen) (hr : r + m ≤ L.length) (hq : q + m ≤ O.length) (ha : 0 < m → dp = some ⟨g, q * 2, none⟩ ∧ sp = some ⟨c, r * 2, none⟩)
    (h : ∀ w', rgB w' g (cpL O L q r m) → Only (some g) w w' → K (a.put o.dst (goInt m)) w') :
    if Region.wanted o (yielded ops a.tmps) = true then Oper.wp Tryd.prog o a w K Q else E := by
  have hw : Region.wanted o (yielded ops a.tmps) = true := by simp [Region.wanted, hgd]
  rw [if_pos hw]
  obtain ⟨w', hrun, h1, h2⟩ := run_copyR (P := Tryd.prog) w 62 62 o.type 78 g c q r dLen dCap sLen sCap m O L dp sp Tryd.underlying62 infoAr2 hg hc hm hr hq ha
  unfold Oper.wp
  simp [execOp, ho, resolve, invoke, builtin, hd, hs, hrun, Result.andThen]
  exact h w' h1 h2
theorem wpList_clearR {w : World} {ops : Array Oper} {rest : List Oper} {o : Oper} {a : Act} {Q : Exit → Act → World → Prop} (hgd : o.guard = none) (s : Operand)
    (ho : o.op = .call { callee := .builtin .clear, args := #[s], argTypes := #[62] })
    (c r m cap : Nat) (L : List (Bool × Int)) (sp : Option Addr) (hs : a.eval s = .slice sp m cap) (hc : rgB w c L) (hr : r + m ≤ L.length) (ha : 0 < m → sp = some ⟨c, r * 2, none⟩)
    (h : ∀ w', rgB w' c (clL L r m) → Only (some c) w w' → wpList Tryd.prog ops Q rest (a.put o.dst (.tuple #[])) w') : wpList Tryd.prog ops Q (o :: rest) a w := by
  refine wpList_plain hgd fun K hK => ?_
  obtain ⟨w', hrun, h1, h2⟩ := run_clearR (P := Tryd.prog) w 62 o.type 78 c r m cap L sp Tryd.underlying62 infoArZ hc hr ha
  unfold Oper.wp
  simp [execOp, ho, resolve, invoke, builtin, hs, hrun, Result.andThen]
  exact hK _ _ (h w' h1 h2)
end Go.Proofs.YthbggabgklnhgaaDoor

namespace Go.Proofs.YthbggabgklnhgaaDoor
open Go.RowKit
set_option linter.unusedVariables false

theorem rgB.below {w w' : World} {c : Nat} {L : List (Bool × Int)} (h : rgB w c L) (hb : Below w.heap.size w w') : rgB w' c L := (hb.block c (Array.getElem?_eq_some_iff.1 h).1).trans h
theorem rgB.only {w w' : World} {c g : Nat} {L : List (Bool × Int)} (h : rgB w c L) (ho : Only (some g) w w') (hne : c ≠ g) : rgB w' c L := (ho.5 c (by simpa using hne)).trans h
/-- What is given of the ring, and what is left. -/
def shO (L : List (Bool × Int)) (r n ah : Nat) : List (Bool × Int) := cpL (cpL (List.replicate n (false, 0)) L 0 r ah) L ah 0 (n - ah)
def shL (L : List (Bool × Int)) (r n ah : Nat) : List (Bool × Int) := clL (clL L r ah) 0 (n - ah)
theorem cpL_length (O L : List (Bool × Int)) (q r m : Nat) (hr : r + m ≤ L.length) (hq : q + m ≤ O.length) : (cpL O L q r m).length = O.length := by
  unfold cpL
  simp only [List.length_append, List.length_take, List.length_drop]
  omega
theorem clL_length (L : List (Bool × Int)) (r m : Nat) (hr : r + m ≤ L.length) : (clL L r m).length = L.length := by
  unfold clL
  simp only [List.length_append, List.length_take, List.length_drop, List.length_replicate]
  omega
theorem Only.cellS {g : Nat} {w w' : World} (h : Only (some g) w w') {b : Nat} (hb : b ≠ g) (o : Nat) : w'.cell? ⟨b, o, none⟩ = w.cell? ⟨b, o, none⟩ := by
  have := h.5 b (by simpa using hb)
  simp only [World.cell?, this]
theorem Only.belowS {g : Nat} {w w' : World} (h : Only (some g) w w') {B : Nat} (hB : B ≤ g) : Below B w w' :=
  ⟨h.1, h.2, h.3, by have := h.4; omega, fun k hk => h.5 k (by simp; omega)⟩
set_option maxRecDepth 20000 in
set_option maxHeartbeats 2000000 in
theorem shiftI (g o c win first n r ah : Nat) (L : List (Bool × Int)) (w : World) (hc : w.cell? ⟨g, o, none⟩ = some (.slice (some ⟨c, 0, none⟩) win win)) (hf : w.cell? ⟨g, o + 1, none⟩ = some (.int .i64 (first : Int))) (hfr : w.frozen? ⟨g, o + 1, none⟩ = false)
    (hrg : rgB w c L) (hL : L.length = win) (hw : 0 < win) (hwm : win ≤ 16384) (hn : n ≤ win) (hfi : first ≤ 1000000) (hgc : g ≠ c) (hgl : g < w.heap.size) (er : r = first % win) (ea : ah = min n (win - r)) :
    Calls Tryd.prog 34 #[.pointer (some ⟨g, o, none⟩), .int .i64 (n : Int)] w fun e w' => e = .returned (.slice (some ⟨w.heap.size, 0, none⟩) n n) ∧
      rgB w' w.heap.size (shO L r n ah) ∧ rgB w' c (shL L r n ah) ∧ w'.heap[g]? = (w.setCell ⟨g, o + 1, none⟩ (.int .i64 ((first : Int) + n))).heap[g]? ∧ Chg (K2 g c) w w' := by
  have hrl : r < win := by rw [er]; exact Nat.mod_lt _ hw
  have hmod : (first : Int).tmod (win : Int) = (r : Int) := by rw [er, Int.tmod_eq_emod_of_nonneg (by omega)]; omega
  have hz : ((win : Int) == 0) = false := by simp; omega
  have hz2 : ¬ (win : Int) = 0 := by omega
  have h1 : (r : Int) ≤ (win : Int) := by omega
  have h2 : (win = r) = False := by simp; omega
  have hcl : c < w.heap.size := (Array.getElem?_eq_some_iff.1 hrg).1
  have B1 : Below w.heap.size w (w.alloc (.cells (rc (List.replicate n (false, 0))).toArray 78)) := (Below.refl _ _).alloc (Nat.le_refl _) _
  have c1 := (B1.cell (p := ⟨g, o, none⟩) hgl).trans hc
  have c2 := (B1.cell (p := ⟨g, o + 1, none⟩) hgl).trans hf
  have HB : Hid _ := And.intro B1 (And.intro (hrg.below B1) (And.intro (show rgB (w.alloc (.cells (rc (List.replicate n (false, 0))).toArray 78)) w.heap.size (List.replicate n (false, 0)) from heap_alloc_new w _) (And.intro hL (And.intro ea hfr))))
  clear hrg hL hc hf B1 er
  go_enter Tryd.func34, Tryd.ntmps34
  go_wp2_with (at_make; refine wpList_makeR rfl _ _ rfl n (n : Int) rfl rfl rfl (by omega) ?_)
  generalize ew1 : w.alloc (.cells (rc (List.replicate n (false, 0))).toArray 78) = W1 at HB c1 c2 ⊢
  go_quiet (fail)
  have HB2 : Hid (Below w.heap.size w (W1.drewN nq) ∧ rgB (W1.drewN nq) c L ∧ rgB (W1.drewN nq) w.heap.size (List.replicate n (false, 0)) ∧ L.length = win ∧ ah = min n (win - r) ∧ w.frozen? ⟨g, o + 1, none⟩ = false) := ⟨below_drewN HB.out.1 nq, HB.out.2.1, HB.out.2.2.1, HB.out.2.2.2⟩
  have d1 : (W1.drewN nq).cell? ⟨g, o, none⟩ = some (.slice (some ⟨c, 0, none⟩) win win) := c1
  have d2 : (W1.drewN nq).cell? ⟨g, o + 1, none⟩ = some (.int .i64 (first : Int)) := c2
  clear HB c1 c2 ew1
  generalize W1.drewN nq = W2 at HB2 d1 d2 ⊢
  have hb1 : g ≠ w.heap.size := by omega
  have hb2 : c ≠ w.heap.size := by omega
  have hah : ah ≤ n ∧ r + ah ≤ win ∧ n - ah ≤ win ∧ (n - ah) ≤ r := by omega
  obtain ⟨k1, k2, k3, k4⟩ := hah
  clear ea
  go_wp2_with (refine wpList_copyR rfl (.tmp 26) (.tmp 27) rfl w.heap.size c 0 r n n (win - r) (win - r) ah (List.replicate n (false, 0)) L (some ⟨w.heap.size, 0, none⟩) (some ⟨c, r * 2, none⟩) rfl rfl HB2.out.2.2.1 HB2.out.2.1 (by rw [HB2.out.2.2.2.2.1]; exact Nat.min_comm _ _) (by rw [HB2.out.2.2.2.1]; exact k2) (by simp; omega) (fun _ => ⟨rfl, rfl⟩) ?_; intro w3 r3 n3)
  have e1 : w3.cell? ⟨g, o, none⟩ = some (.slice (some ⟨c, 0, none⟩) win win) := (Only.cellS n3 hb1 o).trans d1
  have e2 : w3.cell? ⟨g, o + 1, none⟩ = some (.int .i64 (first : Int)) := (Only.cellS n3 hb1 (o + 1)).trans d2
  have H3 : Hid _ := And.intro (HB2.out.1.trans (n3.belowS (Nat.le_refl _))) (And.intro (HB2.out.2.1.only n3 hb2) (And.intro r3 (And.intro HB2.out.2.2.2.1 HB2.out.2.2.2.2.2)))
  clear d1 d2 r3 n3 HB2
  have s1 : (ah : Int) ≤ (n : Int) := by omega
  by_cases hna : n = ah
  · subst hna
    go_region_law (refine step_copyR rfl (.tmp 31) (.tmp 35) rfl w.heap.size c n 0 0 0 win win 0 (cpL (List.replicate n (false, 0)) L 0 r n) L (some ⟨w.heap.size, 0, none⟩) (some ⟨c, 0, none⟩) rfl rfl H3.out.2.2.1 H3.out.2.1 (by simp) (by omega) (by rw [cpL_length _ _ _ _ _ (by rw [H3.out.2.2.2.1]; exact k2) (by simp; try omega)]; simp; try omega) (fun h => by omega) ?_; intro w4 r4 n4)
    all_goals
      have q1 : w4.cell? ⟨g, o, none⟩ = some (.slice (some ⟨c, 0, none⟩) win win) := (Only.cellS n4 hb1 o).trans e1
      have q2 : w4.cell? ⟨g, o + 1, none⟩ = some (.int .i64 (first : Int)) := (Only.cellS n4 hb1 (o + 1)).trans e2
      have c4 : rgB w4 c L := rgB.only (w := w3.drew) H3.out.2.1 n4 hb2
      have bl4 : w4.heap[g]? = w.heap[g]? := (n4.block g (by simpa using hb1)).trans (H3.out.1.block g hgl)
      have ch4 : Chg (K2 g c) w w4 := ⟨n4.os.trans H3.out.1.os, n4.tape.trans H3.out.1.tape, n4.output.trans H3.out.1.output, by have h1 := n4.size; have h2 := H3.out.1.size; have h3 : w3.drew.heap.size = w3.heap.size := rfl; omega, fun q hq _ => (n4.block q (by simp; omega)).trans (H3.out.1.block q hq)⟩
      have H4 : Hid _ := And.intro c4 (And.intro r4 (And.intro bl4 (And.intro ch4 H3.out.2.2.2.1)))
      clear r4 n4 c4 bl4 ch4 e1 e2
      have t1 : ((n : Int) : Int) ≤ ((win - r : Nat) : Int) := by omega
      go_simp
      go_wp2_with (first
              | (refine wpList_clearR rfl (.tmp 39) rfl c r n (win - r) L (some ⟨c, r * 2, none⟩) rfl H4.out.1 (by rw [H4.out.2.2.2.2]; exact k2) (fun _ => rfl) ?_; intro w5 r5 n5; have q3 : w5.cell? ⟨g, o, none⟩ = some (.slice (some ⟨c, 0, none⟩) win win) := (Only.cellS n5 hgc o).trans q1; have q4 : w5.cell? ⟨g, o + 1, none⟩ = some (.int .i64 (first : Int)) := (Only.cellS n5 hgc (o + 1)).trans q2)
              | (refine wpList_clearR rfl (.tmp 45) rfl c 0 0 win (clL L r n) (some ⟨c, 0, none⟩) rfl r5 (by rw [clL_length _ _ _ (by rw [H4.out.2.2.2.2]; exact k2), H4.out.2.2.2.2]; omega) (fun _ => rfl) ?_; intro w6 r6 n6; have q5 : w6.cell? ⟨g, o + 1, none⟩ = some (.int .i64 (first : Int)) := (Only.cellS n6 hgc (o + 1)).trans q4; have fz : w6.frozen? ⟨g, o + 1, none⟩ = false := by (have hbk : w6.heap[g]? = w.heap[g]? := (n6.block g (by simpa using hgc)).trans ((n5.block g (by simpa using hgc)).trans H4.out.2.2.1); simp only [World.frozen?, hbk]; exact hfr)))
      go_ret
      have hbk : w6.heap[g]? = w.heap[g]? := (n6.block g (by simpa using hgc)).trans ((n5.block g (by simpa using hgc)).trans H4.out.2.2.1)
      refine ⟨rfl, ?_, ?_, ?_, ?_⟩
      · unfold shO; rw [Nat.sub_self]; exact (bk_other (Ne.symm hb1) _ _).trans ((H4.out.2.1.only n5 (Ne.symm hb2)).only n6 (Ne.symm hb2))
      · unfold shL; rw [Nat.sub_self]; exact (bk_other (Ne.symm hgc) _ _).trans r6
      · simp only [World.setCell, Array.getElem?_modify, hbk]
      · exact ((H4.out.2.2.2.1.trans (Chg.of_only n5 (fun k e => Or.inr (Option.some.inj e).symm))).trans (Chg.of_only n6 (fun k e => Or.inr (Option.some.inj e).symm))).set' g (o + 1) _ (Or.inl rfl)
  · have s2 : (n = ah) = False := by simp; exact hna
    clear hna
    go_region_law (refine step_copyR rfl (.tmp 31) (.tmp 35) rfl w.heap.size c ah 0 (n - ah) (n - ah) win win (n - ah) (cpL (List.replicate n (false, 0)) L 0 r ah) L (some ⟨w.heap.size, ah * 2, none⟩) (some ⟨c, 0, none⟩) rfl rfl H3.out.2.2.1 H3.out.2.1 (by have : n - ah ≤ win := k3; exact (Nat.min_eq_right this).symm) (by rw [H3.out.2.2.2.1]; omega) (by rw [cpL_length _ _ _ _ _ (by rw [H3.out.2.2.2.1]; exact k2) (by simp; try omega)]; simp; try omega) (fun _ => ⟨rfl, rfl⟩) ?_; intro w4 r4 n4)
    all_goals
      have q1 : w4.cell? ⟨g, o, none⟩ = some (.slice (some ⟨c, 0, none⟩) win win) := (Only.cellS n4 hb1 o).trans e1
      have q2 : w4.cell? ⟨g, o + 1, none⟩ = some (.int .i64 (first : Int)) := (Only.cellS n4 hb1 (o + 1)).trans e2
      have c4 : rgB w4 c L := rgB.only (w := w3.drew) H3.out.2.1 n4 hb2
      have bl4 : w4.heap[g]? = w.heap[g]? := (n4.block g (by simpa using hb1)).trans (H3.out.1.block g hgl)
      have ch4 : Chg (K2 g c) w w4 := ⟨n4.os.trans H3.out.1.os, n4.tape.trans H3.out.1.tape, n4.output.trans H3.out.1.output, by have h1 := n4.size; have h2 := H3.out.1.size; have h3 : w3.drew.heap.size = w3.heap.size := rfl; omega, fun q hq _ => (n4.block q (by simp; omega)).trans (H3.out.1.block q hq)⟩
      have H4 : Hid _ := And.intro c4 (And.intro r4 (And.intro bl4 (And.intro ch4 H3.out.2.2.2.1)))
      clear r4 n4 c4 bl4 ch4 e1 e2
      have t1 : ((ah : Int) : Int) ≤ ((win - r : Nat) : Int) := by omega
      go_simp
      go_wp2_with (first
              | (refine wpList_clearR rfl (.tmp 39) rfl c r ah (win - r) L (some ⟨c, r * 2, none⟩) rfl H4.out.1 (by rw [H4.out.2.2.2.2]; exact k2) (fun _ => rfl) ?_; intro w5 r5 n5; have q3 : w5.cell? ⟨g, o, none⟩ = some (.slice (some ⟨c, 0, none⟩) win win) := (Only.cellS n5 hgc o).trans q1; have q4 : w5.cell? ⟨g, o + 1, none⟩ = some (.int .i64 (first : Int)) := (Only.cellS n5 hgc (o + 1)).trans q2)
              | (refine wpList_clearR rfl (.tmp 45) rfl c 0 (n - ah) win (clL L r ah) (some ⟨c, 0, none⟩) rfl r5 (by rw [clL_length _ _ _ (by rw [H4.out.2.2.2.2]; exact k2), H4.out.2.2.2.2]; omega) (fun _ => rfl) ?_; intro w6 r6 n6; have q5 : w6.cell? ⟨g, o + 1, none⟩ = some (.int .i64 (first : Int)) := (Only.cellS n6 hgc (o + 1)).trans q4; have fz : w6.frozen? ⟨g, o + 1, none⟩ = false := by (have hbk : w6.heap[g]? = w.heap[g]? := (n6.block g (by simpa using hgc)).trans ((n5.block g (by simpa using hgc)).trans H4.out.2.2.1); simp only [World.frozen?, hbk]; exact hfr)))
      go_ret
      have hbk : w6.heap[g]? = w.heap[g]? := (n6.block g (by simpa using hgc)).trans ((n5.block g (by simpa using hgc)).trans H4.out.2.2.1)
      refine ⟨rfl, ?_, ?_, ?_, ?_⟩
      · unfold shO; exact (bk_other (Ne.symm hb1) _ _).trans ((H4.out.2.1.only n5 (Ne.symm hb2)).only n6 (Ne.symm hb2))
      · unfold shL; exact (bk_other (Ne.symm hgc) _ _).trans r6
      · simp only [World.setCell, Array.getElem?_modify, hbk]
      · exact ((H4.out.2.2.2.1.trans (Chg.of_only n5 (fun k e => Or.inr (Option.some.inj e).symm))).trans (Chg.of_only n6 (fun k e => Or.inr (Option.some.inj e).symm))).set' g (o + 1) _ (Or.inl rfl)
end Go.Proofs.YthbggabgklnhgaaDoor
