import Derived.Test.YtkjfpgdnhdnceabDoorSrc4
namespace Go.Proofs.YtkjfpgdnhdnceabDoor
open Go.RowKit
set_option linter.unusedVariables false

def stZ (xs : List Int) : St := ⟨0, (xs.length : Int) % 1000⟩

theorem sourceC (v : Value) (xs : List Int) (w : World) (hrow : Row w .u8 v xs) (hB : Bytes xs) (hl : xs.length ≤ 1048576) :
    Calls Tryd.prog 14 #[v] w fun e w' => e = .returned (.pointer (some ⟨w.heap.size, 0, none⟩)) ∧ w' = w.alloc (.cells #[v, .int .i64 0, .int .i64 ((xs.length : Int) % 1000)] 53) := by
  obtain ⟨ao, cap, rfl⟩ := hrow.form
  clear hrow hB
  generalize xs.length = n at *
  go_enter Tryd.func14, Tryd.ntmps14
  go_wp2
  go_ret
  exact ⟨rfl, rfl⟩

theorem drw_new {w : World} {v : Value} {xs : List Int} (hrow : Row w .u8 v xs) (hB : Bytes xs) (hl : xs.length ≤ 1048576) :
    Drw (w.alloc (.cells #[v, .int .i64 0, .int .i64 ((xs.length : Int) % 1000)] 53)) w.heap.size v xs (stZ xs) := by
  refine ⟨(MapKept.heap_alloc w _).1, hrow.grown (World.grownBy_alloc w _ none) (by intros; simp), ?_, hB, hl, Int.le_refl 0, by show 0 ≤ (xs.length : Int) % 1000; omega, by show (xs.length : Int) % 1000 < 2147483648; omega⟩
  intro b off n cap h0 e
  rcases hrow with ⟨rfl, ao, cap', e'⟩ | ⟨b', off', cap', e', hb, _⟩
  · rw [e] at e'; cases e'; omega
  · rw [e] at e'; cases e'; omega
theorem low_new {w : World} {v : Value} {xs : List Int} (hrow : Row w .u8 v xs) {B : Nat} (hB : w.heap.size ≤ B) : Low B v := by
  intro b off n cap h0 e
  rcases hrow with ⟨rfl, ao, cap', e'⟩ | ⟨b', off', cap', e', hb, _⟩
  · rw [e] at e'; cases e'; omega
  · rw [e] at e'; cases e'; omega

/-- The drawn list, as a function of the code's bytes. -/
def dS1 (xs : List Int) : St := itS xs (lsS xs (stZ xs)) (lsN xs (stZ xs))
def dL1 (xs : List Int) : List Int := lst (itV xs (lsS xs (stZ xs))) (lsN xs (stZ xs))
def dC1 (xs : List Int) : Bool := nextV xs 6 (dS1 xs) == 6 - 1
def dS2 (xs : List Int) : St := if dC1 xs then numS xs (nextS xs 6 (dS1 xs)) else nextS xs 6 (dS1 xs)
def dL2 (xs : List Int) : List Int := if dC1 xs then dL1 xs ++ [numV xs (nextS xs 6 (dS1 xs))] else dL1 xs
def dC2 (xs : List Int) : Bool := nextV xs 60 (dS2 xs) == 60 - 1
def dN (xs : List Int) : Nat := (4096 + nextV xs 2 (nextS xs 60 (dS2 xs))).toNat
def drawV (xs : List Int) : List Int := if dC2 xs then List.replicate (dN xs) 0 else dL2 xs
theorem dN_bd (xs : List Int) : dN xs ≤ 4097 ∧ ((dN xs : Nat) : Int) = 4096 + nextV xs 2 (nextS xs 60 (dS2 xs)) := by
  have := nextV_bd xs 2 (nextS xs 60 (dS2 xs)) (by decide)
  unfold dN; omega
theorem dL1_length (xs : List Int) : (dL1 xs).length = lsN xs (stZ xs) ∧ (dL1 xs).length ≤ 40 := by
  unfold dL1; rw [lst_length]; exact ⟨rfl, (lsN_bd xs (stZ xs)).1⟩
theorem drawV_length (xs : List Int) : (drawV xs).length ≤ 4097 := by
  have h1 := (dL1_length xs).2
  have h2 := (dN_bd xs).1
  unfold drawV
  split
  · simpa using h2
  · unfold dL2
    split
    · rw [List.length_append]; simp; omega
    · omega
theorem dS1_pos (xs : List Int) : (dS1 xs).pos ≤ 1000 := by
  have h1 := itS_pos xs (lsS xs (stZ xs)) (lsN xs (stZ xs))
  have h2 := (nextS_pos xs (szV xs 40 + 1) (stZ xs)).2
  have h3 := (lsN_bd xs (stZ xs)).1
  have h4 : (stZ xs).pos = 0 := rfl
  have h5 : lsS xs (stZ xs) = nextS xs (szV xs 40 + 1) (stZ xs) := rfl
  unfold dS1
  rw [← h5] at h2
  omega
theorem dS2_pos (xs : List Int) : (dS2 xs).pos ≤ 1100 := by
  have h1 := dS1_pos xs
  have h2 := (nextS_pos xs 6 (dS1 xs)).2
  have h3 := (numS_pos xs (nextS xs 6 (dS1 xs))).2
  unfold dS2; split <;> omega

/-- The end of the draw: chance(60), and the long list. -/
theorem grown_below {w w1 w2 : World} {o : Obj} (h1 : w1 = w.alloc o) (h2 : w1.grownBy w2 (some w.heap.size)) : Below w.heap.size w w2 := by
  subst h1
  refine ⟨h2.os, h2.tape, h2.output, ?_, fun k hk => ?_⟩
  · have := h2.size; simp at this; omega
  · rw [h2.block k (by simp; omega) (fun e => by have := Option.some.inj e; omega)]
    exact Below.heap_alloc w o k hk

/-- What one append behind steps of the source does (whatever list). -/
theorem src_push2 {w wr w1 w2 : World} {g : Nat} {c v v' : Value} {xs ys : List Int} {x : Int} {s' : St} {o : Obj} (hlow : Low w.heap.size c) (hgl : g < w.heap.size)
    (hown : wr.ownsRow w.heap.size 3 1 v ys.length (ys.map (Value.int .i64))) (hg : w.grownBy wr (some g)) (hg1 : wr.grownBy w1 (some g)) (hd1 : Drw w1 g c xs s')
    (hown2 : w2.ownsRow w.heap.size 3 1 v' (ys.length + 1) (ys.map (Value.int .i64) ++ [Value.int .i64 x])) (hgrow : (w1.alloc o).grownBy w2 v.ownBlock) :
    w2.ownsRow w.heap.size 3 1 v' (ys ++ [x]).length ((ys ++ [x]).map (Value.int .i64)) ∧ Drw w2 g c xs s' ∧ w.grownBy w2 (some g) := by
  have hr : ∀ j, v.ownBlock = some j → w.heap.size ≤ j := fun j hj => (hown.lt j hj).1
  refine ⟨by rw [List.length_append, List.map_append]; exact hown2, ?_, ?_⟩
  · refine (drw_alloc hd1 o).kept hgrow (fun e => by have := hr g e.symm; omega) (fun b off n cap h0 e e' => ?_)
    have h1 := hlow b off n cap h0 e
    have h2 := hr b e'.symm
    omega
  · exact grown_own (grown_trans (grown_trans hg hg1) (World.grownBy_alloc w1 o (some g))) hgrow hr

set_option maxHeartbeats 1000000 in
theorem drawC (v : Value) (xs : List Int) (w : World) (hrow : Row w .u8 v xs) (hB : Bytes xs) (hl : xs.length ≤ 1048576) :
    Calls Tryd.prog 4 #[v] w fun e w' => ∃ r, e = .returned r ∧ w'.ownsRow w.heap.size 3 1 r (drawV xs).length ((drawV xs).map (Value.int .i64)) ∧ Below w.heap.size w w' := by
  have S := sourceC v xs w hrow hB hl
  obtain ⟨w0, ew⟩ : ∃ w0, w0 = w.alloc (.cells #[v, .int .i64 0, .int .i64 ((xs.length : Int) % 1000)] 53) := ⟨_, rfl⟩
  have D0 := drw_new hrow hB hl
  rw [← ew] at S D0
  have hw0 : w0.heap.size = w.heap.size + 1 := by rw [ew]; simp
  have L := listC w.heap.size v xs (stZ xs) w0 D0 (low_new hrow (by omega)) (by show (0 : Int) ≤ _; decide)
  have e1 : itS xs (lsS xs (stZ xs)) (lsN xs (stZ xs)) = dS1 xs := rfl
  have e2 : lst (itV xs (lsS xs (stZ xs))) (lsN xs (stZ xs)) = dL1 xs := rfl
  rw [e1, e2, ← (dL1_length xs).1] at L
  have p1 := dS1_pos xs
  have C1 := fun w' (hd : Drw w' w.heap.size v xs (dS1 xs)) => chanceC w.heap.size v xs 6 (dS1 xs) w' hd (by omega) (by decide) (by decide)
  have hk : ∀ w', w0.grownBy w' (some w.heap.size) → Below w.heap.size w w' := fun w' h => grown_below ew h
  have HK : Hid _ := hk
  have hlen := (dL1_length xs).2
  have p2 := dS2_pos xs
  have C2 := fun w' (hd : Drw w' w.heap.size v xs (dS2 xs)) => chanceC w.heap.size v xs 60 (dS2 xs) w' hd (by omega) (by decide) (by decide)
  have N2 := fun w' (hd : Drw w' w.heap.size v xs (nextS xs 60 (dS2 xs))) => nextC w.heap.size v xs 2 (nextS xs 60 (dS2 xs)) w' hd (by have := nextS_pos xs 60 (dS2 xs); omega) (by decide) (by decide)
  have nb := nextV_bd xs 2 (nextS xs 60 (dS2 xs)) (by decide)
  have dn := dN_bd xs
  have hlow : Low w0.heap.size v := low_new hrow (by omega)
  obtain ⟨i0, hi, hz0, hz1, hz2⟩ := info_parts infoInts
  have hgl : w.heap.size < w0.heap.size := by omega
  have HEW : Hid (w0 = w.alloc (.cells #[v, .int .i64 0, .int .i64 ((xs.length : Int) % 1000)] 53)) := ew
  clear ew D0 hrow hB hl e1 e2 hw0 hk
  cases h1 : dC1 xs <;> cases h2 : dC2 xs
  · have a1 : dL2 xs = dL1 xs := by unfold dL2; rw [h1]; rfl
    have a2 : dS2 xs = nextS xs 6 (dS1 xs) := by unfold dS2; rw [h1]; rfl
    have a3 : drawV xs = dL2 xs := by unfold drawV; rw [h2]; rfl
    have q1 : (nextV xs 6 (dS1 xs) == 6 - 1) = false := h1
    have q2 : (nextV xs 60 (dS2 xs) == 60 - 1) = false := h2
    have K1 : ∀ w', Drw w' w.heap.size v xs (dS1 xs) → Calls Tryd.prog 16 #[.pointer (some ⟨w.heap.size, 0, none⟩), .int .i64 6] w' fun e w2 => e = .returned (.bool false) ∧ Drw w2 w.heap.size v xs (nextS xs 6 (dS1 xs)) ∧ w'.grownBy w2 (some w.heap.size) := by
      intro w' hd
      have := C1 w' hd
      rw [q1] at this
      exact this
    have K2 : ∀ w', Drw w' w.heap.size v xs (dS2 xs) → Calls Tryd.prog 16 #[.pointer (some ⟨w.heap.size, 0, none⟩), .int .i64 60] w' fun e w2 => e = .returned (.bool false) ∧ Drw w2 w.heap.size v xs (nextS xs 60 (dS2 xs)) ∧ w'.grownBy w2 (some w.heap.size) := by
      intro w' hd
      have := C2 w' hd
      rw [q2] at this
      exact this
    have K3 : ∀ w', Drw w' w.heap.size v xs (nextS xs 6 (dS1 xs)) → Calls Tryd.prog 17 #[.pointer (some ⟨w.heap.size, 0, none⟩)] w' fun e w2 => e = .returned (.int .i64 (numV xs (nextS xs 6 (dS1 xs)))) ∧ Drw w2 w.heap.size v xs (numS xs (nextS xs 6 (dS1 xs))) ∧ w'.grownBy w2 (some w.heap.size) :=
      fun w' hd => numberC _ v xs _ w' hd (by have := nextS_pos xs 6 (dS1 xs); omega)
    rw [a3]
    clear C1 C2 q1 q2 h1 h2 a3
    clear N2 nb dn
    go_enter Tryd.func4, Tryd.ntmps4
    go_wp2_with fail
    go_at_call 14
    refine S.mono ?_
    rintro e w0' ⟨rfl, hw⟩
    rw [hw]
    clear hw w0'
    go_wp2_with fail
    go_at_call 15
    refine L.mono ?_
    rintro e w1 ⟨rL, rfl, o1, d1, g1⟩
    go_wp2_with fail
    go_at_call 16
    refine (K1 _ d1).mono ?_
    rintro e w2 ⟨rfl, d2, g2⟩
    have o2 := own_step o1 g2 hgl
    have G2 := grown_trans g1 g2
    have o5 := o2
    have d5 := d2
    have G5 := G2
    rw [← a2] at d5
    rw [← a1] at o5
    clear o2 o1 d1 d2 g1 g2 G2
    go_wp2_with fail
    go_at_call 16
    refine (K2 _ d5).mono ?_
    rintro e w6 ⟨rfl, d6, g6⟩
    have o6 := own_step o5 g6 hgl
    have G6 := grown_trans G5 g6
    have B6 := HK.out w6 G6
    have o7 := owns_mono o6 (Nat.le_of_lt hgl)
    have HR : Hid _ := And.intro o7 B6
    clear o7 o6 B6 G6 g6 o5 d5 G5 d6
    go_wp2
    go_ret
    exact ⟨_, rfl, HR.out.1, HR.out.2⟩
  · have a1 : dL2 xs = dL1 xs := by unfold dL2; rw [h1]; rfl
    have a2 : dS2 xs = nextS xs 6 (dS1 xs) := by unfold dS2; rw [h1]; rfl
    have a3 : drawV xs = List.replicate (dN xs) 0 := by unfold drawV; rw [h2]; rfl
    have q1 : (nextV xs 6 (dS1 xs) == 6 - 1) = false := h1
    have q2 : (nextV xs 60 (dS2 xs) == 60 - 1) = true := h2
    have K1 : ∀ w', Drw w' w.heap.size v xs (dS1 xs) → Calls Tryd.prog 16 #[.pointer (some ⟨w.heap.size, 0, none⟩), .int .i64 6] w' fun e w2 => e = .returned (.bool false) ∧ Drw w2 w.heap.size v xs (nextS xs 6 (dS1 xs)) ∧ w'.grownBy w2 (some w.heap.size) := by
      intro w' hd
      have := C1 w' hd
      rw [q1] at this
      exact this
    have K2 : ∀ w', Drw w' w.heap.size v xs (dS2 xs) → Calls Tryd.prog 16 #[.pointer (some ⟨w.heap.size, 0, none⟩), .int .i64 60] w' fun e w2 => e = .returned (.bool true) ∧ Drw w2 w.heap.size v xs (nextS xs 60 (dS2 xs)) ∧ w'.grownBy w2 (some w.heap.size) := by
      intro w' hd
      have := C2 w' hd
      rw [q2] at this
      exact this
    have K3 : ∀ w', Drw w' w.heap.size v xs (nextS xs 6 (dS1 xs)) → Calls Tryd.prog 17 #[.pointer (some ⟨w.heap.size, 0, none⟩)] w' fun e w2 => e = .returned (.int .i64 (numV xs (nextS xs 6 (dS1 xs)))) ∧ Drw w2 w.heap.size v xs (numS xs (nextS xs 6 (dS1 xs))) ∧ w'.grownBy w2 (some w.heap.size) :=
      fun w' hd => numberC _ v xs _ w' hd (by have := nextS_pos xs 6 (dS1 xs); omega)
    rw [a3]
    clear C1 C2 q1 q2 h1 h2 a3
    go_enter Tryd.func4, Tryd.ntmps4
    go_wp2_with fail
    go_at_call 14
    refine S.mono ?_
    rintro e w0' ⟨rfl, hw⟩
    rw [hw]
    clear hw w0'
    go_wp2_with fail
    go_at_call 15
    refine L.mono ?_
    rintro e w1 ⟨rL, rfl, o1, d1, g1⟩
    go_wp2_with fail
    go_at_call 16
    refine (K1 _ d1).mono ?_
    rintro e w2 ⟨rfl, d2, g2⟩
    have o2 := own_step o1 g2 hgl
    have G2 := grown_trans g1 g2
    have o5 := o2
    have d5 := d2
    have G5 := G2
    rw [← a2] at d5
    rw [← a1] at o5
    clear o2 o1 d1 d2 g1 g2 G2
    go_wp2_with fail
    go_at_call 16
    refine (K2 _ d5).mono ?_
    rintro e w6 ⟨rfl, d6, g6⟩
    have o6 := own_step o5 g6 hgl
    have G6 := grown_trans G5 g6
    go_wp2_with fail
    go_at_call 18
    refine (N2 _ d6).mono ?_
    rintro e w7 ⟨rfl, d7, g7⟩
    have B7 := HK.out w7 (grown_trans G6 g7)
    obtain ⟨y, ey⟩ : ∃ y, y = nextV xs 2 (nextS xs 60 (dS2 xs)) := ⟨_, rfl⟩
    rw [← ey] at nb dn ⊢
    obtain ⟨m, em⟩ : ∃ m, m = dN xs := ⟨_, rfl⟩
    rw [← em] at dn
    have EM : Hid (m = dN xs) := em
    have hm1 := dn.1
    have hm2 := dn.2
    have HM2 : Hid ((m : Int) = 4096 + y) := hm2
    clear ey em dn o6 G6 o5 d5 G5 g6 g7 d6 d7 hm2
    go_wp2_with (at_make; refine wpList_make_full _ rfl _ _ 23 rfl w.heap.size 3 i0 (.int .i64 0) 1 Tryd.underlying23 hi hz0 hz1 .i64 .i64 (4096 + y) (4096 + y) m rfl rfl HM2.out.symm HM2.out.symm (by rw [hz2]; omega) (by unfold maxLen; omega) B7.size ?_; intro w8 hown hg)
    go_ret
    refine ⟨_, rfl, ?_, B7.grown hg B7.size (by intro k hk; cases hk)⟩
    have o8 := made_zero hown
    rw [EM.out] at o8
    rw [List.length_replicate, EM.out]
    exact o8
  · have a1 : dL2 xs = dL1 xs ++ [numV xs (nextS xs 6 (dS1 xs))] := by unfold dL2; rw [h1]; rfl
    have a2 : dS2 xs = numS xs (nextS xs 6 (dS1 xs)) := by unfold dS2; rw [h1]; rfl
    have a3 : drawV xs = dL2 xs := by unfold drawV; rw [h2]; rfl
    have q1 : (nextV xs 6 (dS1 xs) == 6 - 1) = true := h1
    have q2 : (nextV xs 60 (dS2 xs) == 60 - 1) = false := h2
    have K1 : ∀ w', Drw w' w.heap.size v xs (dS1 xs) → Calls Tryd.prog 16 #[.pointer (some ⟨w.heap.size, 0, none⟩), .int .i64 6] w' fun e w2 => e = .returned (.bool true) ∧ Drw w2 w.heap.size v xs (nextS xs 6 (dS1 xs)) ∧ w'.grownBy w2 (some w.heap.size) := by
      intro w' hd
      have := C1 w' hd
      rw [q1] at this
      exact this
    have K2 : ∀ w', Drw w' w.heap.size v xs (dS2 xs) → Calls Tryd.prog 16 #[.pointer (some ⟨w.heap.size, 0, none⟩), .int .i64 60] w' fun e w2 => e = .returned (.bool false) ∧ Drw w2 w.heap.size v xs (nextS xs 60 (dS2 xs)) ∧ w'.grownBy w2 (some w.heap.size) := by
      intro w' hd
      have := C2 w' hd
      rw [q2] at this
      exact this
    have K3 : ∀ w', Drw w' w.heap.size v xs (nextS xs 6 (dS1 xs)) → Calls Tryd.prog 17 #[.pointer (some ⟨w.heap.size, 0, none⟩)] w' fun e w2 => e = .returned (.int .i64 (numV xs (nextS xs 6 (dS1 xs)))) ∧ Drw w2 w.heap.size v xs (numS xs (nextS xs 6 (dS1 xs))) ∧ w'.grownBy w2 (some w.heap.size) :=
      fun w' hd => numberC _ v xs _ w' hd (by have := nextS_pos xs 6 (dS1 xs); omega)
    rw [a3]
    clear C1 C2 q1 q2 h1 h2 a3
    clear N2 nb dn
    go_enter Tryd.func4, Tryd.ntmps4
    go_wp2_with fail
    go_at_call 14
    refine S.mono ?_
    rintro e w0' ⟨rfl, hw⟩
    rw [hw]
    clear hw w0'
    go_wp2_with fail
    go_at_call 15
    refine L.mono ?_
    rintro e w1 ⟨rL, rfl, o1, d1, g1⟩
    go_wp2_with fail
    go_at_call 16
    refine (K1 _ d1).mono ?_
    rintro e w2 ⟨rfl, d2, g2⟩
    have o2 := own_step o1 g2 hgl
    have G2 := grown_trans g1 g2
    go_wp2_with fail
    go_at_call 17
    refine (K3 _ d2).mono ?_
    rintro e w3 ⟨rfl, d3, g3⟩
    have o3 := own_step o2 g3 hgl
    obtain ⟨x, ex⟩ : ∃ x, x = numV xs (nextS xs 6 (dS1 xs)) := ⟨_, rfl⟩
    rw [← ex]
    have EX : Hid (x = numV xs (nextS xs 6 (dS1 xs))) := ex
    clear ex
    go_wp2_with (at_builtin; refine wpList_append_own _ rfl _ _ 23 rfl w0.heap.size 3 i0 (.int .i64 0) 1 8 Tryd.underlying23 hi hz0 hz1 hz2 rfl (by decide) _ _ _ rfl (o3.alloc _) ⟨w3.heap.size, 0, none⟩ 1 1 [.int .i64 x] rfl rfl ?c1 ?c2 ?c3 ?c4 ?c5 ?_)
    case c1 =>
      intro j u hj
      match j, hj with
      | 0, hj => simp at hj; subst hj; simp [Addr.add]
    case c2 => intro u hu; simp at hu; subst hu; rfl
    case c3 => unfold maxLen; omega
    case c4 => omega
    case c5 => have := G2.size; have := g3.size; simp; omega
    intro v' w4 own4 grow4 _
    have R := src_push2 hlow hgl o2 G2 g3 d3 own4 grow4
    rw [EX.out, ← a1, ← a2] at R
    obtain ⟨o5, d5, G5⟩ := R
    clear own4 grow4 o3 o2 o1 G2 g1 g2 g3 d1 d2 d3
    go_wp2_with fail
    go_at_call 16
    refine (K2 _ d5).mono ?_
    rintro e w6 ⟨rfl, d6, g6⟩
    have o6 := own_step o5 g6 hgl
    have G6 := grown_trans G5 g6
    have B6 := HK.out w6 G6
    have o7 := owns_mono o6 (Nat.le_of_lt hgl)
    have HR : Hid _ := And.intro o7 B6
    clear o7 o6 B6 G6 g6 o5 d5 G5 d6
    go_wp2
    go_ret
    exact ⟨_, rfl, HR.out.1, HR.out.2⟩
  · have a1 : dL2 xs = dL1 xs ++ [numV xs (nextS xs 6 (dS1 xs))] := by unfold dL2; rw [h1]; rfl
    have a2 : dS2 xs = numS xs (nextS xs 6 (dS1 xs)) := by unfold dS2; rw [h1]; rfl
    have a3 : drawV xs = List.replicate (dN xs) 0 := by unfold drawV; rw [h2]; rfl
    have q1 : (nextV xs 6 (dS1 xs) == 6 - 1) = true := h1
    have q2 : (nextV xs 60 (dS2 xs) == 60 - 1) = true := h2
    have K1 : ∀ w', Drw w' w.heap.size v xs (dS1 xs) → Calls Tryd.prog 16 #[.pointer (some ⟨w.heap.size, 0, none⟩), .int .i64 6] w' fun e w2 => e = .returned (.bool true) ∧ Drw w2 w.heap.size v xs (nextS xs 6 (dS1 xs)) ∧ w'.grownBy w2 (some w.heap.size) := by
      intro w' hd
      have := C1 w' hd
      rw [q1] at this
      exact this
    have K2 : ∀ w', Drw w' w.heap.size v xs (dS2 xs) → Calls Tryd.prog 16 #[.pointer (some ⟨w.heap.size, 0, none⟩), .int .i64 60] w' fun e w2 => e = .returned (.bool true) ∧ Drw w2 w.heap.size v xs (nextS xs 60 (dS2 xs)) ∧ w'.grownBy w2 (some w.heap.size) := by
      intro w' hd
      have := C2 w' hd
      rw [q2] at this
      exact this
    have K3 : ∀ w', Drw w' w.heap.size v xs (nextS xs 6 (dS1 xs)) → Calls Tryd.prog 17 #[.pointer (some ⟨w.heap.size, 0, none⟩)] w' fun e w2 => e = .returned (.int .i64 (numV xs (nextS xs 6 (dS1 xs)))) ∧ Drw w2 w.heap.size v xs (numS xs (nextS xs 6 (dS1 xs))) ∧ w'.grownBy w2 (some w.heap.size) :=
      fun w' hd => numberC _ v xs _ w' hd (by have := nextS_pos xs 6 (dS1 xs); omega)
    rw [a3]
    clear C1 C2 q1 q2 h1 h2 a3
    go_enter Tryd.func4, Tryd.ntmps4
    go_wp2_with fail
    go_at_call 14
    refine S.mono ?_
    rintro e w0' ⟨rfl, hw⟩
    rw [hw]
    clear hw w0'
    go_wp2_with fail
    go_at_call 15
    refine L.mono ?_
    rintro e w1 ⟨rL, rfl, o1, d1, g1⟩
    go_wp2_with fail
    go_at_call 16
    refine (K1 _ d1).mono ?_
    rintro e w2 ⟨rfl, d2, g2⟩
    have o2 := own_step o1 g2 hgl
    have G2 := grown_trans g1 g2
    go_wp2_with fail
    go_at_call 17
    refine (K3 _ d2).mono ?_
    rintro e w3 ⟨rfl, d3, g3⟩
    have o3 := own_step o2 g3 hgl
    obtain ⟨x, ex⟩ : ∃ x, x = numV xs (nextS xs 6 (dS1 xs)) := ⟨_, rfl⟩
    rw [← ex]
    have EX : Hid (x = numV xs (nextS xs 6 (dS1 xs))) := ex
    clear ex
    go_wp2_with (at_builtin; refine wpList_append_own _ rfl _ _ 23 rfl w0.heap.size 3 i0 (.int .i64 0) 1 8 Tryd.underlying23 hi hz0 hz1 hz2 rfl (by decide) _ _ _ rfl (o3.alloc _) ⟨w3.heap.size, 0, none⟩ 1 1 [.int .i64 x] rfl rfl ?c1 ?c2 ?c3 ?c4 ?c5 ?_)
    case c1 =>
      intro j u hj
      match j, hj with
      | 0, hj => simp at hj; subst hj; simp [Addr.add]
    case c2 => intro u hu; simp at hu; subst hu; rfl
    case c3 => unfold maxLen; omega
    case c4 => omega
    case c5 => have := G2.size; have := g3.size; simp; omega
    intro v' w4 own4 grow4 _
    have R := src_push2 hlow hgl o2 G2 g3 d3 own4 grow4
    rw [EX.out, ← a1, ← a2] at R
    obtain ⟨o5, d5, G5⟩ := R
    clear own4 grow4 o3 o2 o1 G2 g1 g2 g3 d1 d2 d3
    go_wp2_with fail
    go_at_call 16
    refine (K2 _ d5).mono ?_
    rintro e w6 ⟨rfl, d6, g6⟩
    have o6 := own_step o5 g6 hgl
    have G6 := grown_trans G5 g6
    go_wp2_with fail
    go_at_call 18
    refine (N2 _ d6).mono ?_
    rintro e w7 ⟨rfl, d7, g7⟩
    have B7 := HK.out w7 (grown_trans G6 g7)
    obtain ⟨y, ey⟩ : ∃ y, y = nextV xs 2 (nextS xs 60 (dS2 xs)) := ⟨_, rfl⟩
    rw [← ey] at nb dn ⊢
    obtain ⟨m, em⟩ : ∃ m, m = dN xs := ⟨_, rfl⟩
    rw [← em] at dn
    have EM : Hid (m = dN xs) := em
    have hm1 := dn.1
    have hm2 := dn.2
    have HM2 : Hid ((m : Int) = 4096 + y) := hm2
    clear ey em dn o6 G6 o5 d5 G5 g6 g7 d6 d7 hm2
    go_wp2_with (at_make; refine wpList_make_full _ rfl _ _ 23 rfl w.heap.size 3 i0 (.int .i64 0) 1 Tryd.underlying23 hi hz0 hz1 .i64 .i64 (4096 + y) (4096 + y) m rfl rfl HM2.out.symm HM2.out.symm (by rw [hz2]; omega) (by unfold maxLen; omega) B7.size ?_; intro w8 hown hg)
    go_ret
    refine ⟨_, rfl, ?_, B7.grown hg B7.size (by intro k hk; cases hk)⟩
    have o8 := made_zero hown
    rw [EM.out] at o8
    rw [List.length_replicate, EM.out]
    exact o8
end Go.Proofs.YtkjfpgdnhdnceabDoor
