import Derived.Test.YtkjfpgdnhdnceabDoorSrc3
namespace Go.Proofs.YtkjfpgdnhdnceabDoor
open Go.RowKit
set_option linter.unusedVariables false

def gdV (xs : List Int) (s : St) : Int := if numV xs s < 0 ∨ 4611686018427387903 < numV xs s then nextV xs 50 (numS xs s) else numV xs s
def gdS (xs : List Int) (s : St) : St := if numV xs s < 0 ∨ 4611686018427387903 < numV xs s then nextS xs 50 (numS xs s) else numS xs s
theorem gdS_pos (xs : List Int) (s : St) : s.pos ≤ (gdS xs s).pos ∧ (gdS xs s).pos ≤ s.pos + 12 := by
  have h1 := numS_pos xs s
  have h2 := nextS_pos xs 50 (numS xs s)
  unfold gdS; split <;> omega

set_option maxHeartbeats 400000 in
theorem goodC (g : Nat) (v : Value) (xs : List Int) (s : St) (w : World) (h : Drw w g v xs s) (hp : s.pos ≤ 1099511625000) :
    Calls Tryd.prog 28 #[.pointer (some ⟨g, 0, none⟩)] w fun e w' => e = .returned (.int .i64 (gdV xs s)) ∧ Drw w' g v xs (gdS xs s) ∧ w.grownBy w' (some g) := by
  have N := numberC g v xs s w h (by omega)
  have K := fun w hd => nextC g v xs 50 (numS xs s) w hd (by have := numS_pos xs s; omega) (by decide) (by decide)
  by_cases hb : numV xs s < 0 ∨ 4611686018427387903 < numV xs s
  · have e1 : gdV xs s = nextV xs 50 (numS xs s) := by unfold gdV; rw [if_pos hb]
    have e2 : gdS xs s = nextS xs 50 (numS xs s) := by unfold gdS; rw [if_pos hb]
    rw [e1, e2]
    clear e1 e2
    generalize numV xs s = x at N hb
    generalize nextV xs 50 (numS xs s) = y at K
    clear h
    by_cases h0 : x < 0
    · clear hb
      go_enter Tryd.func28, Tryd.ntmps28
      go_wp2_with fail
      go_at_call 17
      refine N.mono ?_
      rintro e w1 ⟨rfl, hd1, hg1⟩
      go_wp2_with fail
      go_at_call 18
      refine (K _ hd1).mono ?_
      rintro e w2 ⟨rfl, hd2, hg2⟩
      go_wp2
      go_ret
      exact ⟨rfl, hd2, grown_trans hg1 hg2⟩
    · have h1 : 4611686018427387903 < x := by omega
      clear hb
      go_enter Tryd.func28, Tryd.ntmps28
      go_wp2_with fail
      go_at_call 17
      refine N.mono ?_
      rintro e w1 ⟨rfl, hd1, hg1⟩
      go_wp2_with fail
      go_at_call 18
      refine (K _ hd1).mono ?_
      rintro e w2 ⟨rfl, hd2, hg2⟩
      go_wp2
      go_ret
      exact ⟨rfl, hd2, grown_trans hg1 hg2⟩
  · have e1 : gdV xs s = numV xs s := by unfold gdV; rw [if_neg hb]
    have e2 : gdS xs s = numS xs s := by unfold gdS; rw [if_neg hb]
    rw [e1, e2]
    clear e1 e2 K
    generalize numV xs s = x at N hb
    have h0 : ¬ x < 0 := by omega
    have h1 : ¬ 4611686018427387903 < x := by omega
    clear h hb
    go_enter Tryd.func28, Tryd.ntmps28
    go_wp2_with fail
    go_at_call 17
    refine N.mono ?_
    rintro e w1 ⟨rfl, hd1, hg1⟩
    go_wp2
    go_ret
    exact ⟨rfl, hd1, hg1⟩

/-- The states behind k good numbers; the numbers. -/
def itS (xs : List Int) (s : St) : Nat → St
  | 0 => s
  | k + 1 => gdS xs (itS xs s k)
def itV (xs : List Int) (s : St) (k : Nat) : Int := gdV xs (itS xs s k)
def lst (N : Nat → Int) (k : Nat) : List Int := (List.range k).map N
theorem lst_length (N : Nat → Int) (k : Nat) : (lst N k).length = k := by simp [lst]
theorem lst_succ (N : Nat → Int) (k : Nat) : lst N (k + 1) = lst N k ++ [N k] := by simp [lst, List.range_succ]
theorem itS_pos (xs : List Int) (s : St) (k : Nat) : s.pos ≤ (itS xs s k).pos ∧ (itS xs s k).pos ≤ s.pos + 12 * k := by
  induction k with
  | zero => simp [itS]
  | succ k ih =>
    have := gdS_pos xs (itS xs s k)
    simp only [itS]
    omega

theorem grown_own {w wr w2 : World} {g : Nat} {r : Option Nat} (h : w.grownBy wr (some g)) (h2 : wr.grownBy w2 r) (hr : ∀ k, r = some k → w.heap.size ≤ k) : w.grownBy w2 (some g) :=
  ⟨h2.os.trans h.os, h2.tape.trans h.tape, h2.output.trans h.output, Nat.le_trans h.size h2.size, fun i hi hg =>
    (h2.block i (Nat.lt_of_lt_of_le hi h.size) (fun e => by have := hr i e.symm; omega)).trans (h.block i hi hg)⟩

/-- Where the code of the source lies: not in a block from 'base' on. -/
def Low (base : Nat) (v : Value) : Prop := ∀ b off n cap, 0 < n → v = .slice (some ⟨b, off, none⟩) n cap → b < base

/-- What one append behind a step of the source does. -/
theorem src_push {w wr w1 w2 : World} {g k : Nat} {c v v' : Value} {xs : List Int} {s' : St} {N : Nat → Int} {o : Obj} (hlow : Low w.heap.size c) (hgl : g < w.heap.size)
    (hown : wr.ownsRow w.heap.size 3 1 v k ((lst N k).map (Value.int .i64))) (hg : w.grownBy wr (some g)) (hg1 : wr.grownBy w1 (some g)) (hd1 : Drw w1 g c xs s')
    (hown2 : w2.ownsRow w.heap.size 3 1 v' (k + 1) ((lst N k).map (Value.int .i64) ++ [Value.int .i64 (N k)])) (hgrow : (w1.alloc o).grownBy w2 v.ownBlock) :
    w2.ownsRow w.heap.size 3 1 v' (k + 1) ((lst N (k + 1)).map (Value.int .i64)) ∧ Drw w2 g c xs s' ∧ w.grownBy w2 (some g) := by
  have hr : ∀ j, v.ownBlock = some j → w.heap.size ≤ j := fun j hj => (hown.lt j hj).1
  refine ⟨by rw [lst_succ, List.map_append]; exact hown2, ?_, ?_⟩
  · refine (drw_alloc hd1 o).kept hgrow (fun e => by have := hr g e.symm; omega) (fun b off n cap h0 e e' => ?_)
    have h1 := hlow b off n cap h0 e
    have h2 := hr b e'.symm
    omega
  · exact grown_own (grown_trans (grown_trans hg hg1) (World.grownBy_alloc w1 o (some g))) hgrow hr

theorem own_step {wr w1 : World} {base e k g : Nat} {v : Value} {xs : List Value} (hown : wr.ownsRow base e 1 v k xs) (hg1 : wr.grownBy w1 (some g)) (hgl : g < base) : w1.ownsRow base e 1 v k xs := by
  refine hown.kept hg1 ?_
  cases hv : v.ownBlock with
  | none => exact Or.inl rfl
  | some j =>
    right
    intro e
    have := (hown.lt j hv).1
    have := Option.some.inj e
    omega

theorem infoInts : (Tryd.prog.info? 3).map (fun i => (i.zero, i.size, i.bytes)) = some (some (.int .i64 0), 1, 8) := by kernel_rfl

def lsN (xs : List Int) (s : St) : Nat := (nextV xs (szV xs 40 + 1) s).toNat
def lsS (xs : List Int) (s : St) : St := nextS xs (szV xs 40 + 1) s
theorem szV_bd (xs : List Int) : 1 ≤ szV xs 40 ∧ szV xs 40 ≤ 40 := by unfold szV; split <;> omega
theorem lsN_bd (xs : List Int) (s : St) : lsN xs s ≤ 40 ∧ ((lsN xs s : Nat) : Int) = nextV xs (szV xs 40 + 1) s := by
  have h1 := szV_bd xs
  have h2 := nextV_bd xs (szV xs 40 + 1) s (by omega)
  unfold lsN; omega

set_option maxHeartbeats 1000000 in
theorem listC (g : Nat) (c : Value) (xs : List Int) (s : St) (w : World) (h : Drw w g c xs s) (hlow : Low w.heap.size c) (hp : s.pos ≤ 1099511620000) :
    Calls Tryd.prog 15 #[.pointer (some ⟨g, 0, none⟩)] w fun e w' => ∃ r, e = .returned r ∧ w'.ownsRow w.heap.size 3 1 r (lsN xs s) ((lst (itV xs (lsS xs s)) (lsN xs s)).map (Value.int .i64)) ∧ Drw w' g c xs (itS xs (lsS xs s) (lsN xs s)) ∧ w.grownBy w' (some g) := by
  have hgl := drw_lt h
  have hz := szV_bd xs
  have hN := lsN_bd xs s
  have S : Calls Tryd.prog 27 #[.pointer (some ⟨g, 0, none⟩), .int .i64 40] _ _ := sizeC g c xs 40 s _ (drw_alloc h (.cells #[] 3)) (by decide) (by decide)
  have N := nextC g c xs (szV xs 40 + 1) s _ (drw_alloc h (.cells #[] 3)) (by omega) (by omega) (by omega)
  rw [← hN.2] at N
  have e1 : nextS xs (szV xs 40 + 1) s = lsS xs s := rfl
  rw [e1] at N
  have hps : (lsS xs s).pos ≤ s.pos + 3 := (nextS_pos xs (szV xs 40 + 1) s).2
  generalize lsN xs s = n at N hN
  generalize szV xs 40 = z at N S hz
  generalize lsS xs s = t at N hps
  have G : ∀ (k : Nat) (wr : World), k ≤ 40 → Drw wr g c xs (itS xs t k) → Calls Tryd.prog 28 #[.pointer (some ⟨g, 0, none⟩)] wr fun e w' => e = .returned (.int .i64 (itV xs t k)) ∧ Drw w' g c xs (itS xs t (k + 1)) ∧ wr.grownBy w' (some g) :=
    fun k wr hk hd => goodC g c xs (itS xs t k) wr hd (by have := itS_pos xs t k; omega)
  have HG : Hid _ := G
  have hn40 := hN.1
  obtain ⟨i0, hi, hz0, hz1, hz2⟩ := info_parts infoInts
  clear G e1 h hN hps hp
  go_enter Tryd.func15, Tryd.ntmps15
  go_wp2_with fail
  go_at_call 27
  refine S.mono ?_
  rintro e w' ⟨rfl, hw⟩
  rw [hw]
  clear hw w'
  go_wp2_with fail
  go_at_call 18
  refine N.mono ?_
  rintro e w1 ⟨rfl, hd1, hg1⟩
  clear S N
  have ho1 : w1.ownsRow w.heap.size 3 1 (.slice (some ⟨w.heap.size, 0, none⟩) 0 0) 0 ((lst (itV xs t) 0).map (Value.int .i64)) :=
    own_step (World.ownsRow_lit w #[] 0 (Nat.le_refl _) (by decide) rfl) hg1 hgl
  have hgw : w.grownBy w1 (some g) := grown_trans (World.grownBy_alloc w _ (some g)) hg1
  have HO : Hid _ := And.intro ho1 (And.intro hd1 hgw)
  clear ho1 hd1 hgw hg1
  go_wp2
  go_loopw [3, 4] (fun v i wr => ∃ k : Nat, k ≤ n ∧ i = .int .i64 ((n : Int) - (k : Int)) ∧ wr.ownsRow w.heap.size 3 1 v k ((lst (itV xs t) k).map (Value.int .i64)) ∧ Drw wr g c xs (itS xs t k) ∧ w.grownBy wr (some g)) (fun _ i _ => (intOf i).toNat)
  case atStart => exact ⟨0, Nat.zero_le _, by simp, HO.out.1, HO.out.2.1, HO.out.2.2⟩
  case round =>
    obtain ⟨k, hk, rfl, hown, hd, hg⟩ := hrel
    by_cases hlt : k < n
    · have C := HG.out k wr (by omega) hd
      obtain ⟨x, ex⟩ : ∃ x, x = itV xs t k := ⟨_, rfl⟩
      rw [← ex] at C
      have EX : Hid (x = itV xs t k) := ex
      clear ex HO
      go_wp2_with (first
        | (go_at_call 28; refine C.mono ?_; rintro e w1 ⟨rfl, hd1, hg1⟩)
        | (at_builtin; refine wpList_append_own _ rfl _ _ 23 rfl w.heap.size 3 i0 (.int .i64 0) 1 8 Tryd.underlying23 hi hz0 hz1 hz2 rfl (by decide) _ _ _ rfl ((own_step hown hg1 hgl).alloc _) ⟨w1.heap.size, 0, none⟩ 1 1 [.int .i64 x] rfl rfl ?c1 ?c2 ?c3 ?c4 ?c5 ?_))
      case c1 =>
        intro j u hj
        match j, hj with
        | 0, hj => simp at hj; subst hj; simp [Addr.add]
      case c2 => intro u hu; simp at hu; subst hu; rfl
      case c3 => unfold maxLen; omega
      case c4 => omega
      case c5 => have := hg.size; have := hg1.size; simp; omega
      intro v' w2 hown2 hgrow _
      rw [EX.out] at hown2 hgrow
      have R := src_push hlow hgl hown hg hg1 hd1 hown2 hgrow
      have HR : Hid _ := R
      clear R hown2 hgrow hown hg hd C hd1 hg1
      go_wp2
      go_roundw
      case rel => exact ⟨k + 1, by omega, by go_num, HR.out.1, HR.out.2.1, HR.out.2.2⟩
      case measure => simp [intOf]; omega
    · obtain rfl : k = n := by omega
      have HR : Hid _ := And.intro hown (And.intro hd hg)
      clear hown hd hg HO
      go_wp2
      go_ret
      exact ⟨_, rfl, HR.out.1, HR.out.2.1, HR.out.2.2⟩
end Go.Proofs.YtkjfpgdnhdnceabDoor
