import Derived.Test.YthjakbpcpfmbjaaKb_B
import Derived.Deep.Cut
import Derived.Deep.CutRange
import Derived.Test.YthjakbpcpfmbjaaKb_J
namespace Go.Proofs.Ythjakbpcpfmbjaa
open Go.RowKit
set_option linter.unusedVariables false
set_option linter.unusedSimpArgs false

/-- A stream of the other side's is there if it was admitted. -/
theorem found_their {F : FS} {m : FX} {i : Nat} (h : FXI F i m) (hi : i ≤ 400) (o : Bool) (k : Int) (h0 : 0 ≤ k) (h1 : k < 1152921504606846976) : ixf m.L (idn (!F.sv) o k) < m.L.length ↔ k < m.th o := by
  constructor
  · intro q
    obtain ⟨o', k', hk, ⟨k1, e⟩ | ⟨k1, e⟩⟩ := (h.mem _).1 (ixf_mem.1 q)
    · have a := h.op o'
      have b := h.my o'
      have z := (idn_inj h0 h1 hk (by omega) e).1
      cases hS : F.sv <;> rw [hS] at z <;> cases z
    · have a := h.th o'
      have b := h.tin o'
      have z := idn_inj h0 h1 hk (by omega) e
      rw [z.2.1, z.2.2]; exact k1
  · intro q
    exact ixf_mem.2 ((h.mem _).2 ⟨o, k, h0, Or.inr ⟨q, rfl⟩⟩)
theorem MRep.th {w : World} {x base : Nat} {F : FS} {m : FX} (h : MRep w x base F m) (t : Bool → Int) : MRep w x base F { m with th := t } := by
  obtain ⟨lv, P⟩ := h
  exact ⟨lv, ⟨P.bk, P.ow, P.lo⟩⟩
theorem MRep.drewN {w : World} {x base : Nat} {F : FS} {m : FX} (h : MRep w x base F m) (n : Nat) : MRep (w.drewN n) x base F m := by
  obtain ⟨lv, P⟩ := h
  exact ⟨lv, P.drewN n⟩
/-- One round of the admitting: k is there already, or it is put. -/
theorem admRound {x base : Nat} {F : FS} {m : FX} {o : Bool} {k : Nat} {wr : World} (hk : (k : Int) < m.th o) (h : MRep wr x base F (admS F m o ((k : Int) - m.th o).toNat)) : MRep wr x base F (admS F m o (((k + 1 : Nat) : Int) - m.th o).toNat) := by
  have e : (((k + 1 : Nat) : Int) - m.th o).toNat = ((k : Int) - m.th o).toNat := by omega
  rw [e]; exact h
theorem admPut {x base : Nat} {F : FS} {m : FX} {o : Bool} {k : Nat} {wr : World} (hk : ¬ (k : Int) < m.th o) (h : MRep wr x base F { admS F m o ((k : Int) - m.th o).toNat with L := (admS F m o ((k : Int) - m.th o).toNat).L ++ [SX.new F (idn (!F.sv) o (k : Int))] }) : MRep wr x base F (admS F m o (((k + 1 : Nat) : Int) - m.th o).toNat) := by
  have e : (((k + 1 : Nat) : Int) - m.th o).toNat = ((k : Int) - m.th o).toNat + 1 := by omega
  rw [e, admS_succ]
  have e2 : m.th o + ((((k : Int) - m.th o).toNat : Nat) : Int) = (k : Int) := by omega
  rw [e2]
  exact h.th _

set_option maxRecDepth 20000 in
set_option maxHeartbeats 4000000 in
theorem arrM_bad (x base : Nat) (F : FS) (hF : fsOK F = true) (m : FX) (i : Nat) (id n : Int) (w : World) (h : MRep w x base F m) (hI : FXI F i m) (hi : i ≤ 400) (hbase : base ≤ w.heap.size) (hc : id < 0 ∨ 4611686018427387904 ≤ id ∨ n < 0 ∨ 4611686018427387903 < n) :
    Calls Try.prog 30 #[.pointer (some ⟨x, 0, none⟩), .int .i64 id, .int .i64 n] w fun e w' => e = .returned (.int .i64 (farrive F m id n).2) ∧ MDo w w' x base F (farrive F m id n).1 := by
  rw [show farrive F m id n = (m, 1) from if_pos hc]
  have HM : Hid _ := MDo.same h (Below.refl _ w)
  have PT := specIdParts id w
  have V := fun u => varFx n u
  by_cases a0 : id < 0 ∨ 4611686018427387904 ≤ id
  · rw [show ptC id = 1 from if_pos a0] at PT
    have HP : Hid _ := And.intro PT (And.intro V True.intro)
    clear h hI PT V a0
    generalize ptS id = q0 at *
    generalize ptO id = q1 at *
    generalize ptP id = q2 at *
    go_enter Try.func30, Try.ntmps30
    go_wp2_with (first | (go_at_call 48; refine (HP.out.1).mono ?_; rintro e wp ⟨rfl, hwp⟩; subst hwp) | (go_at_call 27; refine (HP.out.2.1 _).mono ?_; rintro e w1 ⟨rfl, hw1⟩; subst hw1))
    go_ret
    exact ⟨rfl, HM.out⟩
  · rw [show ptC id = 0 from if_neg a0] at PT
    rw [decide_eq_false (show ¬ (0 ≤ n ∧ n ≤ 4611686018427387903) by omega)] at V
    have HP : Hid _ := And.intro PT (And.intro V True.intro)
    clear h hI PT V a0
    generalize ptS id = q0 at *
    generalize ptO id = q1 at *
    generalize ptP id = q2 at *
    go_enter Try.func30, Try.ntmps30
    go_wp2_with (first | (go_at_call 48; refine (HP.out.1).mono ?_; rintro e wp ⟨rfl, hwp⟩; subst hwp) | (go_at_call 27; refine (HP.out.2.1 _).mono ?_; rintro e w1 ⟨rfl, hw1⟩; subst hw1))
    go_ret
    exact ⟨rfl, HM.out⟩
set_option maxRecDepth 20000 in
set_option maxHeartbeats 4000000 in
theorem arrM_9 (x base : Nat) (F : FS) (hF : fsOK F = true) (m : FX) (i : Nat) (id n : Int) (w : World) (h : MRep w x base F m) (hI : FXI F i m) (hi : i ≤ 400) (hbase : base ≤ w.heap.size) (hc : ¬ (id < 0 ∨ 4611686018427387904 ≤ id ∨ n < 0 ∨ 4611686018427387903 < n)) (h9 : ptS id ≠ F.sv ∧ m.tin (ptO id) ≤ id / 4) :
    Calls Try.prog 30 #[.pointer (some ⟨x, 0, none⟩), .int .i64 id, .int .i64 n] w fun e w' => e = .returned (.int .i64 (farrive F m id n).2) ∧ MDo w w' x base F (farrive F m id n).1 := by
  rw [show farrive F m id n = (m, 9) from (if_neg hc).trans (if_pos h9)]
  have HM : Hid _ := fun q => MDo.same h (below_drewN (Below.refl _ w) q)
  have PT := specIdParts id w
  have V := fun u => varFx n u
  have a0 : ¬ (id < 0 ∨ 4611686018427387904 ≤ id) := by omega
  rw [show ptC id = 0 from if_neg a0] at PT
  rw [decide_eq_true (show 0 ≤ n ∧ n ≤ 4611686018427387903 by omega)] at V
  have Wy := fun u => wayM (ptO id) u
  obtain ⟨wz, ewz⟩ : ∃ z : Nat, z = if ptO id then 1 else 0 := ⟨_, rfl⟩
  have ewi : (if ptO id then (1 : Int) else 0) = (wz : Int) := by rw [ewz]; cases ptO id <;> rfl
  rw [ewi] at Wy
  have hz : (wz : Int) < 2 ∧ wz < 2 := by rw [ewz]; cases ptO id <;> simp
  have epl : ptP id = id / 4 := if_neg a0
  rw [epl] at PT
  have hpl : 0 ≤ id / 4 ∧ id / 4 < 1152921504606846976 := by omega
  obtain ⟨lv, P⟩ := h
  have c0 : w.cell? ⟨x, 0, none⟩ = some (.bool F.sv) := P.cell 0
  have k15 : w.cell? ⟨x, 15 + wz, none⟩ = some (.int .i64 (m.tin (ptO id))) := by rw [P.cell, ewz]; cases ptO id <;> rfl
  have hz1 : (ptS id != F.sv) = true := by simpa using h9.1
  have hz2 : (ptS id == F.sv) = false := by simpa using h9.1
  have h9d : decide (m.tin (ptO id) ≤ id / 4) = true := decide_eq_true h9.2
  have HP : Hid _ := And.intro PT (And.intro V (And.intro Wy True.intro))
  clear hI PT V Wy a0 P h9 ewz ewi epl
  generalize m.tin (ptO id) = tn at *
  generalize ptS id = q0 at *
  generalize ptO id = q1 at *
  generalize id / 4 = pl at *
  go_enter Try.func30, Try.ntmps30
  go_wp2_with (first | (go_at_call 48; refine (HP.out.1).mono ?_; rintro e wp ⟨rfl, hwp⟩; subst hwp) | (go_at_call 27; refine (HP.out.2.1 _).mono ?_; rintro e w1 ⟨rfl, hw1⟩; subst hw1))
  go_quiet (first | (go_at_call 44; exact (HP.out.2.2.1 _).mono fun _ _ h => ⟨h.1, _, h.2⟩))
  go_wp2
  go_ret
  exact ⟨rfl, HM.out _⟩
end Go.Proofs.Ythjakbpcpfmbjaa

namespace Go.Proofs.Ythjakbpcpfmbjaa
open Go.RowKit
set_option linter.unusedVariables false
set_option linter.unusedSimpArgs false

/-- The books without one stream. -/
def zedS (L : List SX) (id : Int) : List SX := sxSet L id { sxAt L id with cm := 0 }
theorem zedS_at {L : List SX} {id : Int} {k : Nat} (hk : k < L.length) : ((zedS L id).getD k default).cm = if k = ixf L id then 0 else (L.getD k default).cm := by
  unfold zedS sxSet
  by_cases e : ixf L id = k
  · subst e
    rw [if_pos rfl]
    simp [List.getD, hk]
  · rw [if_neg (Ne.symm e)]
    simp [List.getD, List.getElem?_set_ne e]
theorem zedS_len (L : List SX) (id : Int) : (zedS L id).length = L.length := set_len _ _ _

set_option maxRecDepth 20000 in
set_option maxHeartbeats 4000000 in
theorem arrM_ours (x base : Nat) (F : FS) (hF : fsOK F = true) (m : FX) (i : Nat) (id n : Int) (w : World) (h : MRep w x base F m) (hI : FXI F i m) (hi : i ≤ 400) (hbase : base ≤ w.heap.size) (hc : ¬ (id < 0 ∨ 4611686018427387904 ≤ id ∨ n < 0 ∨ 4611686018427387903 < n)) (h9 : ¬ (ptS id ≠ F.sv ∧ m.tin (ptO id) ≤ id / 4)) (hs : ptS id = F.sv) :
    Calls Try.prog 30 #[.pointer (some ⟨x, 0, none⟩), .int .i64 id, .int .i64 n] w fun e w' => e = .returned (.int .i64 (farrive F m id n).2) ∧ MDo w w' x base F (farrive F m id n).1 := by
  rw [show farrive F m id n = fput F (fwho F m id) id n from (if_neg hc).trans (if_neg h9)]
  have PT := specIdParts id w
  have V := fun u => varFx n u
  have a0 : ¬ (id < 0 ∨ 4611686018427387904 ≤ id) := by omega
  rw [show ptC id = 0 from if_neg a0] at PT
  rw [decide_eq_true (show 0 ≤ n ∧ n ≤ 4611686018427387903 by omega)] at V
  have Wy := fun u => wayM (ptO id) u
  obtain ⟨wz, ewz⟩ : ∃ z : Nat, z = if ptO id then 1 else 0 := ⟨_, rfl⟩
  have ewi : (if ptO id then (1 : Int) else 0) = (wz : Int) := by rw [ewz]; cases ptO id <;> rfl
  rw [ewi] at Wy
  have hz : (wz : Int) < 2 ∧ wz < 2 := by rw [ewz]; cases ptO id <;> simp
  have epl : ptP id = id / 4 := if_neg a0
  rw [epl] at PT
  have hpl : 0 ≤ id / 4 ∧ id / 4 < 1152921504606846976 := by omega
  have HW : Hid _ := h
  obtain ⟨lv, P⟩ := h
  have hI' : FXI F i (fwho F m id) := fwho_inv hF hI hi (by
    by_cases q : ptS id = F.sv
    · exact Or.inl q
    · exact Or.inr (fun q2 => h9 ⟨q, q2⟩))
  have htin := hI.tin (ptO id)
  have hFw : Hid (F.cw ≤ 16384) := by
    have q := hF
    simp only [fsOK, decide_eq_true_eq] at q
    exact q.2.1
  have hth := hI.th (ptO id)
  have c0 : w.cell? ⟨x, 0, none⟩ = some (.bool F.sv) := P.cell 0
  have k15 : w.cell? ⟨x, 15 + wz, none⟩ = some (.int .i64 (m.tin (ptO id))) := by rw [P.cell, ewz]; cases ptO id <;> rfl
  have HP : Hid _ := And.intro PT (And.intro V (And.intro Wy True.intro))
  obtain ⟨m2, em2⟩ : ∃ y, y = fwho F m id := ⟨_, rfl⟩
  rw [← em2] at hI' ⊢
  clear PT V Wy a0 P ewz ewi epl lv
  have hz1 : (ptS id != F.sv) = false := by simpa using hs
  have hz2 : (ptS id == F.sv) = true := by simpa using hs
  have em3 : m2 = m := by rw [em2]; exact if_pos hs
  have HC : Hid _ := (show MRep w x base F m2 ∧ MCh base w w from ⟨by rw [em3]; exact HW.out, ChT.refl _ _ _⟩)
  clear hI em2 em3 h9 hs
  generalize ptS id = q0 at *
  generalize ptO id = q1 at *
  generalize id / 4 = pl at *
  go_enter Try.func30, Try.ntmps30
  go_upto_region 12 with (first | (go_at_call 48; refine (HP.out.1).mono ?_; rintro e w1 ⟨rfl, hw1⟩; obtain rfl : w = w1 := hw1.symm; clear hw1) | (go_at_call 27; refine (HP.out.2.1 _).mono ?_; rintro e w1 ⟨rfl, hw1⟩; obtain rfl : w = w1 := hw1.symm; clear hw1))

  obtain ⟨lv, PC⟩ := HC.out.1
  have GS := getsM x base F m2 lv i id w PC hI' hi
  by_cases c : canG F m2.L id
  case neg =>
    rw [if_neg c] at GS
    have HNC : Hid _ := c
    have HG : Hid _ := And.intro GS True.intro
    clear GS PC c hI'
    go_wp2_with (first | (go_at_call 50; refine (HG.out.1).mono ?_; rintro e w7 ⟨rfl, hw7⟩; obtain rfl : w = w7 := hw7.symm; clear hw7))
    go_ret
    exact ⟨by rw [show fput F m2 id n = (m2, 7) from if_neg HNC.out]; rfl, by rw [show fput F m2 id n = (m2, 7) from if_neg HNC.out]; exact HC.out⟩
  case pos =>
  rw [if_pos c] at GS
  obtain ⟨E, ei⟩ := hI'.at' c.1
  have hcm := E.rd
  have hct := E.cm
  have htd := E.td
  have htc := hI'.tc
  have hrc := hI'.rc
  have hsc := hI'.sum0.2.1
  have hlen := hI'.len_le hi
  have h0 : 0 < m2.L.length := by have := c.1; omega
  obtain ⟨lb, cap, elv, hne, hlb, ⟨cur, hg⟩, hcell⟩ := PC.at' h0
  subst elv
  have c9 : w.cell? ⟨x, 9, none⟩ = some (.slice (some ⟨lb, 0, none⟩) m2.L.length cap) := PC.cell 9
  have c17 : w.cell? ⟨x, 17, none⟩ = some (.int .i64 m2.tc) := PC.cell 17
  have a3 : w.cell? ⟨lb, ixf m2.L id * 7 + 3, none⟩ = some (.int .i64 (sxAt m2.L id).td) := hcell _ c.1 3 (by omega)
  have a4 : w.cell? ⟨lb, ixf m2.L id * 7 + 4, none⟩ = some (.int .i64 (sxAt m2.L id).cm) := hcell _ c.1 4 (by omega)
  have fz := bk_free hg (ixf m2.L id * 7 + 4)
  have c4 : ∀ k, k < m2.L.length → w.cell? ⟨lb, k * 7 + 4, none⟩ = some (.int .i64 (m2.L.getD k default).cm) := fun k hk => hcell k hk 4 (by omega)
  obtain ⟨Z, eZ⟩ : ∃ Z, Z = zedS m2.L id := ⟨_, rfl⟩
  have zpos : ∀ s ∈ Z, 0 ≤ s.cm := by
    rw [eZ]
    intro s hs
    rcases List.mem_or_eq_of_mem_set hs with q | q
    · have := (hI'.each s q).rd; omega
    · rw [q]; exact Int.le_refl 0
  have zlen : Z.length = m2.L.length := by rw [eZ]; exact zedS_len _ _
  have stp : ∀ k, k < m2.L.length → ((Z.take (k + 1)).map SX.cm).sum = ((Z.take k).map SX.cm).sum + if k = ixf m2.L id then 0 else (m2.L.getD k default).cm := fun k hk => by
    rw [sum_take SX.cm Z default k (by omega), eZ, zedS_at hk]
  obtain ⟨sA, esA⟩ : ∃ y, y = sumC m2.L - (sxAt m2.L id).cm := ⟨_, rfl⟩
  have full : ((Z.take m2.L.length).map SX.cm).sum = sA := by
    rw [← zlen, List.take_length, esA, eZ]
    have q := sumC_set m2.L id { sxAt m2.L id with cm := 0 } c.1
    show sumC (sxSet m2.L id _) = _
    rw [q]
    show sumC m2.L - (sxAt m2.L id).cm + 0 = _
    omega
  have hmax : ∀ k, ((Z.take k).map SX.cm).sum ≤ sA := fun k => by
    have q := (sum_pre SX.cm Z k zpos).2
    rw [← full, ← zlen, List.take_length]; exact q
  have hmin : ∀ k, 0 ≤ ((Z.take k).map SX.cm).sum := fun k => (sum_pre SX.cm Z k zpos).1
  have hsA0 : 0 ≤ sA := by have := hmin m2.L.length; omega
  obtain ⟨z, hmx⟩ : ∃ z, max n (sxAt m2.L id).cm = z := ⟨_, rfl⟩
  have e8 : (sxAt m2.L id).td < z ∨ m2.tc - sA < z → fput F m2 id n = (m2, 8) := fun q => (if_pos c).trans (if_pos (by rw [hmx, ← esA]; exact q))
  have e0 : ¬ ((sxAt m2.L id).td < z ∨ m2.tc - sA < z) → fput F m2 id n = ({ m2 with L := sxSet m2.L id { sxAt m2.L id with cm := z } }, 0) := fun q => (if_pos c).trans ((if_neg (by rw [hmx, ← esA]; exact q)).trans (by rw [hmx]))
  have R1 : MDo w (w.setCell ⟨lb, ixf m2.L id * 7 + 4, none⟩ (.int .i64 z)) x base F { m2 with L := sxSet m2.L id { sxAt m2.L id with cm := z } } := ⟨⟨_, PC.setA c.1 rfl 4 (by omega) (.int .i64 z) { sxAt m2.L id with cm := z } rfl⟩, PC.chA HC.out.2 h0 rfl (ixf m2.L id * 7 + 4) (.int .i64 z)⟩
  have hb1 : sA ≤ 4611686018427387904 ∧ m2.tc ≤ 4611686018427387904 ∧ 0 ≤ m2.tc ∧ (sxAt m2.L id).cm ≤ 4611686018427387904 ∧ 0 ≤ (sxAt m2.L id).cm ∧ z ≤ 4611686018427387904 := by
    have q := hI'.rc.2
    have q2 := hFw.out
    omega
  have hjl := c.1
  have HG : Hid _ := And.intro GS (And.intro stp (And.intro c4 (And.intro full (And.intro hmax (And.intro hmin (And.intro R1 (And.intro e8 e0)))))))
  clear GS PC c hI' E ei hcell hg h0 eZ zpos zlen stp c4 full hmax hmin R1 e8 e0 esA hcm hct htd htc hrc hsc
  generalize (sxAt m2.L id).td = td at *
  generalize (sxAt m2.L id).cm = cm at *
  generalize m2.tc = tc at *
  generalize ixf m2.L id = j at *
  obtain ⟨ln, eln⟩ : ∃ ln, ln = m2.L.length := ⟨_, rfl⟩
  have HL : Hid _ := eln
  rw [← eln] at c9 hjl hlen
  clear eln
  go_wp2_with (first | (go_at_call 50; refine (HG.out.1).mono ?_; rintro e w7 ⟨rfl, hw7⟩; obtain rfl : w = w7 := hw7.symm; clear hw7))
  go_loopg [13, 14] ln (fun q s13 s14 wr => ∃ k : Nat, k ≤ ln ∧ q = ln - k ∧ s13 = .int .i64 ((Z.take k).map SX.cm).sum ∧ s14 = .int .i64 (k : Int) ∧ wr = w)
  case atStart => exact ⟨0, by omega, by omega, by simp, rfl, rfl⟩
  case round =>
    obtain ⟨k, hk, hq2, rfl, rfl, rfl⟩ := hrel
    by_cases hlt : k < ln
    · have cc := HG.out.2.2.1 k (by have := HL.out; omega)
      have h8 := HG.out.2.2.2.2.1 (k + 1)
      have h9 := HG.out.2.2.2.2.2.1 k
      have h10 := HG.out.2.2.2.2.2.1 (k + 1)
      have hst := HG.out.2.1 k (by have := HL.out; omega)
      by_cases ekj : k = j
      · rw [if_pos ekj, Int.add_zero] at hst
        have HS : Hid _ := hst
        have hd1 : ((k : Int) == (j : Int)) = true := by simp [ekj]
        have hd2 : ((k : Int) != (j : Int)) = false := by simp [ekj]
        clear hst h8 h10
        generalize ((Z.take k).map SX.cm).sum = sk at *
        go_wp2
        go_roundg (ln - (k + 1))
        case measure => omega
        case rel => exact ⟨k + 1, by omega, rfl, by rw [HS.out], by go_num, rfl⟩
      · rw [if_neg ekj] at hst
        have HS : Hid _ := hst
        have hd1 : ((k : Int) == (j : Int)) = false := by simp; omega
        have hd2 : ((k : Int) != (j : Int)) = true := by simp; omega
        rw [hst] at h8 h10
        clear hst
        generalize ((Z.take k).map SX.cm).sum = sk at *
        generalize (m2.L.getD k default).cm = y at *
        go_wp2
        go_roundg (ln - (k + 1))
        case measure => omega
        case rel => exact ⟨k + 1, by omega, rfl, by rw [HS.out], by go_num, rfl⟩
    · obtain rfl : k = ln := by omega
      have hf := HG.out.2.2.2.1
      rw [← HL.out] at hf
      rw [hf] at *
      by_cases p1 : td < z
      · have hd1 : decide (td < z) = true := decide_eq_true p1
        have HX : Hid _ := HG.out.2.2.2.2.2.2.2.1 (Or.inl p1)
        go_wp2
        go_ret
        exact ⟨by rw [HX.out]; rfl, by rw [HX.out]; exact HC.out⟩
      have hd1 : decide (td < z) = false := decide_eq_false p1
      by_cases p2 : tc - sA < z
      · have hd2 : decide (tc - sA < z) = true := decide_eq_true p2
        have HX : Hid _ := HG.out.2.2.2.2.2.2.2.1 (Or.inr p2)
        go_wp2
        go_ret
        exact ⟨by rw [HX.out]; rfl, by rw [HX.out]; exact HC.out⟩
      have hd2 : decide (tc - sA < z) = false := decide_eq_false p2
      have HX : Hid _ := HG.out.2.2.2.2.2.2.2.2 (fun q => q.elim p1 p2)
      go_wp2
      go_ret
      exact ⟨by rw [HX.out]; rfl, by rw [HX.out]; exact HG.out.2.2.2.2.2.2.1⟩
set_option maxRecDepth 20000 in
set_option maxHeartbeats 4000000 in
theorem arrM_theirs (x base : Nat) (F : FS) (hF : fsOK F = true) (m : FX) (i : Nat) (id n : Int) (w : World) (h : MRep w x base F m) (hI : FXI F i m) (hi : i ≤ 400) (hbase : base ≤ w.heap.size) (hc : ¬ (id < 0 ∨ 4611686018427387904 ≤ id ∨ n < 0 ∨ 4611686018427387903 < n)) (h9 : ¬ (ptS id ≠ F.sv ∧ m.tin (ptO id) ≤ id / 4)) (hs : ¬ ptS id = F.sv) :
    Calls Try.prog 30 #[.pointer (some ⟨x, 0, none⟩), .int .i64 id, .int .i64 n] w fun e w' => e = .returned (.int .i64 (farrive F m id n).2) ∧ MDo w w' x base F (farrive F m id n).1 := by
  rw [show farrive F m id n = fput F (fwho F m id) id n from (if_neg hc).trans (if_neg h9)]
  have PT := specIdParts id w
  have V := fun u => varFx n u
  have a0 : ¬ (id < 0 ∨ 4611686018427387904 ≤ id) := by omega
  rw [show ptC id = 0 from if_neg a0] at PT
  rw [decide_eq_true (show 0 ≤ n ∧ n ≤ 4611686018427387903 by omega)] at V
  have Wy := fun u => wayM (ptO id) u
  obtain ⟨wz, ewz⟩ : ∃ z : Nat, z = if ptO id then 1 else 0 := ⟨_, rfl⟩
  have ewi : (if ptO id then (1 : Int) else 0) = (wz : Int) := by rw [ewz]; cases ptO id <;> rfl
  rw [ewi] at Wy
  have hz : (wz : Int) < 2 ∧ wz < 2 := by rw [ewz]; cases ptO id <;> simp
  have epl : ptP id = id / 4 := if_neg a0
  rw [epl] at PT
  have hpl : 0 ≤ id / 4 ∧ id / 4 < 1152921504606846976 := by omega
  have HW : Hid _ := h
  obtain ⟨lv, P⟩ := h
  have hI' : FXI F i (fwho F m id) := fwho_inv hF hI hi (by
    by_cases q : ptS id = F.sv
    · exact Or.inl q
    · exact Or.inr (fun q2 => h9 ⟨q, q2⟩))
  have htin := hI.tin (ptO id)
  have hFw : Hid (F.cw ≤ 16384) := by
    have q := hF
    simp only [fsOK, decide_eq_true_eq] at q
    exact q.2.1
  have hth := hI.th (ptO id)
  have c0 : w.cell? ⟨x, 0, none⟩ = some (.bool F.sv) := P.cell 0
  have k15 : w.cell? ⟨x, 15 + wz, none⟩ = some (.int .i64 (m.tin (ptO id))) := by rw [P.cell, ewz]; cases ptO id <;> rfl
  have HP : Hid _ := And.intro PT (And.intro V (And.intro Wy True.intro))
  obtain ⟨m2, em2⟩ : ∃ y, y = fwho F m id := ⟨_, rfl⟩
  rw [← em2] at hI' ⊢
  clear PT V Wy a0 P ewz ewi epl lv
  have hz1 : (ptS id != F.sv) = true := by simpa using hs
  have hz2 : (ptS id == F.sv) = false := by simpa using hs
  have h9d : decide (m.tin (ptO id) ≤ id / 4) = false := decide_eq_false (fun q => h9 ⟨hs, q⟩)
  have hlt : id / 4 < m.tin (ptO id) := by
    rcases Int.lt_or_le (id / 4) (m.tin (ptO id)) with q | q
    · exact q
    · exact absurd ⟨hs, q⟩ h9
  have em3 : m2 = admS F m (ptO id) (id / 4 + 1 - m.th (ptO id)).toNat := by rw [em2]; exact if_neg hs
  have hsv : ptS id = !F.sv := by cases q1 : ptS id <;> cases q2 : F.sv <;> rw [q1, q2] at hs <;> first | rfl | exact absurd rfl hs
  have A : ∀ (n : Nat), m.th (ptO id) + n ≤ m.tin (ptO id) → FXI F i (admS F m (ptO id) n) := fun n hn => hI.adm hF hi (ptO id) n hn
  have ID := fun (k : Nat) (hk : (k : Int) < 1152921504606846976) u => (show Calls Try.prog 45 #[.bool (ptS id), .bool (ptO id), .int .i64 (k : Int)] u fun e w' => e = .returned (.int .i64 (idn (!F.sv) (ptO id) k)) ∧ w' = u from by
    have z := specIdOf (ptS id) (ptO id) (k : Int) u
    rw [idV_idn (by omega) hk, hsv] at z
    rw [hsv]; exact z)
  have HE : Hid _ := And.intro em3 (And.intro A ID)
  clear hI em2 em3 h9 hs A hF hsv ID
  generalize ptS id = q0 at *
  generalize ptO id = q1 at *
  generalize id / 4 = pz at *
  obtain ⟨pl, rfl⟩ : ∃ q : Nat, pz = (q : Int) := ⟨pz.toNat, by omega⟩
  generalize m.tin q1 = tn at *
  go_enter Try.func30, Try.ntmps30
  go_upto_if 35 with (first | (go_at_call 48; refine (HP.out.1).mono ?_; rintro e w1 ⟨rfl, hw1⟩; obtain rfl : w = w1 := hw1.symm; clear hw1) | (go_at_call 27; refine (HP.out.2.1 _).mono ?_; rintro e w1 ⟨rfl, hw1⟩; obtain rfl : w = w1 := hw1.symm; clear hw1))
  go_cut [11] from 36 to 62 (fun v11 wx => MRep wx x base F m2 ∧ MCh base w wx)
  case first =>
    go_wp2
    go_quiet (first | (go_at_call 44; exact (HP.out.2.2.1 _).mono fun _ _ h => ⟨h.1, _, h.2⟩))
    go_wp2
    go_loopg [11] (pl + 1) (fun q v wr => ∃ k : Nat, k ≤ pl + 1 ∧ q = pl + 1 - k ∧ v = .int .i64 (k : Int) ∧ MRep wr x base F (admS F m q1 ((k : Int) - m.th q1).toNat) ∧ MCh base w wr)
    case atStart => exact ⟨0, by omega, by omega, rfl, by rw [show (((0 : Nat) : Int) - m.th q1).toNat = 0 by omega, admS_zero]; exact MRep.drewN HW.out _, (ChT.refl _ _ _).drewN _⟩
    case round =>
      obtain ⟨k, hk, hq2, rfl, hm, hch⟩ := hrel
      by_cases hle : k ≤ pl
      · have AI := HE.out.2.1 (((k : Int) - m.th q1).toNat) (by omega)
        have HM : Hid _ := And.intro hm hch
        obtain ⟨lv, PR⟩ := hm
        have hlen := AI.len_le hi
        have ID := fun u => HE.out.2.2 k (by omega) u
        have AT := atM x base F _ lv (idn (!F.sv) q1 (k : Int)) wr PR (by omega)
        have fd := found_their AI hi q1 (k : Int) (by omega) (by omega)
        rw [admS_th] at fd
        have PU := putM x base F _ lv (idn (!F.sv) q1 (k : Int)) wr PR (by omega) (Nat.le_trans hbase hch.size)
        by_cases kt : (k : Int) < m.th q1
        · rw [show atV (admS F m q1 ((k : Int) - m.th q1).toNat).L (idn (!F.sv) q1 (k : Int)) = (ixf (admS F m q1 ((k : Int) - m.th q1).toNat).L (idn (!F.sv) q1 (k : Int)) : Int) from if_pos (fd.2 (by omega))] at AT
          have HI : Hid _ := And.intro ID (And.intro AT PU)
          have HK : Hid _ := kt
          clear AI PR ID AT PU fd hch
          generalize ixf (admS F m q1 ((k : Int) - m.th q1).toNat).L (idn (!F.sv) q1 (k : Int)) = y at *
          generalize idn (!F.sv) q1 (k : Int) = z at *
          go_wp2_with (first | (go_at_call 45; refine (HI.out.1 _).mono ?_; rintro e w7 ⟨rfl, hw7⟩; obtain rfl : wr = w7 := hw7.symm; clear hw7) | (go_at_call 49; refine (HI.out.2.1).mono ?_; rintro e w7 ⟨rfl, hw7⟩; obtain rfl : wr = w7 := hw7.symm; clear hw7))
          go_roundg (pl + 1 - (k + 1))
          case measure => omega
          case rel => exact ⟨k + 1, by omega, rfl, by go_num, admRound HK.out HM.out.1, HM.out.2⟩
        · rw [show atV (admS F m q1 ((k : Int) - m.th q1).toNat).L (idn (!F.sv) q1 (k : Int)) = -1 from if_neg (fun q => by have := fd.1 q; omega)] at AT
          have HI : Hid _ := And.intro ID (And.intro AT PU)
          have HK : Hid _ := kt
          clear AI PR ID AT PU fd hch
          obtain ⟨z, ez⟩ : ∃ z, z = idn (!F.sv) q1 (k : Int) := ⟨_, rfl⟩
          have HZ : Hid _ := ez
          rw [← ez] at HI
          clear ez
          go_wp2_with (first | (go_at_call 45; refine (HI.out.1 _).mono ?_; rintro e w7 ⟨rfl, hw7⟩; obtain rfl : wr = w7 := hw7.symm; clear hw7) | (go_at_call 49; refine (HI.out.2.1).mono ?_; rintro e w7 ⟨rfl, hw7⟩; obtain rfl : wr = w7 := hw7.symm; clear hw7) | (go_at_call 46; refine (HI.out.2.2).mono ?_; rintro e w8 ⟨rfl, hm8, hc8⟩; have H8 : Hid _ := And.intro hm8 hc8; clear hm8 hc8))
          go_roundg (pl + 1 - (k + 1))
          case measure => omega
          case rel => exact ⟨k + 1, by omega, rfl, by go_num, admPut HK.out (by rw [← HZ.out]; exact H8.out.1), HM.out.2.trans H8.out.2⟩
      · obtain rfl : k = pl + 1 := by omega
        have HM : Hid _ := And.intro hm hch
        clear hm hch
        go_wp2
        go_meet
        exact ⟨by rw [HE.out.1, show ((pl : Int) + 1 - m.th q1).toNat = (((pl + 1 : Nat) : Int) - m.th q1).toNat by omega]; exact HM.out.1, HM.out.2⟩
  case rest =>
  have HC : Hid _ := hcut
  clear hcut

  obtain ⟨lv, PC⟩ := HC.out.1
  have GS := getsM x base F m2 lv i id wc PC hI' hi
  by_cases c : canG F m2.L id
  case neg =>
    rw [if_neg c] at GS
    have HNC : Hid _ := c
    have HG : Hid _ := And.intro GS True.intro
    clear GS PC c hI'
    go_wp2_with (first | (go_at_call 50; refine (HG.out.1).mono ?_; rintro e w7 ⟨rfl, hw7⟩; obtain rfl : wc = w7 := hw7.symm; clear hw7))
    go_ret
    exact ⟨by rw [show fput F m2 id n = (m2, 7) from if_neg HNC.out]; rfl, by rw [show fput F m2 id n = (m2, 7) from if_neg HNC.out]; exact HC.out⟩
  case pos =>
  rw [if_pos c] at GS
  obtain ⟨E, ei⟩ := hI'.at' c.1
  have hcm := E.rd
  have hct := E.cm
  have htd := E.td
  have htc := hI'.tc
  have hrc := hI'.rc
  have hsc := hI'.sum0.2.1
  have hlen := hI'.len_le hi
  have h0 : 0 < m2.L.length := by have := c.1; omega
  obtain ⟨lb, cap, elv, hne, hlb, ⟨cur, hg⟩, hcell⟩ := PC.at' h0
  subst elv
  have c9 : wc.cell? ⟨x, 9, none⟩ = some (.slice (some ⟨lb, 0, none⟩) m2.L.length cap) := PC.cell 9
  have c17 : wc.cell? ⟨x, 17, none⟩ = some (.int .i64 m2.tc) := PC.cell 17
  have a3 : wc.cell? ⟨lb, ixf m2.L id * 7 + 3, none⟩ = some (.int .i64 (sxAt m2.L id).td) := hcell _ c.1 3 (by omega)
  have a4 : wc.cell? ⟨lb, ixf m2.L id * 7 + 4, none⟩ = some (.int .i64 (sxAt m2.L id).cm) := hcell _ c.1 4 (by omega)
  have fz := bk_free hg (ixf m2.L id * 7 + 4)
  have c4 : ∀ k, k < m2.L.length → wc.cell? ⟨lb, k * 7 + 4, none⟩ = some (.int .i64 (m2.L.getD k default).cm) := fun k hk => hcell k hk 4 (by omega)
  obtain ⟨Z, eZ⟩ : ∃ Z, Z = zedS m2.L id := ⟨_, rfl⟩
  have zpos : ∀ s ∈ Z, 0 ≤ s.cm := by
    rw [eZ]
    intro s hs
    rcases List.mem_or_eq_of_mem_set hs with q | q
    · have := (hI'.each s q).rd; omega
    · rw [q]; exact Int.le_refl 0
  have zlen : Z.length = m2.L.length := by rw [eZ]; exact zedS_len _ _
  have stp : ∀ k, k < m2.L.length → ((Z.take (k + 1)).map SX.cm).sum = ((Z.take k).map SX.cm).sum + if k = ixf m2.L id then 0 else (m2.L.getD k default).cm := fun k hk => by
    rw [sum_take SX.cm Z default k (by omega), eZ, zedS_at hk]
  obtain ⟨sA, esA⟩ : ∃ y, y = sumC m2.L - (sxAt m2.L id).cm := ⟨_, rfl⟩
  have full : ((Z.take m2.L.length).map SX.cm).sum = sA := by
    rw [← zlen, List.take_length, esA, eZ]
    have q := sumC_set m2.L id { sxAt m2.L id with cm := 0 } c.1
    show sumC (sxSet m2.L id _) = _
    rw [q]
    show sumC m2.L - (sxAt m2.L id).cm + 0 = _
    omega
  have hmax : ∀ k, ((Z.take k).map SX.cm).sum ≤ sA := fun k => by
    have q := (sum_pre SX.cm Z k zpos).2
    rw [← full, ← zlen, List.take_length]; exact q
  have hmin : ∀ k, 0 ≤ ((Z.take k).map SX.cm).sum := fun k => (sum_pre SX.cm Z k zpos).1
  have hsA0 : 0 ≤ sA := by have := hmin m2.L.length; omega
  obtain ⟨z, hmx⟩ : ∃ z, max n (sxAt m2.L id).cm = z := ⟨_, rfl⟩
  have e8 : (sxAt m2.L id).td < z ∨ m2.tc - sA < z → fput F m2 id n = (m2, 8) := fun q => (if_pos c).trans (if_pos (by rw [hmx, ← esA]; exact q))
  have e0 : ¬ ((sxAt m2.L id).td < z ∨ m2.tc - sA < z) → fput F m2 id n = ({ m2 with L := sxSet m2.L id { sxAt m2.L id with cm := z } }, 0) := fun q => (if_pos c).trans ((if_neg (by rw [hmx, ← esA]; exact q)).trans (by rw [hmx]))
  have R1 : MDo w (wc.setCell ⟨lb, ixf m2.L id * 7 + 4, none⟩ (.int .i64 z)) x base F { m2 with L := sxSet m2.L id { sxAt m2.L id with cm := z } } := ⟨⟨_, PC.setA c.1 rfl 4 (by omega) (.int .i64 z) { sxAt m2.L id with cm := z } rfl⟩, PC.chA HC.out.2 h0 rfl (ixf m2.L id * 7 + 4) (.int .i64 z)⟩
  have hb1 : sA ≤ 4611686018427387904 ∧ m2.tc ≤ 4611686018427387904 ∧ 0 ≤ m2.tc ∧ (sxAt m2.L id).cm ≤ 4611686018427387904 ∧ 0 ≤ (sxAt m2.L id).cm ∧ z ≤ 4611686018427387904 := by
    have q := hI'.rc.2
    have q2 := hFw.out
    omega
  have hjl := c.1
  have HG : Hid _ := And.intro GS (And.intro stp (And.intro c4 (And.intro full (And.intro hmax (And.intro hmin (And.intro R1 (And.intro e8 e0)))))))
  clear GS PC c hI' E ei hcell hg h0 eZ zpos zlen stp c4 full hmax hmin R1 e8 e0 esA hcm hct htd htc hrc hsc
  generalize (sxAt m2.L id).td = td at *
  generalize (sxAt m2.L id).cm = cm at *
  generalize m2.tc = tc at *
  generalize ixf m2.L id = j at *
  obtain ⟨ln, eln⟩ : ∃ ln, ln = m2.L.length := ⟨_, rfl⟩
  have HL : Hid _ := eln
  rw [← eln] at c9 hjl hlen
  clear eln
  go_wp2_with (first | (go_at_call 50; refine (HG.out.1).mono ?_; rintro e w7 ⟨rfl, hw7⟩; obtain rfl : wc = w7 := hw7.symm; clear hw7))
  go_loopg [13, 14] ln (fun q s13 s14 wr => ∃ k : Nat, k ≤ ln ∧ q = ln - k ∧ s13 = .int .i64 ((Z.take k).map SX.cm).sum ∧ s14 = .int .i64 (k : Int) ∧ wr = wc)
  case atStart => exact ⟨0, by omega, by omega, by simp, rfl, rfl⟩
  case round =>
    obtain ⟨k, hk, hq2, rfl, rfl, rfl⟩ := hrel
    by_cases hlt : k < ln
    · have cc := HG.out.2.2.1 k (by have := HL.out; omega)
      have h8 := HG.out.2.2.2.2.1 (k + 1)
      have h9 := HG.out.2.2.2.2.2.1 k
      have h10 := HG.out.2.2.2.2.2.1 (k + 1)
      have hst := HG.out.2.1 k (by have := HL.out; omega)
      by_cases ekj : k = j
      · rw [if_pos ekj, Int.add_zero] at hst
        have HS : Hid _ := hst
        have hd1 : ((k : Int) == (j : Int)) = true := by simp [ekj]
        have hd2 : ((k : Int) != (j : Int)) = false := by simp [ekj]
        clear hst h8 h10
        generalize ((Z.take k).map SX.cm).sum = sk at *
        go_wp2
        go_roundg (ln - (k + 1))
        case measure => omega
        case rel => exact ⟨k + 1, by omega, rfl, by rw [HS.out], by go_num, rfl⟩
      · rw [if_neg ekj] at hst
        have HS : Hid _ := hst
        have hd1 : ((k : Int) == (j : Int)) = false := by simp; omega
        have hd2 : ((k : Int) != (j : Int)) = true := by simp; omega
        rw [hst] at h8 h10
        clear hst
        generalize ((Z.take k).map SX.cm).sum = sk at *
        generalize (m2.L.getD k default).cm = y at *
        go_wp2
        go_roundg (ln - (k + 1))
        case measure => omega
        case rel => exact ⟨k + 1, by omega, rfl, by rw [HS.out], by go_num, rfl⟩
    · obtain rfl : k = ln := by omega
      have hf := HG.out.2.2.2.1
      rw [← HL.out] at hf
      rw [hf] at *
      by_cases p1 : td < z
      · have hd1 : decide (td < z) = true := decide_eq_true p1
        have HX : Hid _ := HG.out.2.2.2.2.2.2.2.1 (Or.inl p1)
        go_wp2
        go_ret
        exact ⟨by rw [HX.out]; rfl, by rw [HX.out]; exact HC.out⟩
      have hd1 : decide (td < z) = false := decide_eq_false p1
      by_cases p2 : tc - sA < z
      · have hd2 : decide (tc - sA < z) = true := decide_eq_true p2
        have HX : Hid _ := HG.out.2.2.2.2.2.2.2.1 (Or.inr p2)
        go_wp2
        go_ret
        exact ⟨by rw [HX.out]; rfl, by rw [HX.out]; exact HC.out⟩
      have hd2 : decide (tc - sA < z) = false := decide_eq_false p2
      have HX : Hid _ := HG.out.2.2.2.2.2.2.2.2 (fun q => q.elim p1 p2)
      go_wp2
      go_ret
      exact ⟨by rw [HX.out]; rfl, by rw [HX.out]; exact HG.out.2.2.2.2.2.2.1⟩
end Go.Proofs.Ythjakbpcpfmbjaa

namespace Go.Proofs.Ythjakbpcpfmbjaa
open Go.RowKit
set_option linter.unusedVariables false
set_option linter.unusedSimpArgs false

theorem arrM (x base : Nat) (F : FS) (hF : fsOK F = true) (m : FX) (i : Nat) (id n : Int) (w : World) (h : MRep w x base F m) (hI : FXI F i m) (hi : i ≤ 400) (hbase : base ≤ w.heap.size) :
    Calls Try.prog 30 #[.pointer (some ⟨x, 0, none⟩), .int .i64 id, .int .i64 n] w fun e w' => e = .returned (.int .i64 (farrive F m id n).2) ∧ MDo w w' x base F (farrive F m id n).1 := by
  by_cases hc : id < 0 ∨ 4611686018427387904 ≤ id ∨ n < 0 ∨ 4611686018427387903 < n
  · exact arrM_bad x base F hF m i id n w h hI hi hbase hc
  by_cases h9 : ptS id ≠ F.sv ∧ m.tin (ptO id) ≤ id / 4
  · exact arrM_9 x base F hF m i id n w h hI hi hbase hc h9
  by_cases hs : ptS id = F.sv
  · exact arrM_ours x base F hF m i id n w h hI hi hbase hc h9 hs
  · exact arrM_theirs x base F hF m i id n w h hI hi hbase hc h9 hs
/-- The world of an operation: the box, the answer. -/
def doW (w : World) (k id n : Int) (o : Bool) : World := (w.alloc (bxO k id n o)).alloc obZ
theorem doW_below (w : World) (k id n : Int) (o : Bool) : Below w.heap.size w (doW w k id n o) := ((Below.refl _ _).alloc (Nat.le_refl _) _).alloc (by simp) _
theorem doW_obs (w : World) (k id n : Int) (o : Bool) : (doW w k id n o).heap[w.heap.size + 1]? = some (.cells #[.int .i64 0, .int .i64 0, .int .i64 0, .slice none 0 0] 35 (0, 0)) := by
  have z := heap_alloc_new (w.alloc (bxO k id n o)) obZ
  rw [show (w.alloc (bxO k id n o)).heap.size = w.heap.size + 1 by simp] at z
  exact z
theorem doOM {x base : Nat} {F : FS} {m' : FX} {w w' : World} {k id n : Int} {o : Bool} {fv : Value} {fr : List (Int × Int × Int)} (hf : GOwns 38 8 w' (doW w k id n o).heap.size fv (fr.map frC)) (hd : MDo (doW w k id n o) w' x base F m') : OM (w.heap.size + 1) x base w w' F m' fv fr #[.int .i64 0, .int .i64 0, .int .i64 0, .slice none 0 0] := by
  refine ⟨hd.1, (ChT.of_below (doW_below w k id n o)).trans hd.2, hd.2.bk (doW_obs w k id n o) (by decide), ?_⟩
  obtain ⟨zs, ⟨hl, h2⟩, hz⟩ := hf
  refine ⟨zs, ⟨hl, ?_⟩, hz⟩
  rcases h2 with h2 | ⟨g', cap, cur, rfl, hg, hh, r⟩
  · exact Or.inl h2
  · exact Or.inr ⟨g', cap, cur, rfl, Nat.le_trans (doW_below w k id n o).size hg, hh, r⟩

set_option maxRecDepth 20000 in
set_option maxHeartbeats 4000000 in
theorem do1M (x base : Nat) (F : FS) (hF : fsOK F = true) (m : FX) (i : Nat) (id n : Int) (o : Bool) (w : World) (h : MRep w x base F m) (hI : FXI F i m) (hi : i ≤ 400) (hbase : base ≤ w.heap.size) :
    Calls Try.prog 19 #[.pointer (some ⟨x, 0, none⟩), .agg #[.int .i64 (1), .int .i64 id, .int .i64 n, .bool o]] w fun e w' => ∃ fv, e = .returned (.agg #[.int .i64 (fstep F m (1) id n o).2.code, .int .i64 (fstep F m (1) id n o).2.id, .int .i64 (fstep F m (1) id n o).2.cnt, fv]) ∧ GOwns 38 8 w' w.heap.size fv ((fstep F m (1) id n o).2.fr.map frC) ∧ MDo w w' x base F (fstep F m (1) id n o).1 := by
  obtain ⟨W, eW⟩ : ∃ W, W = doW w (1) id n o := ⟨_, rfl⟩
  have h0 : MRep W x base F m := by
    obtain ⟨lv, P⟩ := h
    exact ⟨lv, by rw [eW]; exact P.below (doW_below w _ id n o)⟩
  have hb0 : base ≤ W.heap.size := by rw [eW]; exact Nat.le_trans hbase (doW_below w _ id n o).size

  have C := openM x base F m i o W h0 hI hi hb0
  rw [show fstep F m 1 id n o = fopen F m o from rfl]
  obtain ⟨R, eR⟩ : ∃ R, R = fopen F m o := ⟨_, rfl⟩
  rw [← eR] at C ⊢
  rw [eW] at C
  have HC : Hid _ := And.intro C True.intro
  unfold doW bxO obZ at HC
  clear C eR eW h0 hb0 h hI W
  go_enter Try.func19, Try.ntmps19
  go_wp2_with (first | (go_at_call 28; refine HC.out.1.mono ?_; rintro e w1 ⟨fv, rfl, hf, hd⟩; obtain ⟨fa, fn, fc, ef, efn⟩ := slice_form hf; have H1 : Hid _ := doOM (k := 1) (id := id) (n := n) (o := o) hf hd; clear hf hd efn; subst ef) | (refine wpList_store_row rfl 35 _ _ rfl (w.heap.size + 1) #[.int .i64 R.2.code, .int .i64 R.2.id, .int .i64 R.2.cnt, .slice fa fn fc] rfl rfl 35 _ (H1.out).h1 infoFObsM rfl (by simp [Value.oneCell']) ?_))
  have T := (H1.out).row (by omega) #[.int .i64 R.2.code, .int .i64 R.2.id, .int .i64 R.2.cnt, .slice fa fn fc]
  try simp only [Exit.inBlock, Exit.then]
  refine bodyPost_ret (v := .agg #[.int .i64 R.2.code, .int .i64 R.2.id, .int .i64 R.2.cnt, .slice fa fn fc]) ?_ rfl ?_
  · exact results_cell_row (t := 35) rfl _ _ (w.heap.size + 1) _ (fr := (0, 0)) _ rfl T.h1 Try.underlying35 rfl infoFObsM
  · exact ⟨_, rfl, T.f, T.P, T.C⟩

set_option maxRecDepth 20000 in
set_option maxHeartbeats 4000000 in
theorem do2M (x base : Nat) (F : FS) (hF : fsOK F = true) (m : FX) (i : Nat) (id n : Int) (o : Bool) (w : World) (h : MRep w x base F m) (hI : FXI F i m) (hi : i ≤ 400) (hbase : base ≤ w.heap.size) :
    Calls Try.prog 19 #[.pointer (some ⟨x, 0, none⟩), .agg #[.int .i64 (2), .int .i64 id, .int .i64 n, .bool o]] w fun e w' => ∃ fv, e = .returned (.agg #[.int .i64 (fstep F m (2) id n o).2.code, .int .i64 (fstep F m (2) id n o).2.id, .int .i64 (fstep F m (2) id n o).2.cnt, fv]) ∧ GOwns 38 8 w' w.heap.size fv ((fstep F m (2) id n o).2.fr.map frC) ∧ MDo w w' x base F (fstep F m (2) id n o).1 := by
  obtain ⟨W, eW⟩ : ∃ W, W = doW w (2) id n o := ⟨_, rfl⟩
  have h0 : MRep W x base F m := by
    obtain ⟨lv, P⟩ := h
    exact ⟨lv, by rw [eW]; exact P.below (doW_below w _ id n o)⟩
  have hb0 : base ≤ W.heap.size := by rw [eW]; exact Nat.le_trans hbase (doW_below w _ id n o).size

  have C := sendM x base F m i id n W h0 hI hi hb0
  rw [show fstep F m 2 id n o = fsend F m id n from rfl]
  obtain ⟨R, eR⟩ : ∃ R, R = fsend F m id n := ⟨_, rfl⟩
  rw [← eR] at C ⊢
  rw [eW] at C
  have HC : Hid _ := And.intro C True.intro
  unfold doW bxO obZ at HC
  clear C eR eW h0 hb0 h hI W
  go_enter Try.func19, Try.ntmps19
  go_wp2_with (first | (go_at_call 29; refine HC.out.1.mono ?_; rintro e w1 ⟨fv, rfl, hf, hd⟩; obtain ⟨fa, fn, fc, ef, efn⟩ := slice_form hf; have H1 : Hid _ := doOM (k := 2) (id := id) (n := n) (o := o) hf hd; clear hf hd efn; subst ef) | (refine wpList_store_row rfl 35 _ _ rfl (w.heap.size + 1) #[.int .i64 R.2.code, .int .i64 R.2.id, .int .i64 R.2.cnt, .slice fa fn fc] rfl rfl 35 _ (H1.out).h1 infoFObsM rfl (by simp [Value.oneCell']) ?_))
  have T := (H1.out).row (by omega) #[.int .i64 R.2.code, .int .i64 R.2.id, .int .i64 R.2.cnt, .slice fa fn fc]
  try simp only [Exit.inBlock, Exit.then]
  refine bodyPost_ret (v := .agg #[.int .i64 R.2.code, .int .i64 R.2.id, .int .i64 R.2.cnt, .slice fa fn fc]) ?_ rfl ?_
  · exact results_cell_row (t := 35) rfl _ _ (w.heap.size + 1) _ (fr := (0, 0)) _ rfl T.h1 Try.underlying35 rfl infoFObsM
  · exact ⟨_, rfl, T.f, T.P, T.C⟩

set_option maxRecDepth 20000 in
set_option maxHeartbeats 4000000 in
theorem do3M (x base : Nat) (F : FS) (hF : fsOK F = true) (m : FX) (i : Nat) (id n : Int) (o : Bool) (w : World) (h : MRep w x base F m) (hI : FXI F i m) (hi : i ≤ 400) (hbase : base ≤ w.heap.size) :
    Calls Try.prog 19 #[.pointer (some ⟨x, 0, none⟩), .agg #[.int .i64 (3), .int .i64 id, .int .i64 n, .bool o]] w fun e w' => ∃ fv, e = .returned (.agg #[.int .i64 (fstep F m (3) id n o).2.code, .int .i64 (fstep F m (3) id n o).2.id, .int .i64 (fstep F m (3) id n o).2.cnt, fv]) ∧ GOwns 38 8 w' w.heap.size fv ((fstep F m (3) id n o).2.fr.map frC) ∧ MDo w w' x base F (fstep F m (3) id n o).1 := by
  obtain ⟨W, eW⟩ : ∃ W, W = doW w (3) id n o := ⟨_, rfl⟩
  have h0 : MRep W x base F m := by
    obtain ⟨lv, P⟩ := h
    exact ⟨lv, by rw [eW]; exact P.below (doW_below w _ id n o)⟩
  have hb0 : base ≤ W.heap.size := by rw [eW]; exact Nat.le_trans hbase (doW_below w _ id n o).size

  have C := arrM x base F hF m i id n W h0 hI hi hb0
  rw [show fstep F m 3 id n o = cO (farrive F m id n) from rfl]
  obtain ⟨R, eR⟩ : ∃ R, R = farrive F m id n := ⟨_, rfl⟩
  rw [← eR] at C ⊢
  rw [eW] at C
  have HC : Hid _ := And.intro C True.intro
  unfold doW bxO obZ at HC
  clear C eR eW h0 hb0 h hI W
  go_enter Try.func19, Try.ntmps19
  go_wp2_with (first | (go_at_call 30; refine HC.out.1.mono ?_; rintro e w1 ⟨rfl, hd⟩; have H1 : Hid _ := doOM (k := 3) (id := id) (n := n) (o := o) (framesM _ _) hd; clear hd) | (refine wpList_store_row rfl 35 _ _ rfl (w.heap.size + 1) #[.int .i64 R.2, .int .i64 0, .int .i64 0, .slice none 0 0] rfl rfl 35 _ (H1.out).h1 infoFObsM rfl (by simp [Value.oneCell']) ?_))
  have T := (H1.out).row (by omega) #[.int .i64 R.2, .int .i64 0, .int .i64 0, .slice none 0 0]
  try simp only [Exit.inBlock, Exit.then]
  refine bodyPost_ret (v := .agg #[.int .i64 R.2, .int .i64 0, .int .i64 0, .slice none 0 0]) ?_ rfl ?_
  · exact results_cell_row (t := 35) rfl _ _ (w.heap.size + 1) _ (fr := (0, 0)) _ rfl T.h1 Try.underlying35 rfl infoFObsM
  · exact ⟨_, rfl, T.f, T.P, T.C⟩

set_option maxRecDepth 20000 in
set_option maxHeartbeats 4000000 in
theorem do4M (x base : Nat) (F : FS) (hF : fsOK F = true) (m : FX) (i : Nat) (id n : Int) (o : Bool) (w : World) (h : MRep w x base F m) (hI : FXI F i m) (hi : i ≤ 400) (hbase : base ≤ w.heap.size) :
    Calls Try.prog 19 #[.pointer (some ⟨x, 0, none⟩), .agg #[.int .i64 (4), .int .i64 id, .int .i64 n, .bool o]] w fun e w' => ∃ fv, e = .returned (.agg #[.int .i64 (fstep F m (4) id n o).2.code, .int .i64 (fstep F m (4) id n o).2.id, .int .i64 (fstep F m (4) id n o).2.cnt, fv]) ∧ GOwns 38 8 w' w.heap.size fv ((fstep F m (4) id n o).2.fr.map frC) ∧ MDo w w' x base F (fstep F m (4) id n o).1 := by
  obtain ⟨W, eW⟩ : ∃ W, W = doW w (4) id n o := ⟨_, rfl⟩
  have h0 : MRep W x base F m := by
    obtain ⟨lv, P⟩ := h
    exact ⟨lv, by rw [eW]; exact P.below (doW_below w _ id n o)⟩
  have hb0 : base ≤ W.heap.size := by rw [eW]; exact Nat.le_trans hbase (doW_below w _ id n o).size

  have C := readM x base F hF m i id n W h0 hI hi hb0
  rw [show fstep F m 4 id n o = fread F m id n from rfl]
  obtain ⟨R, eR⟩ : ∃ R, R = fread F m id n := ⟨_, rfl⟩
  rw [← eR] at C ⊢
  rw [eW] at C
  have HC : Hid _ := And.intro C True.intro
  unfold doW bxO obZ at HC
  clear C eR eW h0 hb0 h hI W
  go_enter Try.func19, Try.ntmps19
  go_wp2_with (first | (go_at_call 31; refine HC.out.1.mono ?_; rintro e w1 ⟨fv, rfl, hf, hd⟩; obtain ⟨fa, fn, fc, ef, efn⟩ := slice_form hf; have H1 : Hid _ := doOM (k := 4) (id := id) (n := n) (o := o) hf hd; clear hf hd efn; subst ef) | (refine wpList_store_row rfl 35 _ _ rfl (w.heap.size + 1) #[.int .i64 R.2.code, .int .i64 R.2.id, .int .i64 R.2.cnt, .slice fa fn fc] rfl rfl 35 _ (H1.out).h1 infoFObsM rfl (by simp [Value.oneCell']) ?_))
  have T := (H1.out).row (by omega) #[.int .i64 R.2.code, .int .i64 R.2.id, .int .i64 R.2.cnt, .slice fa fn fc]
  try simp only [Exit.inBlock, Exit.then]
  refine bodyPost_ret (v := .agg #[.int .i64 R.2.code, .int .i64 R.2.id, .int .i64 R.2.cnt, .slice fa fn fc]) ?_ rfl ?_
  · exact results_cell_row (t := 35) rfl _ _ (w.heap.size + 1) _ (fr := (0, 0)) _ rfl T.h1 Try.underlying35 rfl infoFObsM
  · exact ⟨_, rfl, T.f, T.P, T.C⟩

set_option maxRecDepth 20000 in
set_option maxHeartbeats 4000000 in
theorem do5M (x base : Nat) (F : FS) (hF : fsOK F = true) (m : FX) (i : Nat) (id n : Int) (o : Bool) (w : World) (h : MRep w x base F m) (hI : FXI F i m) (hi : i ≤ 400) (hbase : base ≤ w.heap.size) :
    Calls Try.prog 19 #[.pointer (some ⟨x, 0, none⟩), .agg #[.int .i64 (5), .int .i64 id, .int .i64 n, .bool o]] w fun e w' => ∃ fv, e = .returned (.agg #[.int .i64 (fstep F m (5) id n o).2.code, .int .i64 (fstep F m (5) id n o).2.id, .int .i64 (fstep F m (5) id n o).2.cnt, fv]) ∧ GOwns 38 8 w' w.heap.size fv ((fstep F m (5) id n o).2.fr.map frC) ∧ MDo w w' x base F (fstep F m (5) id n o).1 := by
  obtain ⟨W, eW⟩ : ∃ W, W = doW w (5) id n o := ⟨_, rfl⟩
  have h0 : MRep W x base F m := by
    obtain ⟨lv, P⟩ := h
    exact ⟨lv, by rw [eW]; exact P.below (doW_below w _ id n o)⟩
  have hb0 : base ≤ W.heap.size := by rw [eW]; exact Nat.le_trans hbase (doW_below w _ id n o).size

  have C := overM x base F m i id W h0 hI hi hb0
  rw [show fstep F m 5 id n o = fend F m id from rfl]
  obtain ⟨R, eR⟩ : ∃ R, R = fend F m id := ⟨_, rfl⟩
  rw [← eR] at C ⊢
  rw [eW] at C
  have HC : Hid _ := And.intro C True.intro
  unfold doW bxO obZ at HC
  clear C eR eW h0 hb0 h hI W
  go_enter Try.func19, Try.ntmps19
  go_wp2_with (first | (go_at_call 32; refine HC.out.1.mono ?_; rintro e w1 ⟨fv, rfl, hf, hd⟩; obtain ⟨fa, fn, fc, ef, efn⟩ := slice_form hf; have H1 : Hid _ := doOM (k := 5) (id := id) (n := n) (o := o) hf hd; clear hf hd efn; subst ef) | (refine wpList_store_row rfl 35 _ _ rfl (w.heap.size + 1) #[.int .i64 R.2.code, .int .i64 R.2.id, .int .i64 R.2.cnt, .slice fa fn fc] rfl rfl 35 _ (H1.out).h1 infoFObsM rfl (by simp [Value.oneCell']) ?_))
  have T := (H1.out).row (by omega) #[.int .i64 R.2.code, .int .i64 R.2.id, .int .i64 R.2.cnt, .slice fa fn fc]
  try simp only [Exit.inBlock, Exit.then]
  refine bodyPost_ret (v := .agg #[.int .i64 R.2.code, .int .i64 R.2.id, .int .i64 R.2.cnt, .slice fa fn fc]) ?_ rfl ?_
  · exact results_cell_row (t := 35) rfl _ _ (w.heap.size + 1) _ (fr := (0, 0)) _ rfl T.h1 Try.underlying35 rfl infoFObsM
  · exact ⟨_, rfl, T.f, T.P, T.C⟩

set_option maxRecDepth 20000 in
set_option maxHeartbeats 4000000 in
theorem do6M (x base : Nat) (F : FS) (hF : fsOK F = true) (m : FX) (i : Nat) (id n : Int) (o : Bool) (w : World) (h : MRep w x base F m) (hI : FXI F i m) (hi : i ≤ 400) (hbase : base ≤ w.heap.size) :
    Calls Try.prog 19 #[.pointer (some ⟨x, 0, none⟩), .agg #[.int .i64 (6), .int .i64 id, .int .i64 n, .bool o]] w fun e w' => ∃ fv, e = .returned (.agg #[.int .i64 (fstep F m (6) id n o).2.code, .int .i64 (fstep F m (6) id n o).2.id, .int .i64 (fstep F m (6) id n o).2.cnt, fv]) ∧ GOwns 38 8 w' w.heap.size fv ((fstep F m (6) id n o).2.fr.map frC) ∧ MDo w w' x base F (fstep F m (6) id n o).1 := by
  obtain ⟨W, eW⟩ : ∃ W, W = doW w (6) id n o := ⟨_, rfl⟩
  have h0 : MRep W x base F m := by
    obtain ⟨lv, P⟩ := h
    exact ⟨lv, by rw [eW]; exact P.below (doW_below w _ id n o)⟩
  have hb0 : base ≤ W.heap.size := by rw [eW]; exact Nat.le_trans hbase (doW_below w _ id n o).size

  have C := told6M x base F m i id n o W h0 hI hi
  rw [show fstep F m 6 id n o = cO (ftold F m 6 id n o) from rfl]
  obtain ⟨R, eR⟩ : ∃ R, R = ftold F m 6 id n o := ⟨_, rfl⟩
  rw [← eR] at C ⊢
  rw [eW] at C
  have HC : Hid _ := And.intro C True.intro
  unfold doW bxO obZ at HC
  clear C eR eW h0 hb0 h hI W
  go_enter Try.func19, Try.ntmps19
  go_wp2_with (first | (go_at_call 33; refine HC.out.1.mono ?_; rintro e w1 ⟨rfl, hd⟩; have H1 : Hid _ := doOM (k := 6) (id := id) (n := n) (o := o) (framesM _ _) hd; clear hd) | (refine wpList_store_row rfl 35 _ _ rfl (w.heap.size + 1) #[.int .i64 R.2, .int .i64 0, .int .i64 0, .slice none 0 0] rfl rfl 35 _ (H1.out).h1 infoFObsM rfl (by simp [Value.oneCell']) ?_))
  have T := (H1.out).row (by omega) #[.int .i64 R.2, .int .i64 0, .int .i64 0, .slice none 0 0]
  try simp only [Exit.inBlock, Exit.then]
  refine bodyPost_ret (v := .agg #[.int .i64 R.2, .int .i64 0, .int .i64 0, .slice none 0 0]) ?_ rfl ?_
  · exact results_cell_row (t := 35) rfl _ _ (w.heap.size + 1) _ (fr := (0, 0)) _ rfl T.h1 Try.underlying35 rfl infoFObsM
  · exact ⟨_, rfl, T.f, T.P, T.C⟩

set_option maxRecDepth 20000 in
set_option maxHeartbeats 4000000 in
theorem do7M (x base : Nat) (F : FS) (hF : fsOK F = true) (m : FX) (i : Nat) (id n : Int) (o : Bool) (w : World) (h : MRep w x base F m) (hI : FXI F i m) (hi : i ≤ 400) (hbase : base ≤ w.heap.size) :
    Calls Try.prog 19 #[.pointer (some ⟨x, 0, none⟩), .agg #[.int .i64 (7), .int .i64 id, .int .i64 n, .bool o]] w fun e w' => ∃ fv, e = .returned (.agg #[.int .i64 (fstep F m (7) id n o).2.code, .int .i64 (fstep F m (7) id n o).2.id, .int .i64 (fstep F m (7) id n o).2.cnt, fv]) ∧ GOwns 38 8 w' w.heap.size fv ((fstep F m (7) id n o).2.fr.map frC) ∧ MDo w w' x base F (fstep F m (7) id n o).1 := by
  obtain ⟨W, eW⟩ : ∃ W, W = doW w (7) id n o := ⟨_, rfl⟩
  have h0 : MRep W x base F m := by
    obtain ⟨lv, P⟩ := h
    exact ⟨lv, by rw [eW]; exact P.below (doW_below w _ id n o)⟩
  have hb0 : base ≤ W.heap.size := by rw [eW]; exact Nat.le_trans hbase (doW_below w _ id n o).size

  have C := told7M x base F m i id n o W h0 hI hi
  rw [show fstep F m 7 id n o = cO (ftold F m 7 id n o) from rfl]
  obtain ⟨R, eR⟩ : ∃ R, R = ftold F m 7 id n o := ⟨_, rfl⟩
  rw [← eR] at C ⊢
  rw [eW] at C
  have HC : Hid _ := And.intro C True.intro
  unfold doW bxO obZ at HC
  clear C eR eW h0 hb0 h hI W
  go_enter Try.func19, Try.ntmps19
  go_wp2_with (first | (go_at_call 33; refine HC.out.1.mono ?_; rintro e w1 ⟨rfl, hd⟩; have H1 : Hid _ := doOM (k := 7) (id := id) (n := n) (o := o) (framesM _ _) hd; clear hd) | (refine wpList_store_row rfl 35 _ _ rfl (w.heap.size + 1) #[.int .i64 R.2, .int .i64 0, .int .i64 0, .slice none 0 0] rfl rfl 35 _ (H1.out).h1 infoFObsM rfl (by simp [Value.oneCell']) ?_))
  have T := (H1.out).row (by omega) #[.int .i64 R.2, .int .i64 0, .int .i64 0, .slice none 0 0]
  try simp only [Exit.inBlock, Exit.then]
  refine bodyPost_ret (v := .agg #[.int .i64 R.2, .int .i64 0, .int .i64 0, .slice none 0 0]) ?_ rfl ?_
  · exact results_cell_row (t := 35) rfl _ _ (w.heap.size + 1) _ (fr := (0, 0)) _ rfl T.h1 Try.underlying35 rfl infoFObsM
  · exact ⟨_, rfl, T.f, T.P, T.C⟩

set_option maxRecDepth 20000 in
set_option maxHeartbeats 4000000 in
theorem do8M (x base : Nat) (F : FS) (hF : fsOK F = true) (m : FX) (i : Nat) (id n : Int) (o : Bool) (w : World) (h : MRep w x base F m) (hI : FXI F i m) (hi : i ≤ 400) (hbase : base ≤ w.heap.size) :
    Calls Try.prog 19 #[.pointer (some ⟨x, 0, none⟩), .agg #[.int .i64 (8), .int .i64 id, .int .i64 n, .bool o]] w fun e w' => ∃ fv, e = .returned (.agg #[.int .i64 (fstep F m (8) id n o).2.code, .int .i64 (fstep F m (8) id n o).2.id, .int .i64 (fstep F m (8) id n o).2.cnt, fv]) ∧ GOwns 38 8 w' w.heap.size fv ((fstep F m (8) id n o).2.fr.map frC) ∧ MDo w w' x base F (fstep F m (8) id n o).1 := by
  obtain ⟨W, eW⟩ : ∃ W, W = doW w (8) id n o := ⟨_, rfl⟩
  have h0 : MRep W x base F m := by
    obtain ⟨lv, P⟩ := h
    exact ⟨lv, by rw [eW]; exact P.below (doW_below w _ id n o)⟩
  have hb0 : base ≤ W.heap.size := by rw [eW]; exact Nat.le_trans hbase (doW_below w _ id n o).size

  have C := told8M x base F m i id n o W h0 hI hi
  rw [show fstep F m 8 id n o = cO (ftold F m 8 id n o) from rfl]
  obtain ⟨R, eR⟩ : ∃ R, R = ftold F m 8 id n o := ⟨_, rfl⟩
  rw [← eR] at C ⊢
  rw [eW] at C
  have HC : Hid _ := And.intro C True.intro
  unfold doW bxO obZ at HC
  clear C eR eW h0 hb0 h hI W
  go_enter Try.func19, Try.ntmps19
  go_wp2_with (first | (go_at_call 33; refine HC.out.1.mono ?_; rintro e w1 ⟨rfl, hd⟩; have H1 : Hid _ := doOM (k := 8) (id := id) (n := n) (o := o) (framesM _ _) hd; clear hd) | (refine wpList_store_row rfl 35 _ _ rfl (w.heap.size + 1) #[.int .i64 R.2, .int .i64 0, .int .i64 0, .slice none 0 0] rfl rfl 35 _ (H1.out).h1 infoFObsM rfl (by simp [Value.oneCell']) ?_))
  have T := (H1.out).row (by omega) #[.int .i64 R.2, .int .i64 0, .int .i64 0, .slice none 0 0]
  try simp only [Exit.inBlock, Exit.then]
  refine bodyPost_ret (v := .agg #[.int .i64 R.2, .int .i64 0, .int .i64 0, .slice none 0 0]) ?_ rfl ?_
  · exact results_cell_row (t := 35) rfl _ _ (w.heap.size + 1) _ (fr := (0, 0)) _ rfl T.h1 Try.underlying35 rfl infoFObsM
  · exact ⟨_, rfl, T.f, T.P, T.C⟩

end Go.Proofs.Ythjakbpcpfmbjaa

namespace Go.Proofs.Ythjakbpcpfmbjaa
open Go.RowKit
set_option linter.unusedVariables false
set_option linter.unusedSimpArgs false

set_option maxRecDepth 20000 in
set_option maxHeartbeats 4000000 in
theorem doM (x base : Nat) (F : FS) (hF : fsOK F = true) (m : FX) (i : Nat) (id n : Int) (o : Bool) (w : World) (h : MRep w x base F m) (hI : FXI F i m) (hi : i ≤ 400) (hbase : base ≤ w.heap.size) (k : Int) :
    Calls Try.prog 19 #[.pointer (some ⟨x, 0, none⟩), .agg #[.int .i64 (k), .int .i64 id, .int .i64 n, .bool o]] w fun e w' => ∃ fv, e = .returned (.agg #[.int .i64 (fstep F m (k) id n o).2.code, .int .i64 (fstep F m (k) id n o).2.id, .int .i64 (fstep F m (k) id n o).2.cnt, fv]) ∧ GOwns 38 8 w' w.heap.size fv ((fstep F m (k) id n o).2.fr.map frC) ∧ MDo w w' x base F (fstep F m (k) id n o).1 := by
  by_cases k1 : k = 1
  · subst k1
    exact do1M x base F hF m i id n o w h hI hi hbase
  by_cases k2 : k = 2
  · subst k2
    exact do2M x base F hF m i id n o w h hI hi hbase
  by_cases k3 : k = 3
  · subst k3
    exact do3M x base F hF m i id n o w h hI hi hbase
  by_cases k4 : k = 4
  · subst k4
    exact do4M x base F hF m i id n o w h hI hi hbase
  by_cases k5 : k = 5
  · subst k5
    exact do5M x base F hF m i id n o w h hI hi hbase
  by_cases k6 : k = 6
  · subst k6
    exact do6M x base F hF m i id n o w h hI hi hbase
  by_cases k7 : k = 7
  · subst k7
    exact do7M x base F hF m i id n o w h hI hi hbase
  by_cases k8 : k = 8
  · subst k8
    exact do8M x base F hF m i id n o w h hI hi hbase
  have e : fstep F m k id n o = (m, ⟨1, 0, 0, []⟩) := by
    unfold fstep
    rw [if_neg k1, if_neg k2, if_neg k3, if_neg k4, if_neg k5, if_neg k6, if_neg k7, if_neg k8]
  rw [e]
  have H1 : Hid _ := doOM (k := k) (id := id) (n := n) (o := o) (m' := m) (x := x) (base := base) (F := F) (framesM (doW w k id n o) (doW w k id n o).heap.size) (MDo.same (w := doW w k id n o) (by
    obtain ⟨lv, P⟩ := h
    exact ⟨lv, P.below (doW_below w k id n o)⟩) (Below.refl _ _))
  unfold doW bxO obZ at H1
  have b1 : (k == 1) = false := by simpa using k1
  have b2 : (k == 2) = false := by simpa using k2
  have b3 : (k == 3) = false := by simpa using k3
  have b4 : (k == 4) = false := by simpa using k4
  have b5 : (k == 5) = false := by simpa using k5
  have b6 : (k == 6) = false := by simpa using k6
  have b7 : (k == 7) = false := by simpa using k7
  have b8 : (k == 8) = false := by simpa using k8
  clear h hI e
  go_enter Try.func19, Try.ntmps19
  go_wp2_with (first | (refine wpList_store_row rfl 35 _ _ rfl (w.heap.size + 1) #[.int .i64 1, .int .i64 0, .int .i64 0, .slice none 0 0] rfl rfl 35 _ (H1.out).h1 infoFObsM rfl (by simp [Value.oneCell']) ?_))
  have T := (H1.out).row (by omega) #[.int .i64 1, .int .i64 0, .int .i64 0, .slice none 0 0]
  try simp only [Exit.inBlock, Exit.then]
  refine bodyPost_ret (v := .agg #[.int .i64 1, .int .i64 0, .int .i64 0, .slice none 0 0]) ?_ rfl ?_
  · exact results_cell_row (t := 35) rfl _ _ (w.heap.size + 1) _ (fr := (0, 0)) _ rfl T.h1 Try.underlying35 rfl infoFObsM
  · exact ⟨_, rfl, T.f, T.P, T.C⟩

end Go.Proofs.Ythjakbpcpfmbjaa
