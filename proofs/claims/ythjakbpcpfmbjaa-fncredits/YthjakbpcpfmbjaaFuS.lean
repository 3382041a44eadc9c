import Derived.Test.YthjakbpcpfmbjaaFuR
namespace Go.Proofs.Ythjakbpcpfmbjaa
open Go.RowKit
set_option linter.unusedVariables false
set_option linter.unusedSimpArgs false

/-- n more of the other side's. -/
def admS (F : FS) (m : FX) (o : Bool) (n : Nat) : FX := { m with L := addk F (!F.sv) o m.L (m.th o) n, th := updB m.th o (m.th o + n) }
theorem admS_zero (F : FS) (m : FX) (o : Bool) : admS F m o 0 = m := by
  unfold admS
  have e : updB m.th o (m.th o + ((0 : Nat) : Int)) = m.th := by
    funext o'
    by_cases q : o' = o
    · subst q; rw [updB_at]; simp
    · rw [updB_ne _ _ _ _ q]
  rw [e]
  rfl
theorem admS_succ (F : FS) (m : FX) (o : Bool) (n : Nat) : admS F m o (n + 1) = { admS F m o n with L := (admS F m o n).L ++ [SX.new F (idn (!F.sv) o (m.th o + n))], th := updB (admS F m o n).th o ((admS F m o n).th o + 1) } := by
  unfold admS
  have e : updB m.th o (m.th o + ((n + 1 : Nat) : Int)) = updB (updB m.th o (m.th o + n)) o (updB m.th o (m.th o + n) o + 1) := by
    funext o'
    by_cases q : o' = o
    · subst q; rw [updB_at, updB_at, updB_at]; omega
    · rw [updB_ne _ _ _ _ q, updB_ne _ _ _ _ q, updB_ne _ _ _ _ q]
  rw [e]
  rfl
theorem fadm_eq (F : FS) (m : FX) (id : Int) : fadm F m id = admS F m (ptO id) (id / 4 + 1 - m.th (ptO id)).toNat := rfl
theorem admS_th (F : FS) (m : FX) (o : Bool) (n : Nat) : (admS F m o n).th o = m.th o + n := updB_at _ _ _
theorem admS_tin (F : FS) (m : FX) (o : Bool) (n : Nat) : (admS F m o n).tin = m.tin := rfl
theorem admS_sums (F : FS) (m : FX) (o : Bool) (n : Nat) : sumS (admS F m o n).L = sumS m.L ∧ sumC (admS F m o n).L = sumC m.L := ⟨addk_sumS _ _ _ _ _ _, addk_sumC _ _ _ _ _ _⟩
theorem pt_bits {id : Int} (h0 : 0 ≤ id) (h1 : id < 4611686018427387904) : id.tmod 4 = (bN (ptS id) (ptO id) : Int) := by
  rw [Int.tmod_eq_emod_of_nonneg h0]
  have hn : ¬ (id < 0 ∨ 4611686018427387904 ≤ id) := by omega
  simp only [ptS, ptO, if_neg hn, bN]
  rcases (show id % 2 = 0 ∨ id % 2 = 1 by omega) with a | a <;> rcases (show id / 2 % 2 = 0 ∨ id / 2 % 2 = 1 by omega) with b | b <;> simp only [a, b] <;> simp <;> omega
set_option maxRecDepth 20000 in
set_option maxHeartbeats 4000000 in
theorem admitI (g base : Nat) (F : FS) (hF : fsOK F = true) (m : FX) (i : Nat) (id : Int) (w : World) (h : FRep w g base F m) (hI : FXI F i m) (hi : i ≤ 400) (hbase : base ≤ w.heap.size) (h0 : 0 ≤ id) (h1 : id < 4611686018427387904) (hs : ptS id ≠ F.sv) :
    Calls Try.prog 55 #[.pointer (some ⟨g, 0, none⟩), .int .i64 id, .int .i64 (id / 4)] w fun e w' => e = .returned (.int .i64 (if m.tin (ptO id) ≤ id / 4 then 9 else 0)) ∧ FDo w w' g base F (if m.tin (ptO id) ≤ id / 4 then m else fadm F m id) := by
  have HR : Hid _ := h
  obtain ⟨wb, ms, ml, pb, h⟩ := h
  have hb := bN_lt (ptS id) (ptO id)
  have em := pt_bits h0 h1
  have es := bS_bN (ptS id) (ptO id)
  have eo := bO_bN (ptS id) (ptO id)
  obtain ⟨b, eb⟩ : ∃ b, b = bN (ptS id) (ptO id) := ⟨_, rfl⟩
  rw [← eb] at hb em es eo
  obtain ⟨k0, k1⟩ := h.kc b hb
  have hsb : ¬ bS b = F.sv := by rw [es]; exact hs
  have et : kT F m b = m.tin (ptO id) := by rw [kT_neg hsb, eo]
  rw [et] at k1
  have hbi : (b : Int) < 4 := by omega
  have hti := hI.tin (ptO id)
  by_cases a : m.tin (ptO id) ≤ id / 4
  · rw [if_pos a, if_pos a]
    clear h hI es eo et eb hsb
    generalize m.tin (ptO id) = ti at *
    generalize id / 4 = pl at *
    go_enter Try.func55, Try.ntmps55
    go_wp2
    go_ret
    exact ⟨rfl, FDo.refl HR.out⟩
  · rw [if_neg a, if_neg a, fadm_eq]
    have hth := hI.th (ptO id)
    obtain ⟨o, eO⟩ : ∃ o, o = ptO id := ⟨_, rfl⟩
    rw [← eO] at eo et a k1 hth hti ⊢
    obtain ⟨pl, epl⟩ : ∃ pl, pl = id / 4 := ⟨_, rfl⟩
    rw [← epl] at a ⊢
    obtain ⟨N, eN⟩ : ∃ N, N = (pl + 1 - m.th o).toNat := ⟨_, rfl⟩
    rw [← eN]
    have hpl : 0 ≤ pl ∧ pl < 4611686018427387904 := by omega
    obtain ⟨ti, eti⟩ : ∃ x, x = m.tin o := ⟨_, rfl⟩
    rw [← eti] at a k1 hti
    have HH : Hid _ := And.intro hI (And.intro hsb (And.intro eo (And.intro hb (And.intro eti (And.intro eN (And.intro hth hbase))))))
    have ES : Hid _ := And.intro es eb
    have HTI : Hid _ := And.intro hti hi
    clear hI hsb eo eb et eti eN hth hs es epl eO h hti
    go_enter Try.func55, Try.ntmps55
    go_wp2_with fail
    go_loopg [] N (fun q wr => ∃ k : Nat, k ≤ N ∧ q = N - k ∧ FRep wr g base F (admS F m o k) ∧ FCh base w wr)
    case atStart => exact ⟨0, by omega, by omega, by rw [admS_zero]; exact HR.out, ChT.refl _ _ _⟩
    case round =>
      obtain ⟨k, hk, hq, P, C⟩ := hrel
      obtain ⟨hI, hsb, eo, hb', eti, eN, hth, hbs⟩ := HH.out
      have hs2 : bS b = !F.sv := by revert hsb; cases bS b <;> cases F.sv <;> decide
      have hit := HTI.out
      have P0 := P
      obtain ⟨wb', ms', ml', pb', P'⟩ := P0
      have ka := (P'.kc b hb).1
      have ko : kO F (admS F m o k) b = m.th o + k := by rw [kO_neg hsb, eo]; exact admS_th F m o k
      rw [ko] at ka
      by_cases hlt : k < N
      · have hcond : m.th o + (k : Int) ≤ pl := by omega
        have hdec : decide (m.th o + (k : Int) ≤ pl) = true := decide_eq_true hcond
        have hIk : FXI F i (admS F m o k) := hI.adm hF hit.2 o k (by omega)
        have hlen := hIk.len_le hit.2
        have hn : ¬ ixf (admS F m o k).L (idn (bS b) (bO b) (kO F (admS F m o k) b)) < (admS F m o k).L.length := fun hx => by
          rw [ko, eo] at hx
          obtain ⟨o', k', hk', ⟨q1, e⟩ | ⟨q1, e⟩⟩ := (hIk.mem _).1 (ixf_mem.1 hx)
          · have a1 := hIk.op o'
            have b1 := hIk.my o'
            have q := (idn_inj (show 0 ≤ m.th o + (k : Int) by omega) (by omega) hk' (by omega) e).1
            exact hsb q
          · have a1 := hIk.th o'
            have b1 := hIk.tin o'
            obtain ⟨-, rfl, q3⟩ := idn_inj (show 0 ≤ m.th o + (k : Int) by omega) (by omega) hk' (by omega) e
            rw [admS_th] at q1
            omega
        have N' := openNI g base F (admS F m o k) _ _ wb' ms' ml' pb' b wr P' hb (Nat.le_trans hbs C.size) (by rw [ko]; omega) (by rw [ko]; omega) hn (by omega)
        have eM : ({ incK F (admS F m o k) b with L := (admS F m o k).L ++ [SX.new F (idn (bS b) (bO b) (kO F (admS F m o k) b))] } : FX) = admS F m o (k + 1) := by
          rw [admS_succ, incK_neg hsb, ko, eo, hs2]
        unfold OpenP at N'
        rw [eM] at N'
        have HN : Hid _ := And.intro N' C
        have HS : Hid _ := And.intro (addk_sumS F (!F.sv) o m.L (m.th o) (k + 1)) (And.intro (addk_sumC F (!F.sv) o m.L (m.th o) (k + 1)) (And.intro (addk_sumS F (!F.sv) o m.L (m.th o) k) (addk_sumC F (!F.sv) o m.L (m.th o) k)))
        obtain ⟨tk, etk⟩ : ∃ x, x = m.th o + (k : Int) := ⟨_, rfl⟩
        rw [← etk] at ka hdec hcond
        have htk : 0 ≤ tk ∧ tk < 1152921504606846976 := by omega
        clear N' eM hn hIk hlen P P' C ko hI hsb eo eti eN hth hbs hs2 etk hb' hit
        go_wp2_with fail
        go_at_call 52
        refine HN.out.1.mono ?_
        rintro e w3 ⟨rfl, pb3, hp, hc⟩
        go_wp2_with fail
        go_roundg (N - (k + 1))
        case measure => omega
        case rel =>
          refine ⟨k + 1, by omega, rfl, ⟨wb', ms', ml', pb3, ?_⟩, HN.out.2.trans hc⟩
          have e1 : sumS (admS F m o (k + 1)).L = sumS (admS F m o k).L := HS.out.1.trans HS.out.2.2.1.symm
          have e2 : sumC (admS F m o (k + 1)).L = sumC (admS F m o k).L := HS.out.2.1.trans HS.out.2.2.2.symm
          rw [e1, e2]
          exact hp
      · obtain rfl : k = N := by omega
        have hdec : decide (m.th o + (k : Int) ≤ pl) = false := decide_eq_false (by omega)
        obtain ⟨tk, etk⟩ : ∃ x, x = m.th o + (k : Int) := ⟨_, rfl⟩
        have hcond : ¬ tk ≤ pl := by omega
        rw [← etk] at ka hdec
        have HN : Hid _ := And.intro P C
        clear P P' C ko hI hsb eo eti eN hth hbs hs2 etk hb' hit
        go_wp2
        go_ret
        exact ⟨rfl, HN.out.1, HN.out.2⟩
end Go.Proofs.Ythjakbpcpfmbjaa
