import Derived.Test.YtdjflbanbhhniaaDoorRzB
import Derived.Test.YtdjflbanbhhniaaDoorQpD
namespace Go.Proofs.YtdjflbanbhhniaaDoor
open Go.RowKit
set_option linter.unusedVariables false

def plc (g : Nat) (x : ByteArray) : Option Addr := if (x == mtN) = true then some ⟨g, 0, none⟩ else if (x == scN) = true then some ⟨g, 1, none⟩ else if (x == auN) = true then some ⟨g, 2, none⟩ else if (x == paN) = true then some ⟨g, 3, none⟩ else none
set_option maxRecDepth 20000 in
set_option maxHeartbeats 8000000 in
theorem plcI (g : Nat) (x : ByteArray) (w : World) : Calls Tryd.prog 28 #[.pointer (some ⟨g, 0, none⟩), .string x] w fun e w' => e = .returned (.pointer (plc g x)) ∧ w' = w := by
  cases hm : (x == mtN) with
  | true =>
    rw [show plc g x = some ⟨g, 0, none⟩ by unfold plc; simp only [hm, if_true]]
    have tm : (x.toList == [58, 109, 101, 116, 104, 111, 100]) = true := tl_litQ x _ _ hm
    clear hm
    go_enter Tryd.func28, Tryd.ntmps28
    go_wp2
    go_ret
    exact ⟨rfl, rfl⟩
  | false =>
  have tm : (x.toList == [58, 109, 101, 116, 104, 111, 100]) = false := tl_litQ x _ _ hm
  cases hs : (x == scN) with
  | true =>
    rw [show plc g x = some ⟨g, 1, none⟩ by unfold plc; simp only [hm, hs, if_true, if_false, Bool.false_eq_true]]
    have ts : (x.toList == [58, 115, 99, 104, 101, 109, 101]) = true := tl_litQ x _ _ hs
    clear hm hs
    go_enter Tryd.func28, Tryd.ntmps28
    go_wp2
    go_ret
    exact ⟨rfl, rfl⟩
  | false =>
  have ts : (x.toList == [58, 115, 99, 104, 101, 109, 101]) = false := tl_litQ x _ _ hs
  cases ha : (x == auN) with
  | true =>
    rw [show plc g x = some ⟨g, 2, none⟩ by unfold plc; simp only [hm, hs, ha, if_true, if_false, Bool.false_eq_true]]
    have ta : (x.toList == [58, 97, 117, 116, 104, 111, 114, 105, 116, 121]) = true := tl_litQ x _ _ ha
    clear hm hs ha
    go_enter Tryd.func28, Tryd.ntmps28
    go_wp2
    go_ret
    exact ⟨rfl, rfl⟩
  | false =>
  have ta : (x.toList == [58, 97, 117, 116, 104, 111, 114, 105, 116, 121]) = false := tl_litQ x _ _ ha
  cases hp : (x == paN) with
  | true =>
    rw [show plc g x = some ⟨g, 3, none⟩ by unfold plc; simp only [hm, hs, ha, hp, if_true, if_false, Bool.false_eq_true]]
    have tp : (x.toList == [58, 112, 97, 116, 104]) = true := tl_litQ x _ _ hp
    clear hm hs ha hp
    go_enter Tryd.func28, Tryd.ntmps28
    go_wp2
    go_ret
    exact ⟨rfl, rfl⟩
  | false =>
    rw [show plc g x = none by unfold plc; simp only [hm, hs, ha, hp, if_false, Bool.false_eq_true]]
    have tp : (x.toList == [58, 112, 97, 116, 104]) = false := tl_litQ x _ _ hp
    clear hm hs ha hp
    go_enter Tryd.func28, Tryd.ntmps28
    go_wp2
    go_ret
    exact ⟨rfl, rfl⟩
/-- What the fields at the front tell of a request, and what stands behind them. -/
def LqP (g : Nat) (L : List SField) (w w' : World) (e : Ending) : Prop :=
  ∃ (q : Q4) (beh : Value) (ok : Bool), e = .returned (.tuple #[beh, .bool ok]) ∧ QB w' g q (.slice none 0 0) ∧ Below g w w' ∧ (ok = false → qAt L (hdN L) = none ∧ beh = .slice none 0 0) ∧ (ok = true → qAt L (hdN L) = some q ∧ ∀ u, Below g w' u → GRow 2 u beh (SField.L (L.drop (hdN L))))
theorem au_pa {x : ByteArray} (h : (x == auN) = true) : (x == paN) = false := by
  cases q : (x == paN) with
  | false => rfl
  | true =>
    have e1 := eq_of_beq (tl_litQ x _ _ h)
    have e2 := eq_of_beq (tl_litQ x _ _ q)
    rw [e1] at e2
    simp at e2
set_option maxRecDepth 20000 in
set_option maxHeartbeats 16000000 in
theorem ldQ (g : Nat) (v : Value) (base : Nat) (L : List SField) (w : World) (ow : GOwns 44 2 w base v (SField.L L)) (hR : L.length ≤ 1048576) (hf : fin L) (hvg : ∀ k, v.ownBlock = some k → k < g) (kg : QB w g q0 (.slice none 0 0)) :
    Calls Tryd.prog 27 #[v, .func (.func 28) #[.pointer (some ⟨g, 0, none⟩)] #[]] w fun e w' => LqP g L w w' e := by
  have h := ow.row
  obtain ⟨ao, cp, rfl⟩ := frow_form h
  have hncap : L.length ≤ cp := by
    rcases ow.cellsFQ.2 with ⟨q, _⟩ | ⟨g', cap', cur, q, _, _, q2, _⟩
    · simp only [Value.slice.injEq] at q; omega
    · cases q; omega
  have hvg' : ∀ b off, ao = some ⟨b, off, none⟩ → b < g := fun b off e => hvg b (by rw [e]; rfl)
  obtain ⟨n, en⟩ : ∃ n, n = L.length := ⟨_, rfl⟩
  have HV : Hid _ := And.intro h (And.intro hf (And.intro hvg' (And.intro en kg)))
  rw [← en] at hncap hR ⊢
  clear h ow hf hvg hvg' en kg
  go_enter Tryd.func27, Tryd.ntmps27
  go_wp2_with fail
  go_loopw [11] (fun i wr => ∃ (k : Nat) (q : Q4), k ≤ n ∧ i = .int .i64 (k : Int) ∧ (∀ j, j < k → isH (L.getD j default) = true) ∧ qAt L k = some q ∧ QB wr g q (.slice none 0 0) ∧ Below g w wr) (fun i _ => n - (intOf i).toNat)
  case atStart => exact ⟨0, q0, by omega, rfl, fun j hj => by omega, rfl, HV.out.2.2.2.2, Below.refl _ _⟩
  case round =>
    obtain ⟨k, q, hk, rfl, ha, hq, kq, br⟩ := hrel
    by_cases hlt : k < n
    · have hkL : k < L.length := by have := HV.out.2.2.2.1; omega
      have hlt' : (k : Int) < (n : Int) := by omega
      have hk0 : (0 : Int) ≤ (k : Int) := by omega
      have hkn' : (k : Int) ≤ (n : Int) := by omega
      have hck : cp ≠ k := by omega
      obtain ⟨b, off, cap, ev, hb, hc⟩ := frow_at HV.out.1 (by omega)
      rw [← HV.out.2.2.2.1] at ev
      simp only [Value.slice.injEq] at ev
      obtain ⟨ea, em2, rfl⟩ := ev
      have hbg := HV.out.2.2.1 b off ea
      subst ea
      clear em2
      obtain ⟨c0, c1⟩ := row_field hc k hkL
      have C0 := (br.cell (p := ⟨b, off + k * 2, none⟩) hbg).trans c0
      have C1 := (br.cell (p := ⟨b, off + k * 2 + 1, none⟩) hbg).trans c1
      have hb' : b ≠ g := by omega
      have hS := qAt_succ hq
      have z0 := (HV.out.2.1 k hkL).1
      have CP : ∀ u, _ := fun u => pre58 (L.getD k default).f0 u z0
      have hH : isH (L.getD k default) = decide (1 ≤ (L.getD k default).f0.size ∧ bt (L.getD k default).f0 0 = 58) := rfl
      rw [← hH] at CP
      have HA : Hid (isH (L.getD k default) = true → ∀ j, j < k + 1 → isH (L.getD j default) = true) := fun e j hj => by
        by_cases q : j = k
        · rw [q]; exact e
        · exact ha j (by omega)
      have HBad : Hid (isH (L.getD k default) = true → qAt L (k + 1) = none → qAt L (hdN L) = none) := fun e e2 => qAt_none L (k + 1) e2 (hdN L) (hd_ge (L := L) (k + 1) (by omega) (HA.out e))
      have HE : Hid (isH (L.getD k default) = false → hdN L = k) := fun e => hd_of L k (by omega) ha (fun _ => e)
      have HG : Hid (∀ u, Below g wr u → GRow 2 u (.slice (some ⟨b, off + k * 2, none⟩) (n - k) (cp - k)) (SField.L (L.drop k))) := fun u hu => by
        refine Or.inr ⟨b, off + k * 2, cp - k, by simp [HV.out.2.2.2.1], Nat.lt_of_lt_of_le hb ((br.trans hu).size), fun j hj f hf2 => ?_⟩
        rw [List.length_map, List.length_drop] at hj
        have qc := hc (j + k) (by omega) f hf2
        rw [SField.at (L.drop k) j (by rw [List.length_drop]; exact hj)]
        rw [show (L.drop k).getD j default = L.getD (j + k) default by simp [List.getD, Nat.add_comm]]
        rw [← qc, show off + k * 2 + (j * 2 + f) = off + ((j + k) * 2 + f) by omega]
        exact (br.trans hu).cell (p := ⟨b, off + ((j + k) * 2 + f), none⟩) hbg
      obtain ⟨F, eF⟩ : ∃ F, F = L.getD k default := ⟨_, rfl⟩
      rw [← eF] at C0 C1 hS CP HA HBad HE
      obtain ⟨J, eJ⟩ : ∃ J, J = isH F := ⟨_, rfl⟩
      rw [← eJ] at CP HA HBad HE
      clear eF hc c0 c1 hkL hH eJ z0 ha
      obtain ⟨x, c⟩ := F
      simp only at C0 C1 CP
      have lg := kq.lt
      have bA : Below wr.heap.size wr (wr.alloc (.cells #[.string x, .string c] 44)) := (Below.refl _ _).alloc (Nat.le_refl _) _
      have kA := kq.below bA lg
      obtain ⟨y0, y1, y2, y3, y4⟩ := kA.cel
      obtain ⟨z0, z1, z2, z3, z4⟩ := kA.free
      have hne : wr.heap.size ≠ g := by omega
      have HK : Hid _ := And.intro kA (And.intro (br.trans (bA.mono (Nat.le_of_lt lg))) (And.intro kq (And.intro br (And.intro hq (bA.mono (Nat.le_of_lt lg))))))
      have HP : Hid _ := CP
      have HS : Hid _ := hS
      obtain ⟨qm, qs, qa, qp⟩ := q
      simp only at y0 y1 y2 y3
      clear hq kq br hS hb CP bA kA
      go_wp2_with fail
      go_at_call 40
      refine (HP.out _).mono ?_
      rintro e w1 ⟨rfl, hw1⟩
      subst hw1
      cases J with
      | false =>
        go_wp2
        (try simp only [Exit.inBlock, Exit.then])
        refine bodyPost_ret (results_tmp2 rfl _ _ _) rfl ?_
        exact ⟨_, _, true, rfl, HK.out.1, HK.out.2.1, (fun q => by cases q), (fun _ => by rw [HE.out (by first | rfl | trivial)]; exact ⟨HK.out.2.2.2.2.1, fun u hu => HG.out u (HK.out.2.2.2.2.2.trans hu)⟩)⟩
      | true =>
      go_wp2_with fail
      go_at_call 28
      refine (plcI g x _).mono ?_
      rintro e w2 ⟨rfl, hw2⟩
      subst hw2
      cases hm : (x == mtN) with
      | true =>
        rw [show plc g x = some ⟨g, 0, none⟩ by unfold plc; simp only [hm, if_true]]
        by_cases ho : qm.size = 0
        · have ho2 := empTz qm ho
          by_cases hz : c.size = 0
          · have hz2 := empTz c hz
            have HF : Hid (qAt L (k + 1) = none) := by show qAt L (k + 1) = none; rw [HS.out]; simp [qStep, hz]
            clear ho hz hm 
            go_wp2
            (try simp only [Exit.inBlock, Exit.then])
            refine bodyPost_ret (results_tmp2 rfl _ _ _) rfl ?_
            exact ⟨_, _, false, rfl, HK.out.1, HK.out.2.1, (fun _ => ⟨HBad.out (by first | rfl | trivial) HF.out, rfl⟩), (fun q => by cases q)⟩
          · have hz2 := empFz c hz
            have HF : Hid (qAt L (k + 1) = some ⟨c, qs, qa, qp⟩) := by show qAt L (k + 1) = _; rw [HS.out]; simp only [qStep, hz, hm, ho, if_true, if_false]
            have k3 := HK.out.2.2.1.set0 c
            have b3 : Below (wr.setCell ⟨g, 0, none⟩ (.string c)).heap.size (wr.setCell ⟨g, 0, none⟩ (.string c)) ((wr.setCell ⟨g, 0, none⟩ (.string c)).alloc (.cells #[.string x, .string c] 44)) := (Below.refl _ _).alloc (Nat.le_refl _) _
            have HR : Hid _ := And.intro (k3.below b3 k3.lt) ((HK.out.2.2.2.1.setCell (p := ⟨g, 0, none⟩) (Nat.le_refl g) (.string c)).trans (b3.mono (Nat.le_of_lt k3.lt)))
            clear ho hz hm  k3 b3
            go_wp2
            go_roundw
            case rel => exact ⟨k + 1, ⟨c, qs, qa, qp⟩, by omega, by go_num, HA.out (by first | rfl | trivial), HF.out, HR.out.1, HR.out.2⟩
            case measure => simp [intOf]; omega
        · have ho2 := empFz qm ho
          have HF : Hid (qAt L (k + 1) = none) := by show qAt L (k + 1) = none; rw [HS.out]; simp only [qStep, hm, ho, if_true, if_false]; split <;> rfl
          clear ho hm 
          go_wp2
          (try simp only [Exit.inBlock, Exit.then])
          refine bodyPost_ret (results_tmp2 rfl _ _ _) rfl ?_
          exact ⟨_, _, false, rfl, HK.out.1, HK.out.2.1, (fun _ => ⟨HBad.out (by first | rfl | trivial) HF.out, rfl⟩), (fun q => by cases q)⟩
      | false =>
      cases hs : (x == scN) with
      | true =>
        rw [show plc g x = some ⟨g, 1, none⟩ by unfold plc; simp only [hs, hm, if_true, if_false, Bool.false_eq_true]]
        by_cases ho : qs.size = 0
        · have ho2 := empTz qs ho
          by_cases hz : c.size = 0
          · have hz2 := empTz c hz
            have HF : Hid (qAt L (k + 1) = none) := by show qAt L (k + 1) = none; rw [HS.out]; simp [qStep, hz]
            clear ho hz hs hm
            go_wp2
            (try simp only [Exit.inBlock, Exit.then])
            refine bodyPost_ret (results_tmp2 rfl _ _ _) rfl ?_
            exact ⟨_, _, false, rfl, HK.out.1, HK.out.2.1, (fun _ => ⟨HBad.out (by first | rfl | trivial) HF.out, rfl⟩), (fun q => by cases q)⟩
          · have hz2 := empFz c hz
            have HF : Hid (qAt L (k + 1) = some ⟨qm, c, qa, qp⟩) := by show qAt L (k + 1) = _; rw [HS.out]; simp only [qStep, hz, hs, hm, ho, if_true, if_false, Bool.false_eq_true]
            have k3 := HK.out.2.2.1.set1 c
            have b3 : Below (wr.setCell ⟨g, 1, none⟩ (.string c)).heap.size (wr.setCell ⟨g, 1, none⟩ (.string c)) ((wr.setCell ⟨g, 1, none⟩ (.string c)).alloc (.cells #[.string x, .string c] 44)) := (Below.refl _ _).alloc (Nat.le_refl _) _
            have HR : Hid _ := And.intro (k3.below b3 k3.lt) ((HK.out.2.2.2.1.setCell (p := ⟨g, 1, none⟩) (Nat.le_refl g) (.string c)).trans (b3.mono (Nat.le_of_lt k3.lt)))
            clear ho hz hs hm k3 b3
            go_wp2
            go_roundw
            case rel => exact ⟨k + 1, ⟨qm, c, qa, qp⟩, by omega, by go_num, HA.out (by first | rfl | trivial), HF.out, HR.out.1, HR.out.2⟩
            case measure => simp [intOf]; omega
        · have ho2 := empFz qs ho
          have HF : Hid (qAt L (k + 1) = none) := by show qAt L (k + 1) = none; rw [HS.out]; simp only [qStep, hs, hm, ho, if_true, if_false, Bool.false_eq_true]; split <;> rfl
          clear ho hs hm
          go_wp2
          (try simp only [Exit.inBlock, Exit.then])
          refine bodyPost_ret (results_tmp2 rfl _ _ _) rfl ?_
          exact ⟨_, _, false, rfl, HK.out.1, HK.out.2.1, (fun _ => ⟨HBad.out (by first | rfl | trivial) HF.out, rfl⟩), (fun q => by cases q)⟩
      | false =>
      cases ha : (x == auN) with
      | true =>
        rw [show plc g x = some ⟨g, 2, none⟩ by unfold plc; simp only [ha, hm, hs, if_true, if_false, Bool.false_eq_true]]
        have hp := au_pa ha
        by_cases ho : qa.size = 0
        · have ho2 := empTz qa ho
          by_cases hz : c.size = 0
          · have hz2 := empTz c hz
            have HF : Hid (qAt L (k + 1) = none) := by show qAt L (k + 1) = none; rw [HS.out]; simp [qStep, hz]
            clear ho hz ha hm hs hp
            go_wp2
            (try simp only [Exit.inBlock, Exit.then])
            refine bodyPost_ret (results_tmp2 rfl _ _ _) rfl ?_
            exact ⟨_, _, false, rfl, HK.out.1, HK.out.2.1, (fun _ => ⟨HBad.out (by first | rfl | trivial) HF.out, rfl⟩), (fun q => by cases q)⟩
          · have hz2 := empFz c hz
            have HF : Hid (qAt L (k + 1) = some ⟨qm, qs, c, qp⟩) := by show qAt L (k + 1) = _; rw [HS.out]; simp only [qStep, hz, ha, hm, hs, hp, ho, if_true, if_false, Bool.false_eq_true]
            have k3 := HK.out.2.2.1.set2 c
            have b3 : Below (wr.setCell ⟨g, 2, none⟩ (.string c)).heap.size (wr.setCell ⟨g, 2, none⟩ (.string c)) ((wr.setCell ⟨g, 2, none⟩ (.string c)).alloc (.cells #[.string x, .string c] 44)) := (Below.refl _ _).alloc (Nat.le_refl _) _
            have HR : Hid _ := And.intro (k3.below b3 k3.lt) ((HK.out.2.2.2.1.setCell (p := ⟨g, 2, none⟩) (Nat.le_refl g) (.string c)).trans (b3.mono (Nat.le_of_lt k3.lt)))
            clear ho hz ha hm hs hp k3 b3
            go_wp2
            go_roundw
            case rel => exact ⟨k + 1, ⟨qm, qs, c, qp⟩, by omega, by go_num, HA.out (by first | rfl | trivial), HF.out, HR.out.1, HR.out.2⟩
            case measure => simp [intOf]; omega
        · have ho2 := empFz qa ho
          have HF : Hid (qAt L (k + 1) = none) := by show qAt L (k + 1) = none; rw [HS.out]; simp only [qStep, ha, hm, hs, hp, ho, if_true, if_false, Bool.false_eq_true]; split <;> rfl
          clear ho ha hm hs hp
          go_wp2
          (try simp only [Exit.inBlock, Exit.then])
          refine bodyPost_ret (results_tmp2 rfl _ _ _) rfl ?_
          exact ⟨_, _, false, rfl, HK.out.1, HK.out.2.1, (fun _ => ⟨HBad.out (by first | rfl | trivial) HF.out, rfl⟩), (fun q => by cases q)⟩
      | false =>
      cases hp : (x == paN) with
      | true =>
        rw [show plc g x = some ⟨g, 3, none⟩ by unfold plc; simp only [hp, hm, hs, ha, if_true, if_false, Bool.false_eq_true]]
        by_cases ho : qp.size = 0
        · have ho2 := empTz qp ho
          by_cases hz : c.size = 0
          · have hz2 := empTz c hz
            have HF : Hid (qAt L (k + 1) = none) := by show qAt L (k + 1) = none; rw [HS.out]; simp [qStep, hz]
            clear ho hz hp hm hs ha
            go_wp2
            (try simp only [Exit.inBlock, Exit.then])
            refine bodyPost_ret (results_tmp2 rfl _ _ _) rfl ?_
            exact ⟨_, _, false, rfl, HK.out.1, HK.out.2.1, (fun _ => ⟨HBad.out (by first | rfl | trivial) HF.out, rfl⟩), (fun q => by cases q)⟩
          · have hz2 := empFz c hz
            have HF : Hid (qAt L (k + 1) = some ⟨qm, qs, qa, c⟩) := by show qAt L (k + 1) = _; rw [HS.out]; simp only [qStep, hz, hp, hm, hs, ha, ho, if_true, if_false, Bool.false_eq_true]
            have k3 := HK.out.2.2.1.set3 c
            have b3 : Below (wr.setCell ⟨g, 3, none⟩ (.string c)).heap.size (wr.setCell ⟨g, 3, none⟩ (.string c)) ((wr.setCell ⟨g, 3, none⟩ (.string c)).alloc (.cells #[.string x, .string c] 44)) := (Below.refl _ _).alloc (Nat.le_refl _) _
            have HR : Hid _ := And.intro (k3.below b3 k3.lt) ((HK.out.2.2.2.1.setCell (p := ⟨g, 3, none⟩) (Nat.le_refl g) (.string c)).trans (b3.mono (Nat.le_of_lt k3.lt)))
            clear ho hz hp hm hs ha k3 b3
            go_wp2
            go_roundw
            case rel => exact ⟨k + 1, ⟨qm, qs, qa, c⟩, by omega, by go_num, HA.out (by first | rfl | trivial), HF.out, HR.out.1, HR.out.2⟩
            case measure => simp [intOf]; omega
        · have ho2 := empFz qp ho
          have HF : Hid (qAt L (k + 1) = none) := by show qAt L (k + 1) = none; rw [HS.out]; simp only [qStep, hp, hm, hs, ha, ho, if_true, if_false, Bool.false_eq_true]; split <;> rfl
          clear ho hp hm hs ha
          go_wp2
          (try simp only [Exit.inBlock, Exit.then])
          refine bodyPost_ret (results_tmp2 rfl _ _ _) rfl ?_
          exact ⟨_, _, false, rfl, HK.out.1, HK.out.2.1, (fun _ => ⟨HBad.out (by first | rfl | trivial) HF.out, rfl⟩), (fun q => by cases q)⟩
      | false =>
      rw [show plc g x = none by unfold plc; simp only [hm, hs, ha, hp, if_false, Bool.false_eq_true]]
      have HF : Hid (qAt L (k + 1) = none) := by show qAt L (k + 1) = none; rw [HS.out]; simp only [qStep, hm, hs, hp, ha, if_false, Bool.false_eq_true]; split <;> rfl
      clear hm hs hp ha
      go_wp2
      (try simp only [Exit.inBlock, Exit.then])
      refine bodyPost_ret (results_tmp2 rfl _ _ _) rfl ?_
      exact ⟨_, _, false, rfl, HK.out.1, HK.out.2.1, (fun _ => ⟨HBad.out (by first | rfl | trivial) HF.out, rfl⟩), (fun q => by cases q)⟩
    · obtain rfl : k = n := by omega
      have hlt' : ¬ (k : Int) < (k : Int) := by omega
      have hL := HV.out.2.2.2.1
      have eH : hdN L = k := hd_of L k (by omega) ha (fun q => by omega)
      have HX : Hid _ := And.intro kq (And.intro br (And.intro hq eH))
      clear hq kq br ha hL eH
      go_wp2
      (try simp only [Exit.inBlock, Exit.then])
      refine bodyPost_ret (results_tmp2 rfl _ _ _) rfl ?_
      exact ⟨_, _, true, rfl, HX.out.1, HX.out.2.1, (fun q => by cases q), (fun _ => by rw [HX.out.2.2.2]; exact ⟨HX.out.2.2.1, fun u hu => Or.inl ⟨by rw [show L.drop k = [] from List.drop_eq_nil_of_le (by have := HV.out.2.2.2.1; omega)]; rfl, none, 0, rfl⟩⟩)⟩
end Go.Proofs.YtdjflbanbhhniaaDoor
