import Derived.Test.YtdjflbanbhhniaaDoorLnB
import Derived.Laws.Strings
namespace Go.Proofs.YtdjflbanbhhniaaDoor
open Go.RowKit
set_option linter.unusedVariables false

theorem bne_of_beq {a b : ByteArray} {c : Bool} (h : (a == b) = c) : (a != b) = !c := by simp [bne, h]
theorem tl_lit (a : ByteArray) (x : Array UInt8) (c : Bool) (h : (a == (⟨x⟩ : ByteArray)) = c) : (a.toList == x.toList) = c := by
  have e1 : (a == (⟨x⟩ : ByteArray)) = (a.data == x) := rfl
  rw [e1] at h
  rw [ByteArray.toList_eq]
  subst h
  cases hd : (a.data == x) with
  | true => rw [eq_of_beq hd]; exact beq_self_eq_true _
  | false => exact beq_eq_false_iff_ne.2 (fun e => by have := Array.toList_inj.1 e; rw [this] at hd; simp at hd)
abbrev clL : List UInt8 := [99, 111, 110, 116, 101, 110, 116, 45, 108, 101, 110, 103, 116, 104]
set_option maxHeartbeats 4000000 in
theorem lenI (v : Value) (L : List SField) (w : World) (h : GRow 2 w v (SField.L L)) (hR : L.length ≤ 1048576) (hf : fin L) :
    Calls Tryd.prog 48 #[v] w fun e w' => e = .returned (.tuple #[.int .i64 (lnV L), .int .i64 (lnC L)]) ∧ Below w.heap.size w w' := by
  obtain ⟨ao, cp, rfl⟩ := frow_form h
  obtain ⟨V, eV⟩ : ∃ V, V = lnV L := ⟨_, rfl⟩
  obtain ⟨C, eC⟩ : ∃ C, C = lnC L := ⟨_, rfl⟩
  rw [← eV, ← eC]
  unfold lnV at eV
  unfold lnC at eC
  obtain ⟨n, en⟩ : ∃ n, n = L.length := ⟨_, rfl⟩
  rw [← en] at eV eC hR ⊢
  rw [← en] at h
  by_cases h1 : 64 < n
  · rw [if_pos h1] at eV eC
    have h3 : (64 : Int) < n := by omega
    rw [eV, eC]
    clear h en eV eC hf
    go_enter Tryd.func48, Tryd.ntmps48
    go_wp2
    (try simp only [Exit.inBlock, Exit.then])
    refine bodyPost_ret (results_tmp2 rfl _ _ _) rfl ?_
    exact ⟨rfl, Below.refl _ _⟩
  rw [if_neg h1] at eV eC
  have h3 : ¬ ((64 : Int) < n) := by omega
  have HH : Hid _ := And.intro h (And.intro en (And.intro eV (And.intro eC hf)))
  clear h en eV eC hf
  go_enter Tryd.func48, Tryd.ntmps48
  go_wp2_with fail
  go_loopw [4, 14] (fun a i wr => ∃ (k : Nat) (o : Int), k ≤ n ∧ i = .int .i64 (k : Int) ∧ a = .int .i64 o ∧ lnF L k = some o ∧ Below w.heap.size w wr) (fun _ i _ => n - (intOf i).toNat)
  case atStart => exact ⟨0, -1, by omega, rfl, rfl, rfl, Below.refl _ _⟩
  case round =>
    obtain ⟨k, o, hk, rfl, rfl, ho, bw⟩ := hrel
    have hob := lnF_bd L k o ho
    by_cases hlt : k < n
    · have hkL : k < L.length := by rw [← HH.out.2.1]; exact hlt
      obtain ⟨b, off, cap, ev, hb, hc⟩ := frow_at (HH.out.1.below bw) (by omega)
      rw [← HH.out.2.1] at ev
      simp only [Value.slice.injEq] at ev
      obtain ⟨rfl, em2, rfl⟩ := ev
      clear em2
      obtain ⟨c0, c1⟩ := row_field hc k hkL
      have hsu : lnF L (k + 1) = if (L.getD k default).f0 == clN then (if 0 ≤ o ∨ spl (L.getD k default).f1 9 48 57 = false then none else some (dv (L.getD k default).f1 (L.getD k default).f1.size)) else some o := by simp only [lnF, ho]
      have CD : ∀ u, _ := fun u => decI (L.getD k default).f1 9 (by decide) u (HH.out.2.2.2.2 k hkL).2
      obtain ⟨F, eF⟩ : ∃ F, F = L.getD k default := ⟨_, rfl⟩
      rw [← eF] at hsu c0 c1 CD
      obtain ⟨a, c⟩ := F
      simp only at c0 c1 CD hsu
      have HA : Hid (Below w.heap.size w (wr.alloc (.cells #[.string a, .string c] 44))) := bw.alloc (by have := bw.size; omega) _
      cases hn : (a == clN) with
      | false =>
        have hne : (a != clN) = true := bne_of_beq hn
        have hnt : (a.toList == clL) = false := tl_lit a _ _ hn
        unfold clN at hne
        unfold clL at hnt
        rw [hn] at hsu
        simp only [Bool.false_eq_true, if_false] at hsu
        have HR : Hid _ := And.intro hsu True.intro
        clear hsu CD eF bw hc hn ho
        go_wp2
        go_roundw
        case rel => exact ⟨k + 1, o, by omega, by go_num, rfl, HR.out.1, HA.out⟩
        case measure => simp [intOf]; omega
      | true =>
        have hne : (a != clN) = false := bne_of_beq hn
        have hnt : (a.toList == clL) = true := tl_lit a _ _ hn
        unfold clN at hne
        unfold clL at hnt
        rw [hn] at hsu
        simp only [if_true] at hsu
        obtain ⟨S, eS⟩ : ∃ S, S = spl c 9 48 57 := ⟨_, rfl⟩
        obtain ⟨D, eD⟩ : ∃ D, D = dcV c 9 := ⟨_, rfl⟩
        rw [← eS] at hsu
        have hdv : S = true → dv c c.size = D := fun h => by rw [eD]; unfold dcV; rw [← eS, h]; rfl
        have CD2 : ∀ u : World, Calls Tryd.prog 53 #[.string c, .int .i64 9] u fun e w' => e = .returned (.tuple #[.int .i64 D, .bool S]) ∧ Below u.heap.size u w' := by rw [eS, eD]; exact CD
        have HC : Hid _ := And.intro CD2 True.intro
        clear CD CD2 eF eS eD bw hc hn
        have fail17 : lnF L (k + 1) = none → V = 0 ∧ C = 17 := fun hno => by
          have hN := lnF_none L (k + 1) n (by omega) hno
          obtain ⟨-, -, q1, q2, -⟩ := HH.out
          rw [hN] at q1 q2
          exact ⟨q1, q2⟩
        cases S with
        | false =>
          have HF : Hid _ := And.intro (fail17 (by rw [hsu, if_pos (Or.inr rfl)])) True.intro
          clear hsu hdv fail17 ho
          go_wp2_with (go_at_call 53; refine (HC.out.1 _).mono ?_; rintro e w2 ⟨rfl, b2⟩; have HB : Hid _ := And.intro (HA.out.trans (b2.mono HA.out.size)) True.intro; clear b2)
          (try simp only [Exit.inBlock, Exit.then])
          refine bodyPost_ret (results_tmp2 rfl _ _ _) rfl ?_
          exact ⟨by rw [HF.out.1.1, HF.out.1.2]; rfl, HB.out.1⟩
        | true =>
          rw [hdv rfl] at hsu
          by_cases o0 : 0 ≤ o
          · have HF : Hid _ := And.intro (fail17 (by rw [hsu, if_pos (Or.inl o0)])) True.intro
            clear hsu hdv fail17 ho
            go_wp2_with (go_at_call 53; refine (HC.out.1 _).mono ?_; rintro e w2 ⟨rfl, b2⟩; have HB : Hid _ := And.intro (HA.out.trans (b2.mono HA.out.size)) True.intro; clear b2)
            (try simp only [Exit.inBlock, Exit.then])
            refine bodyPost_ret (results_tmp2 rfl _ _ _) rfl ?_
            exact ⟨by rw [HF.out.1.1, HF.out.1.2]; rfl, HB.out.1⟩
          · rw [if_neg (by simp; omega)] at hsu
            have HR : Hid _ := And.intro hsu True.intro
            clear hsu hdv fail17 ho
            go_wp2_with (go_at_call 53; refine (HC.out.1 _).mono ?_; rintro e w2 ⟨rfl, b2⟩; have HB : Hid _ := And.intro (HA.out.trans (b2.mono HA.out.size)) True.intro; clear b2)
            go_roundw
            case rel => exact ⟨k + 1, D, by omega, by go_num, rfl, HR.out.1, HB.out.1⟩
            case measure => simp [intOf]; omega
    · obtain rfl : k = n := by omega
      have HF : Hid (V = o ∧ C = 0) := by
        obtain ⟨-, -, q1, q2, -⟩ := HH.out
        rw [ho] at q1 q2
        exact ⟨q1, q2⟩
      have HB : Hid _ := And.intro bw True.intro
      clear bw ho
      go_wp2
      (try simp only [Exit.inBlock, Exit.then])
      refine bodyPost_ret (results_tmp2 rfl _ _ _) rfl ?_
      exact ⟨by rw [HF.out.1, HF.out.2]; rfl, HB.out.1⟩
end Go.Proofs.YtdjflbanbhhniaaDoor
