import Derived.Test.YtpbkigmcbgbfgaaDoorRkT
import Derived.Deep.CutRange
import Derived.Deep.CutBlock
namespace Go.Proofs.YtpbkigmcbgbfgaaDoor
open Go.RowKit
set_option linter.unusedVariables false

theorem ug_some {z : List UInt8} {k : Nat} (h : ug z = some k) : ∃ c : UInt8, z = [117, 61, c] ∧ 48 ≤ c.toNat ∧ c.toNat ≤ 55 ∧ k = c.toNat - 48 := by
  match z with
  | [] => simp [ug] at h
  | [_] => simp [ug] at h
  | [_, _] => simp [ug] at h
  | [a, b, c] =>
    simp only [ug] at h
    split at h
    · rename_i hc
      obtain ⟨rfl, rfl, h1, h2⟩ := hc
      exact ⟨c, rfl, h1, h2, (Option.some.inj h).symm⟩
    · cases h
  | _ :: _ :: _ :: _ :: _ => simp [ug] at h
theorem stp_i (s : Int × Bool) (q : List UInt8) (h : tL (tR q) = [105] ∨ tL (tR q) = [105, 61, 63, 49]) : stp s q = (s.1, true) := by unfold stp; rw [if_pos h]
theorem stp_n (s : Int × Bool) (q : List UInt8) (h : ¬ (tL (tR q) = [105] ∨ tL (tR q) = [105, 61, 63, 49])) (h2 : tL (tR q) = [105, 61, 63, 48]) : stp s q = (s.1, false) := by unfold stp; rw [if_neg h, if_pos h2]
theorem stp_u (s : Int × Bool) (q : List UInt8) (k : Nat) (h : ¬ (tL (tR q) = [105] ∨ tL (tR q) = [105, 61, 63, 49])) (h2 : ¬ tL (tR q) = [105, 61, 63, 48]) (h3 : ug (tL (tR q)) = some k) : stp s q = ((k : Int), s.2) := by unfold stp; rw [if_neg h, if_neg h2, h3]
theorem stp_s (s : Int × Bool) (q : List UInt8) (h : ¬ (tL (tR q) = [105] ∨ tL (tR q) = [105, 61, 63, 49])) (h2 : ¬ tL (tR q) = [105, 61, 63, 48]) (h3 : ug (tL (tR q)) = none) : stp s q = s := by unfold stp; rw [if_neg h, if_neg h2, h3]
/-- How a part that tells no urgency is passed over. -/
theorem ug_none {z : List UInt8} (h : ug z = none) : z.length ≠ 3 ∨ ∃ a b c : UInt8, z = [a, b, c] ∧ (¬ [a, b] = [117, 61] ∨ ([a, b] = [117, 61] ∧ (c.toNat < 48 ∨ 55 < c.toNat))) := by
  match z with
  | [] => exact Or.inl (by simp)
  | [_] => exact Or.inl (by simp)
  | [_, _] => exact Or.inl (by simp)
  | [a, b, c] =>
    refine Or.inr ⟨a, b, c, rfl, ?_⟩
    by_cases hab : [a, b] = [117, 61]
    · refine Or.inr ⟨hab, ?_⟩
      simp only [List.cons.injEq, and_true] at hab
      simp only [ug, hab.1, hab.2, true_and] at h
      by_cases hc : 48 ≤ c.toNat ∧ c.toNat ≤ 55
      · rw [if_pos hc] at h; cases h
      · omega
    · exact Or.inl hab
  | _ :: _ :: _ :: _ :: _ => exact Or.inl (by simp)
theorem specP_long (s : ByteArray) (w : World) (hl : 1024 < s.size) (hm : s.size ≤ 9223372036854775807) :
    Calls Tryd.prog 7 #[.string s] w fun e w' => e = .returned (.tuple #[.int .i64 3, .bool false]) ∧ w' = w := by
  have hl' : (1024 : Int) < (s.size : Int) := by omega
  go_enter Tryd.func7, Tryd.ntmps7
  go_wp2
  go_ret2
  exact ⟨rfl, rfl⟩
set_option maxRecDepth 20000 in
set_option maxHeartbeats 4000000 in
theorem specP (l : List UInt8) (w : World) (hl : l.length ≤ 1024) :
    Calls Tryd.prog 7 #[.string (bl l)] w fun e w' => e = .returned (.tuple #[.int .i64 (rpV l).1, .bool (rpV l).2]) ∧ w' = w := by
  have hz0 : (bl l).size = l.length := bl_size l
  have hl' : ¬ (1024 : Int) < (l.length : Int) := by omega
  have hrp : rpV l = (pa l.length l).foldl stp (3, false) := by unfold rpV; rw [if_neg (by omega)]
  obtain ⟨V, eV⟩ : ∃ V, V = rpV l := ⟨_, rfl⟩
  rw [← eV]
  rw [← eV] at hrp
  have HV : Hid _ := And.intro hrp True.intro
  clear eV hrp
  go_enter Tryd.func7, Tryd.ntmps7
  go_wp2_with fail
  go_loopw [0, 4, 5] (fun t u b wr => ∃ (m : List UInt8) (s : Int × Bool), t = .string (bl m) ∧ u = .int .i64 s.1 ∧ b = .bool s.2 ∧ m.length ≤ 1024 ∧ (pa m.length m).foldl stp s = V ∧ wr = w) (fun t _ _ _ => lenS t)
  case atStart => exact ⟨l, (3, false), rfl, rfl, rfl, hl, HV.out.1.symm, rfl⟩
  case round =>
    obtain ⟨m, s, rfl, rfl, rfl, hm, hf, hwr⟩ := hrel
    have hwr2 := hwr.symm
    clear hwr
    subst hwr2
    by_cases h0 : m = []
    · subst h0
      have hz : (bl ([] : List UInt8)).size = 0 := rfl
      have e : s = V := by rw [← hf]; exact (stp_nil s).symm
      subst e
      clear hf
      go_wp2
      go_ret2
      exact ⟨rfl, rfl⟩
    · have hm0 : 0 < m.length := List.length_pos_iff.2 h0
      have hz : (bl m).size = m.length := bl_size m
      have hcl := ci_le m
      have hix : ∀ j, (h : j < m.length) → ∀ u : World, (Instr.index 9 (.string (bl m)) (.int .i64 (j : Int))).run Tryd.prog u = .ok (.int .u8 ((m[j]'h).toNat : Int)) u := fun j h u => ixB m j h u
      have hno : ∀ j, j < ci m → ∀ h : j < m.length, ¬ (((m[j]'h).toNat : Int) = 44) := fun j hj h e => ci_no m j hj (by rw [List.getElem?_eq_getElem h]; congr 1; exact UInt8.toNat_inj.1 (by have : (44 : UInt8).toNat = 44 := rfl; omega))
      have hyes : ∀ h : ci m < m.length, ((m[ci m]'h).toNat : Int) = 44 := fun h => by
        have := ci_at m h
        rw [List.getElem?_eq_getElem h] at this
        rw [Option.some.inj this]; rfl
      have e1 : (bl m).extract 0 (ci m) = bl (m.take (ci m)) := by rw [bl_ext]; simp
      have e2 : ∀ k, (bl m).extract k m.length = bl (m.drop k) := fun k => by rw [bl_ext]; congr 1; rw [List.take_of_length_le (by simp)]
      obtain ⟨S, eS⟩ : ∃ S, S = bl m := ⟨_, rfl⟩
      obtain ⟨c, ec⟩ : ∃ c, c = ci m := ⟨_, rfl⟩
      obtain ⟨n, en⟩ : ∃ n, n = m.length := ⟨_, rfl⟩
      have HM : Hid _ := And.intro hix (And.intro hno (And.intro hyes (And.intro e1 (And.intro e2 (And.intro hf (And.intro eS (And.intro ec en)))))))
      rw [← eS] at hz ⊢
      rw [← en] at hz hm0 hm hcl
      rw [← ec] at hcl
      clear hix hno hyes e1 e2 hf eS ec en h0
      go_wp2_with fail
      go_loopw [6] (fun i wr' => ∃ j : Nat, j ≤ c ∧ i = .int .i64 (j : Int) ∧ wr' = w) (fun i _ => c - (intOf i).toNat)
      case atStart => exact ⟨0, by omega, rfl, rfl⟩
      case round =>
        obtain ⟨j, hj, rfl, hwr⟩ := hrel
        have hwr2 := hwr.symm
        clear hwr
        subst hwr2
        by_cases hjc : j < c
        · have hji : (j : Int) < n := by omega
          have hjm : j < m.length := by have := HM.out.2.2.2.2.2.2.2.2; omega
          have hx := HM.out.1 j hjm
          rw [← HM.out.2.2.2.2.2.2.1] at hx
          have hne := HM.out.2.1 j (by have := HM.out.2.2.2.2.2.2.2.1; omega) hjm
          generalize ((m[j]'hjm).toNat : Int) = x at hx hne
          have hb : (x == 44) = false := by simpa using hne
          clear hne
          go_wp2
          refine ⟨⟨j + 1, by omega, by congr 1, trivial⟩, by simp [intOf]; omega⟩
        · have ejc : c = j := by omega
          subst ejc
          clear hjc hj
          obtain ⟨r, er⟩ : ∃ r, r = m.drop (c + 1) := ⟨_, rfl⟩
          obtain ⟨q, eq⟩ : ∃ q, q = m.take c := ⟨_, rfl⟩
          have e1 : S.extract 0 c = bl q := by rw [HM.out.2.2.2.2.2.2.1, eq, HM.out.2.2.2.2.2.2.2.1]; exact HM.out.2.2.2.1
          have hrl : r.length < n := by rw [er, List.length_drop]; have := HM.out.2.2.2.2.2.2.2.2; omega
          have hql : q.length ≤ 1024 := by rw [eq, List.length_take]; omega
          have hfin : (pa r.length r).foldl stp (stp s q) = V := by
            have h1 := HM.out.2.2.2.2.2.1
            have ec := HM.out.2.2.2.2.2.2.2.1
            have en := HM.out.2.2.2.2.2.2.2.2
            rw [← h1]
            by_cases hcm : ci m < m.length
            · rw [pa_yes m hcm, er, eq, ec]; rfl
            · rw [pa_not m hcm]
              have : r = [] := by rw [er]; exact List.drop_of_length_le (by omega)
              rw [this, show q = m by rw [eq]; exact List.take_of_length_le (by omega)]
              exact stp_nil _
          have hcs : (c < n ∧ (∀ u : World, (Instr.index 9 (.string S) (.int .i64 (c : Int))).run Tryd.prog u = .ok (.int .u8 44) u) ∧ S.extract (c + 1) n = bl r) ∨ (c = n ∧ r = []) := by
            have ec := HM.out.2.2.2.2.2.2.2.1
            have en := HM.out.2.2.2.2.2.2.2.2
            have hS := HM.out.2.2.2.2.2.2.1
            by_cases hcn : c < n
            · refine Or.inl ⟨hcn, fun u => ?_, ?_⟩
              · have hcm : ci m < m.length := by omega
                rw [hS, ec]
                exact (HM.out.1 (ci m) hcm u).trans (by rw [HM.out.2.2.1 hcm])
              · rw [hS, en, er]; exact HM.out.2.2.2.2.1 (c + 1)
            · exact Or.inr ⟨by omega, by rw [er]; exact List.drop_of_length_le (by omega)⟩
          have HR : Hid _ := And.intro hfin (And.intro hrl hql)
          clear hfin hrl er eq HM
          have HZ : Hid _ := And.intro hz hm
          rcases hcs with ⟨hcn, hx, e2⟩ | ⟨hcn, hr0⟩
          case inl =>
            have hcn1 : (c : Int) < n := by omega
            have hcn2 : (c : Int) + 1 ≤ n := by omega
            go_upto_block 4 with fail
            clear e1 e2 hz hm hm0 hcl
            go_cut [7] from 38 to 47 (fun v wx => v = .string (bl (tL q)) ∧ wx = w)
            case first =>
              go_wp2_with fail
              go_loopw [7] (fun v wr' => ∃ a : List UInt8, v = .string (bl a) ∧ tL a = tL q ∧ a.length ≤ 1024 ∧ wr' = w) (fun v _ => lenS v)
              case atStart => exact ⟨q, rfl, rfl, HR.out.2.2, rfl⟩
              case round =>
                obtain ⟨a, rfl, ha, hal, hwr⟩ := hrel
                have hwr2 := hwr.symm
                clear hwr
                subst hwr2
                cases a with
                | nil =>
                  have hz : (bl ([] : List UInt8)).size = 0 := rfl
                  go_wp2
                  go_meet
                  exact ⟨by rw [← ha]; rfl, rfl⟩
                | cons x a =>
                  have hx : ∀ u : World, (Instr.index 9 (.string (bl (x :: a))) (.int .i64 0)).run Tryd.prog u = .ok (.int .u8 (x.toNat : Int)) u := fun u => ixB (x :: a) 0 (by simp) u
                  have hz : (bl (x :: a)).size = a.length + 1 := bl_size _
                  obtain ⟨d, ed⟩ : ∃ d : Int, d = (x.toNat : Int) := ⟨_, rfl⟩
                  obtain ⟨T, eT⟩ : ∃ T, T = bl (x :: a) := ⟨_, rfl⟩
                  rw [← eT, ← ed] at hx
                  rw [← eT] at hz ⊢
                  have HT : Hid _ := And.intro ha (And.intro hal (And.intro ed eT))
                  by_cases h : x = 32
                  · have hb : (d == 32) = true := by rw [ed, h]; rfl
                    have HX : Hid _ := And.intro h True.intro
                    clear ha hal ed eT h
                    go_wp2
                    have e : T.extract 1 (a.length + 1) = bl a := by rw [HT.out.2.2.2, bl_ext]; simp
                    rw [e]
                    refine ⟨⟨a, rfl, ?_, by have := HT.out.2.1; simp at this; omega, trivial⟩, ?_⟩
                    · rw [← HT.out.1, HX.out.1]; simp only [tL, if_true]
                    · simp only [lenS, bl_size, hz]; omega
                  · have hb : (d == 32) = false := by
                      have : x.toNat ≠ 32 := fun e => h (UInt8.toNat_inj.1 e)
                      simpa using (by omega : ¬ d = 32)
                    have HX : Hid _ := And.intro h True.intro
                    clear ha hal ed eT h
                    go_wp2
                    go_meet
                    refine ⟨?_, rfl⟩
                    rw [← HT.out.1]
                    simp only [tL]
                    rw [if_neg HX.out.1, ← HT.out.2.2.2]
            case rest =>
              obtain ⟨rfl, hwc⟩ := hcut
              have hwc2 := hwc.symm
              clear hwc
              subst hwc2
              have hq2 : (tL q).length ≤ 1024 := by obtain ⟨i, e⟩ := tL_dec q; have := congrArg List.length e; rw [List.length_append] at this; have := HR.out.2.2; omega
              go_upto_block 6 with fail
              go_cut [7] from 48 to 63 (fun v wx => v = .string (bl (tR (tL q))) ∧ wx = w)
              case first =>
                go_wp2_with fail
                go_loopw [7] (fun v wr' => ∃ a : List UInt8, v = .string (bl a) ∧ tR a = tR (tL q) ∧ a.length ≤ 1024 ∧ wr' = w) (fun v _ => lenS v)
                case atStart => exact ⟨tL q, rfl, rfl, hq2, rfl⟩
                case round =>
                  obtain ⟨a, rfl, ha, hal, hwr⟩ := hrel
                  have hwr2 := hwr.symm
                  clear hwr
                  subst hwr2
                  rcases (List.eq_nil_or_concat a).imp_right (fun ⟨r, x, e⟩ => (⟨r, x, by rw [e, List.concat_eq_append]⟩ : ∃ r x, a = r ++ [x])) with rfl | ⟨a', x, rfl⟩
                  · have hz : (bl ([] : List UInt8)).size = 0 := rfl
                    go_wp2
                    go_meet
                    exact ⟨by rw [← ha]; rfl, rfl⟩
                  · have hx := ixB (a' ++ [x]) a'.length (by simp)
                    rw [show (a' ++ [x])[a'.length]'(by simp) = x by simp] at hx
                    have hz : (bl (a' ++ [x])).size = a'.length + 1 := by rw [bl_size]; simp
                    have hr : a'.length < 1048576 := by simp at hal; omega
                    obtain ⟨d, ed⟩ : ∃ d : Int, d = (x.toNat : Int) := ⟨_, rfl⟩
                    obtain ⟨T, eT⟩ : ∃ T, T = bl (a' ++ [x]) := ⟨_, rfl⟩
                    rw [← eT, ← ed] at hx
                    rw [← eT] at hz ⊢
                    have HT : Hid _ := And.intro ha (And.intro hal (And.intro ed eT))
                    by_cases h : x = 32
                    · have hb : (d == 32) = true := by rw [ed, h]; rfl
                      have HX : Hid _ := And.intro h True.intro
                      clear ha hal ed eT h
                      obtain ⟨k, hk⟩ : ∃ k, k = a'.length := ⟨_, rfl⟩
                      rw [← hk] at hz hr hx
                      have HK : Hid _ := And.intro hk True.intro
                      clear hk
                      go_wp2
                      have e : T.extract 0 k = bl a' := by rw [HT.out.2.2.2, bl_ext, HK.out.1]; simp
                      rw [e]
                      refine ⟨⟨a', rfl, ?_, by have := HT.out.2.1; simp at this; omega, trivial⟩, ?_⟩
                      · rw [← HT.out.1, HX.out.1]; exact (tR_rep 1 a').symm
                      · simp only [lenS, bl_size, hz]; have := HK.out.1; omega
                    · have hb : (d == 32) = false := by
                        have : x.toNat ≠ 32 := fun e => h (UInt8.toNat_inj.1 e)
                        simpa using (by omega : ¬ d = 32)
                      have HX : Hid _ := And.intro h True.intro
                      clear ha hal ed eT h
                      obtain ⟨k, hk⟩ : ∃ k, k = a'.length := ⟨_, rfl⟩
                      rw [← hk] at hz hr hx
                      clear hk
                      go_wp2
                      go_meet
                      exact ⟨by rw [← HT.out.1, tR_last _ _ HX.out.1, ← HT.out.2.2.2], rfl⟩
              case rest =>
                obtain ⟨rfl, hwc⟩ := hcut
                have hwc2 := hwc.symm
                clear hwc
                subst hwc2
                rw [← trim_comm]
                clear hq2
                obtain ⟨z, ez⟩ : ∃ z, z = tL (tR q) := ⟨_, rfl⟩
                rw [← ez]
                have hlr : lenS (.string (bl r)) < lenS (.string S) := by simp only [lenS, bl_size]; have := HR.out.2.1; have := HZ.out.1; omega
                have hr10 : r.length ≤ 1024 := by have := HR.out.2.1; have := HZ.out.2; omega
                have a1 : (bl z == (⟨#[105]⟩ : ByteArray)) = decide (z = [105]) := bl_eq z [105]
                have a2 : (bl z == (⟨#[105, 61, 63, 49]⟩ : ByteArray)) = decide (z = [105, 61, 63, 49]) := bl_eq z [105, 61, 63, 49]
                have a3 : (bl z == (⟨#[105, 61, 63, 48]⟩ : ByteArray)) = decide (z = [105, 61, 63, 48]) := bl_eq z [105, 61, 63, 48]
                have HW : Hid _ := And.intro hlr (And.intro hr10 ez)
                clear hlr hr10 ez
                by_cases q1 : z = [105]
                · rw [decide_eq_true q1] at a1
                  have t1 := tl_litR _ _ _ a1
                  have hst := stp_i s q (by rw [← HW.out.2.2]; exact Or.inl q1)
                  have HX : Hid _ := And.intro hst True.intro
                  clear hst q1 a2 a3
                  generalize bl z = Z at *
                  go_wp2
                  exact ⟨⟨r, (s.1, true), rfl, rfl, rfl, HW.out.2.1, by rw [← HX.out.1]; exact HR.out.1, trivial⟩, HW.out.1⟩
                by_cases q2 : z = [105, 61, 63, 49]
                · rw [decide_eq_false q1] at a1
                  rw [decide_eq_true q2] at a2
                  have t1 := tl_litR _ _ _ a1
                  have t2 := tl_litR _ _ _ a2
                  have hst := stp_i s q (by rw [← HW.out.2.2]; exact Or.inr q2)
                  have HX : Hid _ := And.intro hst True.intro
                  clear hst q1 q2 a3
                  generalize bl z = Z at *
                  go_wp2
                  exact ⟨⟨r, (s.1, true), rfl, rfl, rfl, HW.out.2.1, by rw [← HX.out.1]; exact HR.out.1, trivial⟩, HW.out.1⟩
                rw [decide_eq_false q1] at a1
                rw [decide_eq_false q2] at a2
                have t1 := tl_litR _ _ _ a1
                have t2 := tl_litR _ _ _ a2
                have q12 : ¬ (tL (tR q) = [105] ∨ tL (tR q) = [105, 61, 63, 49]) := by rw [← HW.out.2.2]; exact fun h => h.elim q1 q2
                by_cases q3 : z = [105, 61, 63, 48]
                · rw [decide_eq_true q3] at a3
                  have t3 := tl_litR _ _ _ a3
                  have hst := stp_n s q q12 (by rw [← HW.out.2.2]; exact q3)
                  have HX : Hid _ := And.intro hst True.intro
                  clear hst q1 q2 q3 q12
                  generalize bl z = Z at *
                  go_wp2
                  exact ⟨⟨r, (s.1, false), rfl, rfl, rfl, HW.out.2.1, by rw [← HX.out.1]; exact HR.out.1, trivial⟩, HW.out.1⟩
                rw [decide_eq_false q3] at a3
                have t3 := tl_litR _ _ _ a3
                have q13 : ¬ tL (tR q) = [105, 61, 63, 48] := by rw [← HW.out.2.2]; exact q3
                clear q1 q2 q3
                cases hu : ug z with
                | some k =>
                  have hst := stp_u s q k q12 q13 (by rw [← HW.out.2.2]; exact hu)
                  obtain ⟨x, hzx, hx1, hx2, hk⟩ := ug_some hu
                  have hz3 : (bl z).size = 3 := by rw [bl_size, hzx]; rfl
                  have hex : (bl z).extract 0 2 = (⟨#[117, 61]⟩ : ByteArray) := by rw [bl_ext, hzx]; rfl
                  have hix : ∀ u : World, (Instr.index 9 (.string (bl z)) (.int .i64 2)).run Tryd.prog u = .ok (.int .u8 (x.toNat : Int)) u := fun u => by rw [hzx]; exact ixB [117, 61, x] 2 (by simp) u
                  obtain ⟨d, ed⟩ : ∃ d : Int, d = (x.toNat : Int) := ⟨_, rfl⟩
                  rw [← ed] at hix
                  have hd1 : (48 : Int) ≤ d := by omega
                  have hd2 : d ≤ 55 := by omega
                  have hdw : IntKind.u8.wrap (d - 48) = d - 48 := by rw [IntKind.wrap_u8]; omega
                  have hdk : d - 48 = (k : Int) := by omega
                  have HX : Hid _ := And.intro hst hdk
                  clear hst hu hzx hx1 hx2 hk ed q12 q13 hdk
                  generalize bl z = Z at *
                  go_wp2
                  exact ⟨⟨r, ((k : Int), s.2), rfl, by rw [HX.out.2], rfl, HW.out.2.1, by rw [← HX.out.1]; exact HR.out.1, trivial⟩, HW.out.1⟩
                | none =>
                  have hst := stp_s s q q12 q13 (by rw [← HW.out.2.2]; exact hu)
                  rcases ug_none hu with h3 | ⟨a, b, x, hzx, hab | ⟨hab, hx⟩⟩
                  · have hz3 : ¬ (bl z).size = 3 := by rw [bl_size]; exact h3
                    have hz3' : (((bl z).size : Int) == 3) = false := by simpa using (by omega : ¬ ((bl z).size : Int) = 3)
                    have HX : Hid _ := And.intro hst True.intro
                    clear hst hu q12 q13 h3 hz3
                    generalize bl z = Z at *
                    go_wp2
                    exact ⟨⟨r, s, rfl, rfl, rfl, HW.out.2.1, by rw [← HX.out.1]; exact HR.out.1, trivial⟩, HW.out.1⟩
                  · have hz3 : (bl z).size = 3 := by rw [bl_size, hzx]; rfl
                    have hex : (bl z).extract 0 2 = bl [a, b] := by rw [bl_ext, hzx]; rfl
                    have a4 : (bl [a, b] == (⟨#[117, 61]⟩ : ByteArray)) = false := (bl_eq [a, b] [117, 61]).trans (decide_eq_false hab)
                    have t4 := tl_litR _ _ _ a4
                    have HX : Hid _ := And.intro hst True.intro
                    clear hst hu q12 q13 hzx hab
                    generalize bl [a, b] = AB at *
                    generalize bl z = Z at *
                    go_wp2
                    exact ⟨⟨r, s, rfl, rfl, rfl, HW.out.2.1, by rw [← HX.out.1]; exact HR.out.1, trivial⟩, HW.out.1⟩
                  · have hz3 : (bl z).size = 3 := by rw [bl_size, hzx]; rfl
                    have hex : (bl z).extract 0 2 = (⟨#[117, 61]⟩ : ByteArray) := by rw [bl_ext, hzx]; show bl [a, b] = _; rw [hab]; rfl
                    have hix : ∀ u : World, (Instr.index 9 (.string (bl z)) (.int .i64 2)).run Tryd.prog u = .ok (.int .u8 (x.toNat : Int)) u := fun u => by rw [hzx]; exact ixB [a, b, x] 2 (by simp) u
                    obtain ⟨d, ed⟩ : ∃ d : Int, d = (x.toNat : Int) := ⟨_, rfl⟩
                    rw [← ed] at hix
                    have hd : d < 48 ∨ 55 < d := by omega
                    have HX : Hid _ := And.intro hst True.intro
                    clear hst hu q12 q13 hzx hab hx ed
                    generalize bl z = Z at *
                    rcases hd with hd | hd
                    · have hd1 : ¬ (48 : Int) ≤ d := by omega
                      go_wp2
                      exact ⟨⟨r, s, rfl, rfl, rfl, HW.out.2.1, by rw [← HX.out.1]; exact HR.out.1, trivial⟩, HW.out.1⟩
                    · have hd1 : (48 : Int) ≤ d := by omega
                      have hd2 : ¬ d ≤ 55 := by omega
                      go_wp2
                      exact ⟨⟨r, s, rfl, rfl, rfl, HW.out.2.1, by rw [← HX.out.1]; exact HR.out.1, trivial⟩, HW.out.1⟩
          case inr =>
            have hcn1 : ¬ (c : Int) < n := by omega
            have hcn2 : ¬ (c : Int) + 1 ≤ n := by omega
            clear hcn
            subst hr0
            have e2 : True := trivial
            go_upto_block 4 with fail
            clear e1 e2 hz hm hm0 hcl
            go_cut [7] from 38 to 47 (fun v wx => v = .string (bl (tL q)) ∧ wx = w)
            case first =>
              go_wp2_with fail
              go_loopw [7] (fun v wr' => ∃ a : List UInt8, v = .string (bl a) ∧ tL a = tL q ∧ a.length ≤ 1024 ∧ wr' = w) (fun v _ => lenS v)
              case atStart => exact ⟨q, rfl, rfl, HR.out.2.2, rfl⟩
              case round =>
                obtain ⟨a, rfl, ha, hal, hwr⟩ := hrel
                have hwr2 := hwr.symm
                clear hwr
                subst hwr2
                cases a with
                | nil =>
                  have hz : (bl ([] : List UInt8)).size = 0 := rfl
                  go_wp2
                  go_meet
                  exact ⟨by rw [← ha]; rfl, rfl⟩
                | cons x a =>
                  have hx : ∀ u : World, (Instr.index 9 (.string (bl (x :: a))) (.int .i64 0)).run Tryd.prog u = .ok (.int .u8 (x.toNat : Int)) u := fun u => ixB (x :: a) 0 (by simp) u
                  have hz : (bl (x :: a)).size = a.length + 1 := bl_size _
                  obtain ⟨d, ed⟩ : ∃ d : Int, d = (x.toNat : Int) := ⟨_, rfl⟩
                  obtain ⟨T, eT⟩ : ∃ T, T = bl (x :: a) := ⟨_, rfl⟩
                  rw [← eT, ← ed] at hx
                  rw [← eT] at hz ⊢
                  have HT : Hid _ := And.intro ha (And.intro hal (And.intro ed eT))
                  by_cases h : x = 32
                  · have hb : (d == 32) = true := by rw [ed, h]; rfl
                    have HX : Hid _ := And.intro h True.intro
                    clear ha hal ed eT h
                    go_wp2
                    have e : T.extract 1 (a.length + 1) = bl a := by rw [HT.out.2.2.2, bl_ext]; simp
                    rw [e]
                    refine ⟨⟨a, rfl, ?_, by have := HT.out.2.1; simp at this; omega, trivial⟩, ?_⟩
                    · rw [← HT.out.1, HX.out.1]; simp only [tL, if_true]
                    · simp only [lenS, bl_size, hz]; omega
                  · have hb : (d == 32) = false := by
                      have : x.toNat ≠ 32 := fun e => h (UInt8.toNat_inj.1 e)
                      simpa using (by omega : ¬ d = 32)
                    have HX : Hid _ := And.intro h True.intro
                    clear ha hal ed eT h
                    go_wp2
                    go_meet
                    refine ⟨?_, rfl⟩
                    rw [← HT.out.1]
                    simp only [tL]
                    rw [if_neg HX.out.1, ← HT.out.2.2.2]
            case rest =>
              obtain ⟨rfl, hwc⟩ := hcut
              have hwc2 := hwc.symm
              clear hwc
              subst hwc2
              have hq2 : (tL q).length ≤ 1024 := by obtain ⟨i, e⟩ := tL_dec q; have := congrArg List.length e; rw [List.length_append] at this; have := HR.out.2.2; omega
              go_upto_block 6 with fail
              go_cut [7] from 48 to 63 (fun v wx => v = .string (bl (tR (tL q))) ∧ wx = w)
              case first =>
                go_wp2_with fail
                go_loopw [7] (fun v wr' => ∃ a : List UInt8, v = .string (bl a) ∧ tR a = tR (tL q) ∧ a.length ≤ 1024 ∧ wr' = w) (fun v _ => lenS v)
                case atStart => exact ⟨tL q, rfl, rfl, hq2, rfl⟩
                case round =>
                  obtain ⟨a, rfl, ha, hal, hwr⟩ := hrel
                  have hwr2 := hwr.symm
                  clear hwr
                  subst hwr2
                  rcases (List.eq_nil_or_concat a).imp_right (fun ⟨r, x, e⟩ => (⟨r, x, by rw [e, List.concat_eq_append]⟩ : ∃ r x, a = r ++ [x])) with rfl | ⟨a', x, rfl⟩
                  · have hz : (bl ([] : List UInt8)).size = 0 := rfl
                    go_wp2
                    go_meet
                    exact ⟨by rw [← ha]; rfl, rfl⟩
                  · have hx := ixB (a' ++ [x]) a'.length (by simp)
                    rw [show (a' ++ [x])[a'.length]'(by simp) = x by simp] at hx
                    have hz : (bl (a' ++ [x])).size = a'.length + 1 := by rw [bl_size]; simp
                    have hr : a'.length < 1048576 := by simp at hal; omega
                    obtain ⟨d, ed⟩ : ∃ d : Int, d = (x.toNat : Int) := ⟨_, rfl⟩
                    obtain ⟨T, eT⟩ : ∃ T, T = bl (a' ++ [x]) := ⟨_, rfl⟩
                    rw [← eT, ← ed] at hx
                    rw [← eT] at hz ⊢
                    have HT : Hid _ := And.intro ha (And.intro hal (And.intro ed eT))
                    by_cases h : x = 32
                    · have hb : (d == 32) = true := by rw [ed, h]; rfl
                      have HX : Hid _ := And.intro h True.intro
                      clear ha hal ed eT h
                      obtain ⟨k, hk⟩ : ∃ k, k = a'.length := ⟨_, rfl⟩
                      rw [← hk] at hz hr hx
                      have HK : Hid _ := And.intro hk True.intro
                      clear hk
                      go_wp2
                      have e : T.extract 0 k = bl a' := by rw [HT.out.2.2.2, bl_ext, HK.out.1]; simp
                      rw [e]
                      refine ⟨⟨a', rfl, ?_, by have := HT.out.2.1; simp at this; omega, trivial⟩, ?_⟩
                      · rw [← HT.out.1, HX.out.1]; exact (tR_rep 1 a').symm
                      · simp only [lenS, bl_size, hz]; have := HK.out.1; omega
                    · have hb : (d == 32) = false := by
                        have : x.toNat ≠ 32 := fun e => h (UInt8.toNat_inj.1 e)
                        simpa using (by omega : ¬ d = 32)
                      have HX : Hid _ := And.intro h True.intro
                      clear ha hal ed eT h
                      obtain ⟨k, hk⟩ : ∃ k, k = a'.length := ⟨_, rfl⟩
                      rw [← hk] at hz hr hx
                      clear hk
                      go_wp2
                      go_meet
                      exact ⟨by rw [← HT.out.1, tR_last _ _ HX.out.1, ← HT.out.2.2.2], rfl⟩
              case rest =>
                obtain ⟨rfl, hwc⟩ := hcut
                have hwc2 := hwc.symm
                clear hwc
                subst hwc2
                rw [← trim_comm]
                clear hq2
                obtain ⟨z, ez⟩ : ∃ z, z = tL (tR q) := ⟨_, rfl⟩
                rw [← ez]
                have hlr : lenS (.string (bl [])) < lenS (.string S) := by simp only [lenS, bl_size]; have := HR.out.2.1; have := HZ.out.1; omega
                have hr10 : ([] : List UInt8).length ≤ 1024 := by have := HR.out.2.1; have := HZ.out.2; omega
                have a1 : (bl z == (⟨#[105]⟩ : ByteArray)) = decide (z = [105]) := bl_eq z [105]
                have a2 : (bl z == (⟨#[105, 61, 63, 49]⟩ : ByteArray)) = decide (z = [105, 61, 63, 49]) := bl_eq z [105, 61, 63, 49]
                have a3 : (bl z == (⟨#[105, 61, 63, 48]⟩ : ByteArray)) = decide (z = [105, 61, 63, 48]) := bl_eq z [105, 61, 63, 48]
                have HW : Hid _ := And.intro hlr (And.intro hr10 ez)
                clear hlr hr10 ez
                by_cases q1 : z = [105]
                · rw [decide_eq_true q1] at a1
                  have t1 := tl_litR _ _ _ a1
                  have hst := stp_i s q (by rw [← HW.out.2.2]; exact Or.inl q1)
                  have HX : Hid _ := And.intro hst True.intro
                  clear hst q1 a2 a3
                  generalize bl z = Z at *
                  go_wp2
                  exact ⟨⟨[], (s.1, true), rfl, rfl, rfl, HW.out.2.1, by rw [← HX.out.1]; exact HR.out.1, trivial⟩, HW.out.1⟩
                by_cases q2 : z = [105, 61, 63, 49]
                · rw [decide_eq_false q1] at a1
                  rw [decide_eq_true q2] at a2
                  have t1 := tl_litR _ _ _ a1
                  have t2 := tl_litR _ _ _ a2
                  have hst := stp_i s q (by rw [← HW.out.2.2]; exact Or.inr q2)
                  have HX : Hid _ := And.intro hst True.intro
                  clear hst q1 q2 a3
                  generalize bl z = Z at *
                  go_wp2
                  exact ⟨⟨[], (s.1, true), rfl, rfl, rfl, HW.out.2.1, by rw [← HX.out.1]; exact HR.out.1, trivial⟩, HW.out.1⟩
                rw [decide_eq_false q1] at a1
                rw [decide_eq_false q2] at a2
                have t1 := tl_litR _ _ _ a1
                have t2 := tl_litR _ _ _ a2
                have q12 : ¬ (tL (tR q) = [105] ∨ tL (tR q) = [105, 61, 63, 49]) := by rw [← HW.out.2.2]; exact fun h => h.elim q1 q2
                by_cases q3 : z = [105, 61, 63, 48]
                · rw [decide_eq_true q3] at a3
                  have t3 := tl_litR _ _ _ a3
                  have hst := stp_n s q q12 (by rw [← HW.out.2.2]; exact q3)
                  have HX : Hid _ := And.intro hst True.intro
                  clear hst q1 q2 q3 q12
                  generalize bl z = Z at *
                  go_wp2
                  exact ⟨⟨[], (s.1, false), rfl, rfl, rfl, HW.out.2.1, by rw [← HX.out.1]; exact HR.out.1, trivial⟩, HW.out.1⟩
                rw [decide_eq_false q3] at a3
                have t3 := tl_litR _ _ _ a3
                have q13 : ¬ tL (tR q) = [105, 61, 63, 48] := by rw [← HW.out.2.2]; exact q3
                clear q1 q2 q3
                cases hu : ug z with
                | some k =>
                  have hst := stp_u s q k q12 q13 (by rw [← HW.out.2.2]; exact hu)
                  obtain ⟨x, hzx, hx1, hx2, hk⟩ := ug_some hu
                  have hz3 : (bl z).size = 3 := by rw [bl_size, hzx]; rfl
                  have hex : (bl z).extract 0 2 = (⟨#[117, 61]⟩ : ByteArray) := by rw [bl_ext, hzx]; rfl
                  have hix : ∀ u : World, (Instr.index 9 (.string (bl z)) (.int .i64 2)).run Tryd.prog u = .ok (.int .u8 (x.toNat : Int)) u := fun u => by rw [hzx]; exact ixB [117, 61, x] 2 (by simp) u
                  obtain ⟨d, ed⟩ : ∃ d : Int, d = (x.toNat : Int) := ⟨_, rfl⟩
                  rw [← ed] at hix
                  have hd1 : (48 : Int) ≤ d := by omega
                  have hd2 : d ≤ 55 := by omega
                  have hdw : IntKind.u8.wrap (d - 48) = d - 48 := by rw [IntKind.wrap_u8]; omega
                  have hdk : d - 48 = (k : Int) := by omega
                  have HX : Hid _ := And.intro hst hdk
                  clear hst hu hzx hx1 hx2 hk ed q12 q13 hdk
                  generalize bl z = Z at *
                  go_wp2
                  exact ⟨⟨[], ((k : Int), s.2), rfl, by rw [HX.out.2], rfl, HW.out.2.1, by rw [← HX.out.1]; exact HR.out.1, trivial⟩, HW.out.1⟩
                | none =>
                  have hst := stp_s s q q12 q13 (by rw [← HW.out.2.2]; exact hu)
                  rcases ug_none hu with h3 | ⟨a, b, x, hzx, hab | ⟨hab, hx⟩⟩
                  · have hz3 : ¬ (bl z).size = 3 := by rw [bl_size]; exact h3
                    have hz3' : (((bl z).size : Int) == 3) = false := by simpa using (by omega : ¬ ((bl z).size : Int) = 3)
                    have HX : Hid _ := And.intro hst True.intro
                    clear hst hu q12 q13 h3 hz3
                    generalize bl z = Z at *
                    go_wp2
                    exact ⟨⟨[], s, rfl, rfl, rfl, HW.out.2.1, by rw [← HX.out.1]; exact HR.out.1, trivial⟩, HW.out.1⟩
                  · have hz3 : (bl z).size = 3 := by rw [bl_size, hzx]; rfl
                    have hex : (bl z).extract 0 2 = bl [a, b] := by rw [bl_ext, hzx]; rfl
                    have a4 : (bl [a, b] == (⟨#[117, 61]⟩ : ByteArray)) = false := (bl_eq [a, b] [117, 61]).trans (decide_eq_false hab)
                    have t4 := tl_litR _ _ _ a4
                    have HX : Hid _ := And.intro hst True.intro
                    clear hst hu q12 q13 hzx hab
                    generalize bl [a, b] = AB at *
                    generalize bl z = Z at *
                    go_wp2
                    exact ⟨⟨[], s, rfl, rfl, rfl, HW.out.2.1, by rw [← HX.out.1]; exact HR.out.1, trivial⟩, HW.out.1⟩
                  · have hz3 : (bl z).size = 3 := by rw [bl_size, hzx]; rfl
                    have hex : (bl z).extract 0 2 = (⟨#[117, 61]⟩ : ByteArray) := by rw [bl_ext, hzx]; show bl [a, b] = _; rw [hab]; rfl
                    have hix : ∀ u : World, (Instr.index 9 (.string (bl z)) (.int .i64 2)).run Tryd.prog u = .ok (.int .u8 (x.toNat : Int)) u := fun u => by rw [hzx]; exact ixB [a, b, x] 2 (by simp) u
                    obtain ⟨d, ed⟩ : ∃ d : Int, d = (x.toNat : Int) := ⟨_, rfl⟩
                    rw [← ed] at hix
                    have hd : d < 48 ∨ 55 < d := by omega
                    have HX : Hid _ := And.intro hst True.intro
                    clear hst hu q12 q13 hzx hab hx ed
                    generalize bl z = Z at *
                    rcases hd with hd | hd
                    · have hd1 : ¬ (48 : Int) ≤ d := by omega
                      go_wp2
                      exact ⟨⟨[], s, rfl, rfl, rfl, HW.out.2.1, by rw [← HX.out.1]; exact HR.out.1, trivial⟩, HW.out.1⟩
                    · have hd1 : (48 : Int) ≤ d := by omega
                      have hd2 : ¬ d ≤ 55 := by omega
                      go_wp2
                      exact ⟨⟨[], s, rfl, rfl, rfl, HW.out.2.1, by rw [← HX.out.1]; exact HR.out.1, trivial⟩, HW.out.1⟩
end Go.Proofs.YtpbkigmcbgbfgaaDoor
