import Derived.Test.YtdhkcejfcmobcaaDoorRyB
import Derived.Test.YtdhkcejfcmobcaaDoorQpD
namespace Go.Proofs.YtdhkcejfcmobcaaDoor
open Go.RowKit
set_option linter.unusedVariables false

theorem cloT (a : ByteArray) (p : Value) (w : World) (h : (a == stN) = true) : Calls Tryd.prog 31 #[.string a, p] w fun e w' => e = .returned p ∧ w' = w := by
  have r0 : (a != stN) = false := bne_beqQ h
  have t0 : (a.toList == [58, 115, 116, 97, 116, 117, 115]) = true := tl_litQ a _ _ h
  clear h
  go_enter Tryd.func31, Tryd.ntmps31
  go_wp2
  go_ret
  exact ⟨rfl, rfl⟩
theorem cloF (a : ByteArray) (p : Value) (w : World) (h : (a == stN) = false) : Calls Tryd.prog 31 #[.string a, p] w fun e w' => e = .returned (.pointer none) ∧ w' = w := by
  have r0 : (a != stN) = true := bne_beqQ h
  have t0 : (a.toList == [58, 115, 116, 97, 116, 117, 115]) = false := tl_litQ a _ _ h
  clear h
  go_enter Tryd.func31, Tryd.ntmps31
  go_wp2
  go_ret
  exact ⟨rfl, rfl⟩
theorem empT (c : ByteArray) (h : c.size = 0) : c.toList.isEmpty = true := by
  rw [ByteArray.toList_eq, List.isEmpty_iff]
  exact List.eq_nil_of_length_eq_zero (by rw [Array.length_toList]; have q2 : c.size = c.data.size := rfl; omega)
theorem empF (c : ByteArray) (h : 0 < c.size) : c.toList.isEmpty = false := by
  rw [ByteArray.toList_eq, List.isEmpty_eq_false_iff]
  intro q
  have q3 : c.data.toList.length = 0 := by rw [q]; rfl
  rw [Array.length_toList] at q3
  have q2 : c.size = c.data.size := rfl
  omega
theorem roC_hd {L : List SField} (h : hdN L ≠ 1) : roC L = false := by unfold roC; rw [decide_eq_false h]; rfl
theorem roC_nm {L : List SField} (h : ((L.getD 0 default).f0 == stN) = false) : roC L = false := by unfold roC; rw [h]; simp
theorem roC_sp {L : List SField} (h : spl (L.getD 0 default).f1 3 48 57 = false) : roC L = false := by unfold roC; rw [h]; simp
theorem spl_emp (c : ByteArray) (h : c.size = 0) (m lo hi : Int) : spl c m lo hi = false := by unfold spl; simp; intro q; omega
/-- What stands behind the fields at the front, and what they tell. -/
def LdP (g : Nat) (L : List SField) (w w' : World) (e : Ending) : Prop :=
  ∃ (t : ByteArray) (beh : Value) (ok : Bool), e = .returned (.tuple #[beh, .bool ok]) ∧ w'.heap[g]? = some (.cells #[.string t] 9 (0, 0)) ∧ t.size ≤ 9223372036854775807 ∧ Below g w w' ∧
    (ok = false → roC L = false) ∧ (ok = true → spl t 3 48 57 = false → roC L = false) ∧
    (ok = true → spl t 3 48 57 = true → hdN L = 1 ∧ ((L.getD 0 default).f0 == stN) = true ∧ t = (L.getD 0 default).f1 ∧ GRow 2 w' beh (SField.L (L.drop 1)))
theorem hd_zero {L : List SField} (h : 0 < L.length) (q : isH (L.getD 0 default) = false) : hdN L = 0 := hd_of L 0 (by omega) (fun j hj => by omega) (fun _ => q)
theorem hd_one {L : List SField} (h : 0 < L.length) (q : isH (L.getD 0 default) = true) (q1 : 1 < L.length → isH (L.getD 1 default) = false) : hdN L = 1 :=
  hd_of L 1 (by omega) (fun j hj => by obtain rfl : j = 0 := (by omega); exact q) q1
theorem hd_two {L : List SField} (h : 1 < L.length) (q : isH (L.getD 0 default) = true) (q1 : isH (L.getD 1 default) = true) : hdN L ≠ 1 := by
  match L, h with
  | x :: y :: r, _ =>
    have e0 : isH x = true := q
    have e1 : isH y = true := q1
    simp [hdN, List.takeWhile, e0, e1]
set_option maxRecDepth 20000 in
set_option maxHeartbeats 8000000 in
theorem ldI (g : Nat) (v : Value) (base : Nat) (L : List SField) (w : World) (ow : GOwns 45 2 w base v (SField.L L)) (hR : L.length ≤ 1048576) (hf : fin L) (hvg : ∀ k, v.ownBlock = some k → k < g) (kg : w.heap[g]? = some (.cells #[.string ⟨#[]⟩] 9 (0, 0))) :
    Calls Tryd.prog 30 #[v, .func (.func 31) #[] #[.pointer (some ⟨g, 0, none⟩)]] w fun e w' => LdP g L w w' e := by
  have h := ow.row
  have hgl : g < w.heap.size := (Array.getElem?_eq_some_iff.1 kg).1
  have tg : w.cell? ⟨g, 0, none⟩ = some (.string ⟨#[]⟩) := by rw [bk_cell kg]; rfl
  have fg : w.frozen? ⟨g, 0, none⟩ = false := bk_free kg 0
  by_cases h0 : ¬ 0 < L.length
  · have hL : L = [] := List.eq_nil_of_length_eq_zero (by omega)
    obtain ⟨ao, cp, rfl⟩ := frow_form h
    have HF : Hid _ := And.intro kg (roC_hd (L := L) (by rw [hL]; decide))
    rw [show L.length = 0 by omega]
    clear h ow hR hf hvg kg hL h0 tg fg
    go_enter Tryd.func30, Tryd.ntmps30
    go_wp2_with fail
    refine wp_loop_rounds 1 ?_
    rw [rounds_succ]
    go_wp2
    (try simp only [Exit.inBlock, Exit.then])
    refine bodyPost_ret (results_tmp2 rfl _ _ _) rfl ?_
    exact ⟨⟨#[]⟩, _, true, rfl, HF.out.1, (by decide), Below.refl _ _, (fun q => by cases q), (fun _ _ => HF.out.2), (fun _ q => by rw [spl_emp _ rfl] at q; cases q)⟩
  have h0' : 0 < L.length := by omega
  obtain ⟨b, off, cap, rfl, hb, hc⟩ := frow_at h h0'
  have hbg : b < g := hvg b rfl
  have hncap : L.length ≤ cap := by
    rcases ow.cellsFQ.2 with ⟨q, _⟩ | ⟨g', cap', cur, q, _, _, q2, _⟩
    · cases q
    · cases q; omega
  have C0 : w.cell? ⟨b, off, none⟩ = some (.string (L.getD 0 default).f0) := hc 0 h0' 0 (by omega)
  have C1 : w.cell? ⟨b, off + 1, none⟩ = some (.string (L.getD 0 default).f1) := hc 0 h0' 1 (by omega)
  have z0 := (hf 0 h0').1
  have z1 := (hf 0 h0').2
  have CP : ∀ u, _ := fun u => pre58 (L.getD 0 default).f0 u z0
  have hH : isH (L.getD 0 default) = decide (1 ≤ (L.getD 0 default).f0.size ∧ bt (L.getD 0 default).f0 0 = 58) := rfl
  have Q0 : isH (L.getD 0 default) = false → roC L = false := fun q => roC_hd (by rw [hd_zero h0' q]; decide)
  have Q1 : ((L.getD 0 default).f0 == stN) = false → roC L = false := roC_nm
  have Q2 : spl (L.getD 0 default).f1 3 48 57 = false → roC L = false := roC_sp
  have Q3 : isH (L.getD 0 default) = true → L.length = 1 → ((L.getD 0 default).f0 == stN) = true → ∀ u : World, hdN L = 1 ∧ ((L.getD 0 default).f0 == stN) = true ∧ (L.getD 0 default).f1 = (L.getD 0 default).f1 ∧ GRow 2 u (.slice none 0 0) (SField.L (L.drop 1)) := fun q e s u => ⟨hd_one h0' q (fun r => by omega), s, rfl, Or.inl ⟨by rw [show L.drop 1 = [] from List.drop_eq_nil_of_le (by omega)]; rfl, none, 0, rfl⟩⟩
  have Q4 : isH (L.getD 0 default) = true → ∀ hl : 1 < L.length, isH (L.getD 1 default) = true → roC L = false := fun q hl q1 => roC_hd (hd_two hl q q1)
  have Q5 : isH (L.getD 0 default) = true → 1 < L.length → isH (L.getD 1 default) = false → ((L.getD 0 default).f0 == stN) = true → ∀ u : World, Below g w u → hdN L = 1 ∧ ((L.getD 0 default).f0 == stN) = true ∧ (L.getD 0 default).f1 = (L.getD 0 default).f1 ∧ GRow 2 u (.slice (some ⟨b, off + 2, none⟩) (L.length - 1) (cap - 1)) (SField.L (L.drop 1)) := fun q hl q1 s u hu => by
    refine ⟨hd_one h0' q (fun _ => q1), s, rfl, Or.inr ⟨b, off + 2, cap - 1, by simp, Nat.lt_of_lt_of_le hb hu.size, fun j hj f hf2 => ?_⟩⟩
    rw [List.length_map, List.length_drop] at hj
    have qc := hc (j + 1) (by omega) f hf2
    rw [SField.at (L.drop 1) j (by rw [List.length_drop]; exact hj)]
    rw [show (L.drop 1).getD j default = L.getD (j + 1) default by simp [List.getD]]
    rw [← qc, show off + 2 + (j * 2 + f) = off + ((j + 1) * 2 + f) by omega]
    exact hu.cell (p := ⟨b, off + ((j + 1) * 2 + f), none⟩) hbg
  have R1 : ∀ hl : 1 < L.length, (∀ u : World, Below g w u → u.cell? ⟨b, off + 2, none⟩ = some (.string (L.getD 1 default).f0) ∧ u.cell? ⟨b, off + 2 + 1, none⟩ = some (.string (L.getD 1 default).f1)) ∧ (∀ u, Calls Tryd.prog 39 #[.string (L.getD 1 default).f0, .string ⟨#[58]⟩] u fun e w' => e = .returned (.bool (isH (L.getD 1 default))) ∧ w' = u) := fun hl => ⟨fun u hu => ⟨(hu.cell (p := ⟨b, off + 2, none⟩) hbg).trans (hc 1 hl 0 (by omega)), (hu.cell (p := ⟨b, off + 2 + 1, none⟩) hbg).trans (hc 1 hl 1 (by omega))⟩, fun u => pre58 (L.getD 1 default).f0 u (hf 1 hl).1⟩
  rw [← hH] at CP
  obtain ⟨F, eF⟩ : ∃ F, F = L.getD 0 default := ⟨_, rfl⟩
  obtain ⟨F1, eF1⟩ : ∃ F1, F1 = L.getD 1 default := ⟨_, rfl⟩
  rw [← eF] at C0 C1 CP Q0 Q1 Q2 Q3 Q4 Q5 z1
  rw [← eF1] at Q4 Q5 R1
  obtain ⟨J, eJ⟩ : ∃ J, J = isH F := ⟨_, rfl⟩
  obtain ⟨J1, eJ1⟩ : ∃ J1, J1 = isH F1 := ⟨_, rfl⟩
  rw [← eJ] at CP Q0 Q3 Q4 Q5
  rw [← eJ1] at Q4 Q5 R1
  obtain ⟨a, c⟩ := F
  obtain ⟨a2, c2⟩ := F1
  simp only at C0 C1 CP Q1 Q2 Q3 Q5 R1 z1
  obtain ⟨n, en⟩ : ∃ n, n = L.length := ⟨_, rfl⟩
  have hn1 : (0 : Int) < (n : Int) := by omega
  have hn0 : 0 < n := by omega
  have hcn : n ≤ cap := by omega
  have hnm : n ≤ 1048576 := by omega
  rw [← en] at Q3 Q4 Q5 R1 ⊢
  have E0 : (⟨a, c⟩ : SField) = L.getD 0 default := eF
  have bW : Below w.heap.size w (w.alloc (.cells #[.string a, .string c] 45)) := (Below.refl _ _).alloc (Nat.le_refl _) _
  have tg1 : (w.alloc (.cells #[.string a, .string c] 45)).cell? ⟨g, 0, none⟩ = some (.string ⟨#[]⟩) := (bW.cell (p := ⟨g, 0, none⟩) hgl).trans tg
  have kg1 : (w.alloc (.cells #[.string a, .string c] 45)).heap[g]? = some (.cells #[.string ⟨#[]⟩] 9 (0, 0)) := (bW.block _ hgl).trans kg
  have fg1 : (w.alloc (.cells #[.string a, .string c] 45)).frozen? ⟨g, 0, none⟩ = false := bk_free kg1 0
  have hne : w.heap.size ≠ g := by omega
  have k3 : ((w.setCell ⟨g, 0, none⟩ (.string c)).alloc (.cells #[.string a, .string c] 45)).heap[g]? = some (.cells #[.string c] 9 (0, 0)) := (((Below.refl (w.setCell ⟨g, 0, none⟩ (.string c)).heap.size (w.setCell ⟨g, 0, none⟩ (.string c))).alloc (Nat.le_refl _) (.cells #[.string a, .string c] 45)).block _ (by simpa [World.setCell] using hgl)).trans ((bk_set kg 0 _).trans rfl)
  have b3 : Below g w ((w.setCell ⟨g, 0, none⟩ (.string c)).alloc (.cells #[.string a, .string c] 45)) := ((Below.refl g w).setCell (Nat.le_refl g) _).alloc (by simpa [World.setCell] using Nat.le_of_lt hgl) _
  have l3 : g < ((w.setCell ⟨g, 0, none⟩ (.string c)).alloc (.cells #[.string a, .string c] 45)).heap.size := (Array.getElem?_eq_some_iff.1 k3).1
  have k4 : (((w.setCell ⟨g, 0, none⟩ (.string c)).alloc (.cells #[.string a, .string c] 45)).alloc (.cells #[.string a2, .string c2] 45)).heap[g]? = some (.cells #[.string c] 9 (0, 0)) := (((Below.refl ((w.setCell ⟨g, 0, none⟩ (.string c)).alloc (.cells #[.string a, .string c] 45)).heap.size ((w.setCell ⟨g, 0, none⟩ (.string c)).alloc (.cells #[.string a, .string c] 45))).alloc (Nat.le_refl _) (.cells #[.string a2, .string c2] 45)).block _ l3).trans k3
  have b4 : Below g w (((w.setCell ⟨g, 0, none⟩ (.string c)).alloc (.cells #[.string a, .string c] 45)).alloc (.cells #[.string a2, .string c2] 45)) := b3.alloc (Nat.le_of_lt l3) _
  have H3 : Hid _ := And.intro k3 (And.intro b3 (And.intro k4 b4))
  have HH : Hid _ := And.intro CP (And.intro Q0 (And.intro Q1 (And.intro Q2 (And.intro Q3 (And.intro Q4 (And.intro Q5 R1))))))
  have HK : Hid _ := And.intro kg1 (And.intro (bW.mono (Nat.le_of_lt hgl)) (And.intro E0 z1))
  clear CP Q0 Q1 Q2 Q3 Q4 Q5 R1 kg kg1 bW E0 h ow hf hvg hc hb hncap h0 h0' hR eF eF1 eJ eJ1 en hH z0 z1 tg fg k3 b3 l3 k4 b4
  go_enter Tryd.func30, Tryd.ntmps30
  go_wp2_with fail
  refine wp_loop_rounds 3 ?_
  rw [rounds_succ]
  go_wp2_with fail
  go_at_call 39
  refine (HH.out.1 _).mono ?_
  rintro e w1 ⟨rfl, hw1⟩
  subst hw1
  cases J with
  | false =>
    go_wp2
    (try simp only [Exit.inBlock, Exit.then])
    refine bodyPost_ret (results_tmp2 rfl _ _ _) rfl ?_
    exact ⟨⟨#[]⟩, _, true, rfl, HK.out.1, (by decide), HK.out.2.1, (fun q => by cases q), (fun _ _ => HH.out.2.1 (by first | rfl | trivial)), (fun _ q => by rw [spl_emp _ rfl] at q; cases q)⟩
  | true =>
    go_wp2_with fail
    go_at_call 31
    cases hq : (a == stN) with
    | false =>
      refine (cloF a _ _ hq).mono ?_
      rintro e w2 ⟨rfl, hw2⟩
      subst hw2
      have HQ : Hid _ := hq
      clear hq
      go_wp2
      (try simp only [Exit.inBlock, Exit.then])
      refine bodyPost_ret (results_tmp2 rfl _ _ _) rfl ?_
      exact ⟨⟨#[]⟩, _, false, rfl, HK.out.1, (by decide), HK.out.2.1, (fun _ => HH.out.2.2.1 HQ.out), (fun q => by cases q), (fun q => by cases q)⟩
    | true =>
      refine (cloT a _ _ hq).mono ?_
      rintro e w2 ⟨rfl, hw2⟩
      subst hw2
      have HQ : Hid _ := hq
      clear hq
      by_cases hz : c.size = 0
      · have hz2 := empT c hz
        have HZ : Hid _ := hz
        clear hz
        go_wp2
        (try simp only [Exit.inBlock, Exit.then])
        refine bodyPost_ret (results_tmp2 rfl _ _ _) rfl ?_
        exact ⟨⟨#[]⟩, _, false, rfl, HK.out.1, (by decide), HK.out.2.1, (fun _ => HH.out.2.2.2.1 (spl_emp c HZ.out _ _ _)), (fun q => by cases q), (fun q => by cases q)⟩
      · have hz2 := empF c (by omega)
        clear hz
        by_cases hl : 1 < n
        · have hl' : (1 : Int) < (n : Int) := by omega
          have hcap1 : cap ≠ 1 := by omega
          obtain ⟨rc, rp⟩ := HH.out.2.2.2.2.2.2.2 hl
          have HRP : Hid _ := And.intro rc rp
          clear rc rp
          obtain ⟨d0, d1⟩ := HRP.out.1 _ H3.out.2.1
          have tg4 : (((w.setCell ⟨g, 0, none⟩ (.string c)).alloc (.cells #[.string a, .string c] 45)).alloc (.cells #[.string a2, .string c2] 45)).cell? ⟨g, 0, none⟩ = some (.string c) := by rw [bk_cell H3.out.2.2.1]; rfl
          go_wp2_with fail
          rw [rounds_succ]
          go_wp2_with fail
          go_at_call 39
          refine (HRP.out.2 _).mono ?_
          rintro e w3 ⟨rfl, hw3⟩
          subst hw3
          cases J1 with
          | false =>
            go_wp2
            (try simp only [Exit.inBlock, Exit.then])
            refine bodyPost_ret (results_tmp2 rfl _ _ _) rfl ?_
            exact ⟨c, _, true, rfl, H3.out.2.2.1, HK.out.2.2.2, H3.out.2.2.2, (fun q => by cases q), (fun _ q => HH.out.2.2.2.1 q), (fun _ _ => by have q := HH.out.2.2.2.2.2.2.1 (by first | rfl | trivial) hl (by first | rfl | trivial) HQ.out _ H3.out.2.2.2; rw [← HK.out.2.2.1]; exact ⟨q.1, q.2.1, rfl, q.2.2.2⟩)⟩
          | true =>
            go_wp2_with fail
            go_at_call 31
            cases hq2 : (a2 == stN) with
            | false =>
              refine (cloF a2 _ _ hq2).mono ?_
              rintro e w4 ⟨rfl, hw4⟩
              subst hw4
              clear hq2
              go_wp2
              (try simp only [Exit.inBlock, Exit.then])
              refine bodyPost_ret (results_tmp2 rfl _ _ _) rfl ?_
              exact ⟨c, _, false, rfl, H3.out.2.2.1, HK.out.2.2.2, H3.out.2.2.2, (fun _ => HH.out.2.2.2.2.2.1 (by first | rfl | trivial) hl (by first | rfl | trivial)), (fun q => by cases q), (fun q => by cases q)⟩
            | true =>
              refine (cloT a2 _ _ hq2).mono ?_
              rintro e w4 ⟨rfl, hw4⟩
              subst hw4
              clear hq2
              go_wp2
              (try simp only [Exit.inBlock, Exit.then])
              refine bodyPost_ret (results_tmp2 rfl _ _ _) rfl ?_
              exact ⟨c, _, false, rfl, H3.out.2.2.1, HK.out.2.2.2, H3.out.2.2.2, (fun _ => HH.out.2.2.2.2.2.1 (by first | rfl | trivial) hl (by first | rfl | trivial)), (fun q => by cases q), (fun q => by cases q)⟩
        · have hl1 : n = 1 := by omega
          subst hl1
          go_wp2_with fail
          rw [rounds_succ]
          go_wp2
          (try simp only [Exit.inBlock, Exit.then])
          refine bodyPost_ret (results_tmp2 rfl _ _ _) rfl ?_
          exact ⟨c, _, true, rfl, H3.out.1, HK.out.2.2.2, H3.out.2.1, (fun q => by cases q), (fun _ q => HH.out.2.2.2.1 q), (fun _ _ => by have q := HH.out.2.2.2.2.1 (by first | rfl | trivial) (by first | rfl | trivial) HQ.out ((w.setCell ⟨g, 0, none⟩ (.string c)).alloc (.cells #[.string a, .string c] 45)); rw [← HK.out.2.2.1]; exact ⟨q.1, q.2.1, rfl, q.2.2.2⟩)⟩
end Go.Proofs.YtdhkcejfcmobcaaDoor
