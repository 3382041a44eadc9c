import Derived.Test.YtohooehbjbhhhaaDoorRhC
namespace Go.Proofs.YtohooehbjbhhhaaDoor
open Go.RowKit
set_option linter.unusedVariables false

set_option maxRecDepth 20000 in
set_option maxHeartbeats 2000000 in
theorem pay_n (fb g : Nat) (k : Int) (ao : Option Addr) (n cap : Nat) (ys : List Int) (w : World) (ht : Tab w) (hf : fB w fb k 0 (.slice none 0 0) (.slice none 0 0)) (hr : rdB w g (.slice ao n cap) 0) (hl : Pay w ao n cap ys) (hB : Bytes ys) (hg : Off ao (SG g fb)) (hne : fb ≠ g) (hn : n ≤ 65536) (h7 : k = 7 ∨ k = 15) (hv : varOK ys 0) (hTg : 1 ≠ g) (hTf : 1 ≠ fb) :
    Calls Tryd.prog 21 #[.pointer (some ⟨fb, 0, none⟩), .pointer (some ⟨g, 0, none⟩)] w fun e w' => e = .returned (.tuple #[]) ∧ Chg (SG g fb) w w' ∧ PayR w w' fb k ⟨k, varV ys 0, ys.drop (varN ys 0), []⟩ := by
  have c0 := hf.c0
  obtain ⟨sn, ss⟩ := sh_n k h7
  have SH := shapeI k w
  rw [sn, ss] at SH
  generalize shD k = D at SH
  have hvN := varN_bd ys 0 hv
  have hlen := hl.len
  have hvb := varV_bd ys 0
  have VR : ∀ u : World, Tab u → rdB u g (.slice ao n cap) 0 → Pay u ao n cap ys → _ := fun u h0 h1 h2 => varP g ao n cap 0 ys u h0 h1 h2 hB hn hv
  have TK : ∀ u : World, rdB u g (.slice ao n cap) ((varN ys 0 : Nat) : Int) → Pay u ao n cap ys → _ := fun u h1 h2 => takeP g ao n cap (varN ys 0) ys u h1 h2 (fun b off e hb => hg b off e (Or.inl hb)) hn (by omega)
  have hpn : varN ys 0 ≤ n := by omega
  generalize varV ys 0 = V at *
  generalize varN ys 0 = P at *
  have HH : Hid _ := And.intro SH (And.intro TK (And.intro hf (And.intro hr (And.intro hl (And.intro hg (And.intro hne (And.intro VR ht)))))))
  have hsn : n ≤ 9223372036854775807 := by omega
  have hfs := hf.lt
  clear SH TK VR sn ss hf hr hl hg h7 hn hB hv hvN hlen hvb ht
  go_enter Tryd.func21, Tryd.ntmps21
  go_wp2_with fail
  go_at_call 36
  refine HH.out.1.mono ?_
  rintro e w1 ⟨rfl, b1⟩
  obtain ⟨w1', ew1⟩ : ∃ u, u = w1.alloc (.cells #[.bool true, .int .i64 D, .int .i64 0] 63) := ⟨_, rfl⟩
  have bb : Below w.heap.size w w1' := by rw [ew1]; exact b1.alloc b1.size _
  have ks : w1'.heap[w1.heap.size]? = some (.cells #[.bool true, .int .i64 D, .int .i64 0] 63 (0, 0)) := by rw [ew1]; exact heap_alloc_new w1 _
  have V1 := HH.out.2.2.2.2.2.2.2.1 w1' (HH.out.2.2.2.2.2.2.2.2.below bb HH.out.2.2.2.2.2.2.2.2.lt) (HH.out.2.2.2.1.below bb) (HH.out.2.2.2.2.1.chg (Chg.of_below bb) HH.out.2.2.2.2.2.1)
  have H1 : Hid _ := And.intro bb (And.intro ks b1.size)
  rw [ew1] at V1 H1
  clear bb ks b1 ew1
  go_wp2_with fail
  go_at_call 18
  refine V1.mono ?_
  rintro e w2 ⟨rfl, r2, c2⟩
  have hz : w.heap.size ≤ w1.heap.size := H1.out.2.2
  have F2 : fB w2 fb k 0 (.slice none 0 0) (.slice none 0 0) := (HH.out.2.2.1.chg (S := fun _ => False) (Chg.of_below H1.out.1) (fun h => h)).chg c2 HH.out.2.2.2.2.2.2.1
  have hgl := HH.out.2.2.2.1.lt
  have k2 : w2.heap[w1.heap.size]? = some (.cells #[.bool true, .int .i64 D, .int .i64 0] 63 (0, 0)) := (c2.block w1.heap.size (Array.getElem?_eq_some_iff.1 H1.out.2.1).1 (fun e => by omega)).trans H1.out.2.1
  have f21 := F2.c1
  have fr21 := F2.fr 1
  have k3 : (w2.setCell ⟨fb, 1, none⟩ (.int .i64 V)).heap[w1.heap.size]? = some (.cells #[.bool true, .int .i64 D, .int .i64 0] 63 (0, 0)) := (bk_other (by omega) 1 _).trans k2
  have s2 := bk_cell k3 2
  simp at s2
  have R3 : rdB (w2.setCell ⟨fb, 1, none⟩ (.int .i64 V)) g (.slice ao n cap) (P : Int) := r2.other HH.out.2.2.2.2.2.2.1
  have C3 : Chg (SG g fb) w (w2.setCell ⟨fb, 1, none⟩ (.int .i64 V)) := ((Chg.of_below H1.out.1).trans (c2.mono fun q hq => Or.inl hq)).set fb 1 _ (Or.inr rfl)
  have F3 := F2.set1 V
  have H2 : Hid _ := And.intro R3 (And.intro C3 F3)
  clear r2 c2 F2 k2 k3 R3 C3 F3 V1 H1
  go_wp2_with fail
  refine wp_loop_rounds 1 ?_
  rw [rounds_succ]
  have RS := restC g ao n cap (P : Int) _ H2.out.1 ⟨by omega, by omega⟩ hsn
  go_wp2_with fail
  go_at_call 35
  refine RS.mono ?_
  rintro e w3 ⟨rfl, hw3⟩
  subst hw3
  have T2 := HH.out.2.1 (w2.setCell ⟨fb, 1, none⟩ (.int .i64 V)).drew H2.out.1 (HH.out.2.2.2.2.1.chg H2.out.2.1.drew HH.out.2.2.2.2.2.1)
  go_wp2_with fail
  go_at_call 20
  refine T2.mono ?_
  rintro e w4 ⟨v, rfl, o4, c4⟩
  obtain ⟨va, vc, ev⟩ := (row_of_owns o4).form
  obtain ⟨m, em⟩ : ∃ m, m = (ys.drop P).length := ⟨_, rfl⟩
  rw [← em] at ev
  clear em
  have C4 : Chg (SG g fb) w w4 := H2.out.2.1.drew.trans (c4.mono fun q hq => Or.inl hq)
  have F4 : fB w4 fb k V (.slice none 0 0) (.slice none 0 0) := (show fB (w2.setCell ⟨fb, 1, none⟩ (.int .i64 V)).drew fb k V (.slice none 0 0) (.slice none 0 0) from H2.out.2.2).chg c4 HH.out.2.2.2.2.2.2.1
  have hf2 := F4.c2
  have fr2 := F4.fr 2
  subst ev
  have H4 : Hid _ := And.intro C4 (And.intro F4 (owns_mono o4 (show w.heap.size ≤ _ from H2.out.2.1.size)))
  clear C4 F4 o4 c4 RS T2
  go_wp2
  go_end0
  refine ⟨rfl, H4.out.1.set fb 2 _ (Or.inr rfl), _, _, H4.out.2.1.set2 _, ?_, GOwns.nil _ _ _ _, fun j _ e => by cases e⟩
  exact (Only.setCell (w := w4) ⟨fb, 2, none⟩ _).owns H4.out.2.2 (fun q hq e => by have h1 := (H4.out.2.2.lt q hq).1; have e' : q = fb := Option.some.inj e; omega)
set_option maxRecDepth 20000 in
set_option maxHeartbeats 2000000 in
theorem pay_nn (fb g : Nat) (k : Int) (ao : Option Addr) (n cap : Nat) (ys : List Int) (w : World) (ht : Tab w) (hf : fB w fb k 0 (.slice none 0 0) (.slice none 0 0)) (hr : rdB w g (.slice ao n cap) 0) (hl : Pay w ao n cap ys) (hB : Bytes ys) (hg : Off ao (SG g fb)) (hn : n ≤ 65536) (h7 : k = 7 ∨ k = 15) (hv : ¬ varOK ys 0) :
    Calls Tryd.prog 21 #[.pointer (some ⟨fb, 0, none⟩), .pointer (some ⟨g, 0, none⟩)] w fun e w' => e = .panicked [leftP 2] ∧ Chg (SG g fb) w w' := by
  have c0 := hf.c0
  obtain ⟨sn, ss⟩ := sh_n k h7
  have SH := shapeI k w
  rw [sn, ss] at SH
  generalize shD k = D at SH
  have VR : ∀ u : World, Tab u → rdB u g (.slice ao n cap) 0 → Pay u ao n cap ys → _ := fun u h0 h1 h2 => varPn g ao n cap 0 ys u h0 h1 h2 hB hn (by omega) hv
  have HH : Hid _ := And.intro SH (And.intro VR (And.intro hr (And.intro hl (And.intro hg ht))))
  clear SH VR sn ss hf hr hl hg h7 hn hB hv ht
  go_enter Tryd.func21, Tryd.ntmps21
  go_wp2_with fail
  go_at_call 36
  refine HH.out.1.mono ?_
  rintro e w1 ⟨rfl, b1⟩
  have bb : Below w.heap.size w (w1.alloc (.cells #[.bool true, .int .i64 D, .int .i64 0] 63)) := b1.alloc b1.size _
  have V1 := HH.out.2.1 _ (HH.out.2.2.2.2.2.below bb HH.out.2.2.2.2.2.lt) (HH.out.2.2.1.below bb) (HH.out.2.2.2.1.chg (Chg.of_below bb) HH.out.2.2.2.2.1)
  have H1 : Hid _ := And.intro bb True.intro
  clear bb b1
  go_wp2_with fail
  go_at_call 18
  refine V1.mono ?_
  rintro e w2 ⟨rfl, c2⟩
  have H2 : Hid _ := And.intro ((Chg.of_below H1.out.1).trans (c2.mono fun q hq => Or.inl hq) : Chg (SG g fb) w w2) True.intro
  clear c2
  go_wp2_with fail
  exact ⟨rfl, rfl, H2.out.1⟩
end Go.Proofs.YtohooehbjbhhhaaDoor
