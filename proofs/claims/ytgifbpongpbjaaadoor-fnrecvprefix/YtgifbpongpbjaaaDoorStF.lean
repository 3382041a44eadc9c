import Derived.Test.YtgifbpongpbjaaaDoorStE
namespace Go.Proofs.YtgifbpongpbjaaaDoor
open Go.RowKit
set_option linter.unusedVariables false

theorem rcB.fin {w : World} {g c win st : Nat} {first came gr fin told : Int} (h : rcB w g c win st first came gr fin told) (x : Int) : rcB (w.setCell ⟨g, 6, none⟩ (.int .i64 x)) g c win st first came gr x told := bk_set h 6 _
theorem rgB.chg {w w' : World} {g c : Nat} {L : List (Bool × Int)} (h : rgB w c L) (hc : Chg (· = g) w w') (hgc : g ≠ c) : rgB w' c L := (hc.block c (Array.getElem?_eq_some_iff.1 h).1 (fun e => hgc e.symm)).trans h
theorem Chg.k2 {g c : Nat} {w w' : World} (h : Chg (· = g) w w') : Chg (K2 g c) w w' := ⟨h.os, h.tape, h.output, h.size, fun k hk hs => h.block k hk (fun e => hs (Or.inl e))⟩

set_option maxRecDepth 20000 in
set_option maxHeartbeats 2000000 in
theorem data_8te (g c win st first came gr cm gr2 : Nat) (fin told off : Int) (av : Option Addr) (n dc : Nat) (L2 : List (Bool × Int)) (w : World) (hb : rcB w g c win st first came gr fin told) (h : n ≤ 1500) (h2 : 0 ≤ off) (h3 : off ≤ 4611686018427387903 - (n : Int)) (h4 : off + n ≤ told) (h7 : fin = -1) (h6 : (gr : Int) ≤ off + n ∧ (fin = -1 ∨ off + n = fin))  (hs : st < 2) (ht : TabF w) (h0 : 0 < w.heap.size) (hne : ¬ K2 g c 0) (hgc : g ≠ c) (htold : told ≤ 1000000)
    (hK : ∀ u : World, Below w.heap.size w u → Calls Tryd.prog 16 #[.pointer (some ⟨g, 0, none⟩), .int .i64 off, .slice av n dc] u fun e w' => e = .returned (.tuple #[]) ∧ rcB w' g c win st first cm gr2 fin told ∧ rgB w' c L2 ∧ Chg (K2 g c) u w') :
    Calls Tryd.prog 11 #[.pointer (some ⟨g, 0, none⟩), .int .i64 off, .slice av n dc, .bool true] w fun e w' => e = .returned (.int .i64 0) ∧ rcB w' g c win (if (cm : Int) = (off + n) ∧ (if st = 0 then 1 else st) = 1 then 2 else (if st = 0 then 1 else st)) first cm gr2 (off + n) told ∧ rgB w' c L2 ∧ Chg (K2 g c) w w' := by
  have d6 : w.cell? ⟨g, 6, none⟩ = some (.int .i64 fin) := (bk_cell hb 6).trans rfl
  have d7 : w.cell? ⟨g, 7, none⟩ = some (.int .i64 told) := (bk_cell hb 7).trans rfl
  have b5 : (fin != -1) = false := by simpa using h7
  have CM := mayEndI g c win st first came gr fin told (off + n) w hb
  rw [decide_eq_true h6] at CM
  have CT := takingI g c win st first came gr fin told w (by omega) ht h0 hb
  rw [decide_eq_true hs] at CT
  have HK : Hid _ := And.intro hK (And.intro ht True.intro)
  obtain ⟨s2, es2⟩ : ∃ s2, s2 = (if (cm : Int) = (off + n) ∧ (if st = 0 then 1 else st) = 1 then 2 else (if st = 0 then 1 else st)) := ⟨_, rfl⟩
  rw [← es2]
  have HE : Hid _ := es2
  clear hb ht hK es2
  go_enter Tryd.func11, Tryd.ntmps11
  go_wp2_with fail
  go_at_call 14
  refine CM.mono ?_
  rintro e wy ⟨rfl, hwy⟩
  subst wy
  go_wp2_with fail
  go_at_call 15
  refine CT.mono ?_
  rintro e w1 ⟨rfl, b1⟩
  have C2 := HK.out.1 w1 b1
  have ht1 := HK.out.2.1.below b1 h0
  have z1 : 0 < w1.heap.size := Nat.lt_of_lt_of_le h0 b1.size
  go_wp2_with fail
  go_at_call 16
  refine C2.mono ?_
  rintro e w2 ⟨rfl, rb, rr, ch⟩
  have ht2 := ht1.chg ch z1 hne
  have z2 : 0 < w2.heap.size := Nat.lt_of_lt_of_le z1 ch.size
  have ch2 : Chg (K2 g c) w w2 := (Chg.of_below b1).trans ch
  clear C2 CT ch b1 ht1 z1 CM d6 d7
  have f6 := bk_free rb 6
  have d6 : w2.cell? ⟨g, 6, none⟩ = some (.int .i64 fin) := (bk_cell rb 6).trans rfl
  have cs : Chg (· = g) w2 (w2.setCell ⟨g, 6, none⟩ (.int .i64 (off + n))) := (chg_of_eq w2).set' g 6 _ rfl
  have rb3 : rcB (w2.setCell ⟨g, 6, none⟩ (.int .i64 (off + n))) g c win st first cm gr2 (off + n) told := rb.fin _
  have ht3 := ht2.chg cs z2 (fun e => hne (Or.inl e))
  have z3 : 0 < (w2.setCell ⟨g, 6, none⟩ (.int .i64 (off + n))).heap.size := Nat.lt_of_lt_of_le z2 cs.size
  have C3 := turnR g c win st 1 first cm gr2 (off + n) told (by omega) (by decide) (by decide) _ ht3 z3 rb3
  rw [mt1 st (by omega)] at C3
  have H3 : Hid _ := And.intro ht3 (And.intro z3 (And.intro (rr.chg cs hgc) (ch2.trans cs.k2)))
  clear rb rb3 cs ht2 z2 rr ch2 ht3 z3
  go_wp2_with fail
  go_at_call 17
  refine C3.mono ?_
  rintro e w4 ⟨rfl, rb4, c4⟩
  have ht4 := H3.out.1.chg c4 H3.out.2.1 (fun e => hne (Or.inl e))
  have z4 : 0 < w4.heap.size := Nat.lt_of_lt_of_le H3.out.2.1 c4.size
  have rr4 := H3.out.2.2.1.chg c4 hgc
  have ch4 := H3.out.2.2.2.trans c4.k2
  clear C3 H3 c4 f6 d6
  obtain ⟨s1, es1⟩ : ∃ s1, s1 = (if st = 0 then 1 else st) := ⟨_, rfl⟩
  have rb5 : rcB w4 g c win s1 first cm gr2 (off + n) told := by
    rw [es1]
    by_cases hst : st = 0
    · rw [if_pos hst]; rw [decide_eq_true hst] at rb4; exact rb4
    · rw [if_neg hst]; rw [decide_eq_false hst] at rb4; exact rb4
  have hs1 : s1 < 6 := by rw [es1]; split <;> omega
  have HS1 : Hid _ := es1
  rw [← es1] at HE
  clear rb4 es1
  have e4 : w4.cell? ⟨g, 4, none⟩ = some (.int .i64 (cm : Int)) := (bk_cell rb5 4).trans rfl
  have e6 : w4.cell? ⟨g, 6, none⟩ = some (.int .i64 (off + n)) := (bk_cell rb5 6).trans rfl
  have H5 : Hid _ := And.intro rb5 (And.intro ht4 (And.intro z4 (And.intro rr4 ch4)))
  clear rb5 ht4 z4 rr4 ch4
  go_wp2_with fail
  go_quiet (fail)
  have hd : ∀ S : Nat → Prop, Chg S w4 (w4.drewN nq) := fun S => ⟨rfl, rfl, rfl, Nat.le_refl _, fun _ _ _ => rfl⟩
  by_cases heq : (cm : Int) = (off + n)
  · have bq : ((cm : Int) == (off + n)) = true := by simpa using heq
    have C6 := turnR g c win s1 2 first cm gr2 (off + n) told hs1 (by decide) (by decide) (w4.drewN nq) (H5.out.2.1.chg (S := fun _ => False) (hd _) H5.out.2.2.1 (fun e => e)) H5.out.2.2.1 H5.out.1
    rw [mt2 s1 hs1] at C6
    go_wp2_with fail
    go_at_call 17
    refine C6.mono ?_
    rintro e w7 ⟨rfl, rb7, c7⟩
    have H7 : Hid _ := And.intro rb7 c7
    clear rb7 c7 C6
    go_wp2
    go_ret
    refine ⟨rfl, ?_, rgB.chg (w := w4.drewN nq) H5.out.2.2.2.1 H7.out.2 hgc, (H5.out.2.2.2.2.trans (hd _)).trans H7.out.2.k2⟩
    have r := H7.out.1
    rw [HE.out]
    by_cases h1 : s1 = 1
    · rw [if_pos ⟨heq, h1⟩]; rw [decide_eq_true h1] at r; exact r
    · rw [if_neg (fun x => h1 x.2)]; rw [decide_eq_false h1] at r; exact r
  · have bq : ((cm : Int) == (off + n)) = false := by simpa using heq
    go_wp2
    go_ret
    refine ⟨rfl, ?_, H5.out.2.2.2.1, H5.out.2.2.2.2.trans (hd _)⟩
    rw [HE.out, if_neg (fun x => heq x.1)]
    exact H5.out.1
set_option maxRecDepth 20000 in
set_option maxHeartbeats 2000000 in
theorem data_8tn (g c win st first came gr cm gr2 : Nat) (fin told off : Int) (av : Option Addr) (n dc : Nat) (L2 : List (Bool × Int)) (w : World) (hb : rcB w g c win st first came gr fin told) (h : n ≤ 1500) (h2 : 0 ≤ off) (h3 : off ≤ 4611686018427387903 - (n : Int)) (h4 : off + n ≤ told) (h7 : fin ≠ -1) (h5 : off + n ≤ fin) (h6 : (gr : Int) ≤ off + n ∧ (fin = -1 ∨ off + n = fin))  (hs : st < 2) (ht : TabF w) (h0 : 0 < w.heap.size) (hne : ¬ K2 g c 0) (hgc : g ≠ c) (htold : told ≤ 1000000)
    (hK : ∀ u : World, Below w.heap.size w u → Calls Tryd.prog 16 #[.pointer (some ⟨g, 0, none⟩), .int .i64 off, .slice av n dc] u fun e w' => e = .returned (.tuple #[]) ∧ rcB w' g c win st first cm gr2 fin told ∧ rgB w' c L2 ∧ Chg (K2 g c) u w') :
    Calls Tryd.prog 11 #[.pointer (some ⟨g, 0, none⟩), .int .i64 off, .slice av n dc, .bool true] w fun e w' => e = .returned (.int .i64 0) ∧ rcB w' g c win (if (cm : Int) = (off + n) ∧ (if st = 0 then 1 else st) = 1 then 2 else (if st = 0 then 1 else st)) first cm gr2 (off + n) told ∧ rgB w' c L2 ∧ Chg (K2 g c) w w' := by
  have d6 : w.cell? ⟨g, 6, none⟩ = some (.int .i64 fin) := (bk_cell hb 6).trans rfl
  have d7 : w.cell? ⟨g, 7, none⟩ = some (.int .i64 told) := (bk_cell hb 7).trans rfl
  have b5 : (fin != -1) = true := by simpa using h7
  have CM := mayEndI g c win st first came gr fin told (off + n) w hb
  rw [decide_eq_true h6] at CM
  have CT := takingI g c win st first came gr fin told w (by omega) ht h0 hb
  rw [decide_eq_true hs] at CT
  have HK : Hid _ := And.intro hK (And.intro ht True.intro)
  obtain ⟨s2, es2⟩ : ∃ s2, s2 = (if (cm : Int) = (off + n) ∧ (if st = 0 then 1 else st) = 1 then 2 else (if st = 0 then 1 else st)) := ⟨_, rfl⟩
  rw [← es2]
  have HE : Hid _ := es2
  clear hb ht hK es2
  go_enter Tryd.func11, Tryd.ntmps11
  go_wp2_with fail
  go_at_call 14
  refine CM.mono ?_
  rintro e wy ⟨rfl, hwy⟩
  subst wy
  go_wp2_with fail
  go_at_call 15
  refine CT.mono ?_
  rintro e w1 ⟨rfl, b1⟩
  have C2 := HK.out.1 w1 b1
  have ht1 := HK.out.2.1.below b1 h0
  have z1 : 0 < w1.heap.size := Nat.lt_of_lt_of_le h0 b1.size
  go_wp2_with fail
  go_at_call 16
  refine C2.mono ?_
  rintro e w2 ⟨rfl, rb, rr, ch⟩
  have ht2 := ht1.chg ch z1 hne
  have z2 : 0 < w2.heap.size := Nat.lt_of_lt_of_le z1 ch.size
  have ch2 : Chg (K2 g c) w w2 := (Chg.of_below b1).trans ch
  clear C2 CT ch b1 ht1 z1 CM d6 d7
  have f6 := bk_free rb 6
  have d6 : w2.cell? ⟨g, 6, none⟩ = some (.int .i64 fin) := (bk_cell rb 6).trans rfl
  have cs : Chg (· = g) w2 (w2.setCell ⟨g, 6, none⟩ (.int .i64 (off + n))) := (chg_of_eq w2).set' g 6 _ rfl
  have rb3 : rcB (w2.setCell ⟨g, 6, none⟩ (.int .i64 (off + n))) g c win st first cm gr2 (off + n) told := rb.fin _
  have ht3 := ht2.chg cs z2 (fun e => hne (Or.inl e))
  have z3 : 0 < (w2.setCell ⟨g, 6, none⟩ (.int .i64 (off + n))).heap.size := Nat.lt_of_lt_of_le z2 cs.size
  have C3 := turnR g c win st 1 first cm gr2 (off + n) told (by omega) (by decide) (by decide) _ ht3 z3 rb3
  rw [mt1 st (by omega)] at C3
  have H3 : Hid _ := And.intro ht3 (And.intro z3 (And.intro (rr.chg cs hgc) (ch2.trans cs.k2)))
  clear rb rb3 cs ht2 z2 rr ch2 ht3 z3
  go_wp2_with fail
  go_at_call 17
  refine C3.mono ?_
  rintro e w4 ⟨rfl, rb4, c4⟩
  have ht4 := H3.out.1.chg c4 H3.out.2.1 (fun e => hne (Or.inl e))
  have z4 : 0 < w4.heap.size := Nat.lt_of_lt_of_le H3.out.2.1 c4.size
  have rr4 := H3.out.2.2.1.chg c4 hgc
  have ch4 := H3.out.2.2.2.trans c4.k2
  clear C3 H3 c4 f6 d6
  obtain ⟨s1, es1⟩ : ∃ s1, s1 = (if st = 0 then 1 else st) := ⟨_, rfl⟩
  have rb5 : rcB w4 g c win s1 first cm gr2 (off + n) told := by
    rw [es1]
    by_cases hst : st = 0
    · rw [if_pos hst]; rw [decide_eq_true hst] at rb4; exact rb4
    · rw [if_neg hst]; rw [decide_eq_false hst] at rb4; exact rb4
  have hs1 : s1 < 6 := by rw [es1]; split <;> omega
  have HS1 : Hid _ := es1
  rw [← es1] at HE
  clear rb4 es1
  have e4 : w4.cell? ⟨g, 4, none⟩ = some (.int .i64 (cm : Int)) := (bk_cell rb5 4).trans rfl
  have e6 : w4.cell? ⟨g, 6, none⟩ = some (.int .i64 (off + n)) := (bk_cell rb5 6).trans rfl
  have H5 : Hid _ := And.intro rb5 (And.intro ht4 (And.intro z4 (And.intro rr4 ch4)))
  clear rb5 ht4 z4 rr4 ch4
  go_wp2_with fail
  go_quiet (fail)
  have hd : ∀ S : Nat → Prop, Chg S w4 (w4.drewN nq) := fun S => ⟨rfl, rfl, rfl, Nat.le_refl _, fun _ _ _ => rfl⟩
  by_cases heq : (cm : Int) = (off + n)
  · have bq : ((cm : Int) == (off + n)) = true := by simpa using heq
    have C6 := turnR g c win s1 2 first cm gr2 (off + n) told hs1 (by decide) (by decide) (w4.drewN nq) (H5.out.2.1.chg (S := fun _ => False) (hd _) H5.out.2.2.1 (fun e => e)) H5.out.2.2.1 H5.out.1
    rw [mt2 s1 hs1] at C6
    go_wp2_with fail
    go_at_call 17
    refine C6.mono ?_
    rintro e w7 ⟨rfl, rb7, c7⟩
    have H7 : Hid _ := And.intro rb7 c7
    clear rb7 c7 C6
    go_wp2
    go_ret
    refine ⟨rfl, ?_, rgB.chg (w := w4.drewN nq) H5.out.2.2.2.1 H7.out.2 hgc, (H5.out.2.2.2.2.trans (hd _)).trans H7.out.2.k2⟩
    have r := H7.out.1
    rw [HE.out]
    by_cases h1 : s1 = 1
    · rw [if_pos ⟨heq, h1⟩]; rw [decide_eq_true h1] at r; exact r
    · rw [if_neg (fun x => h1 x.2)]; rw [decide_eq_false h1] at r; exact r
  · have bq : ((cm : Int) == (off + n)) = false := by simpa using heq
    go_wp2
    go_ret
    refine ⟨rfl, ?_, H5.out.2.2.2.1, H5.out.2.2.2.2.trans (hd _)⟩
    rw [HE.out, if_neg (fun x => heq x.1)]
    exact H5.out.1
set_option maxRecDepth 20000 in
set_option maxHeartbeats 2000000 in
theorem data_8fe (g c win st first came gr cm gr2 : Nat) (fin told off : Int) (av : Option Addr) (n dc : Nat) (L2 : List (Bool × Int)) (w : World) (hb : rcB w g c win st first came gr fin told) (h : n ≤ 1500) (h2 : 0 ≤ off) (h3 : off ≤ 4611686018427387903 - (n : Int)) (h4 : off + n ≤ told) (h7 : fin = -1)  (hs : st < 2) (ht : TabF w) (h0 : 0 < w.heap.size) (hne : ¬ K2 g c 0) (hgc : g ≠ c) (htold : told ≤ 1000000)
    (hK : ∀ u : World, Below w.heap.size w u → Calls Tryd.prog 16 #[.pointer (some ⟨g, 0, none⟩), .int .i64 off, .slice av n dc] u fun e w' => e = .returned (.tuple #[]) ∧ rcB w' g c win st first cm gr2 fin told ∧ rgB w' c L2 ∧ Chg (K2 g c) u w') :
    Calls Tryd.prog 11 #[.pointer (some ⟨g, 0, none⟩), .int .i64 off, .slice av n dc, .bool false] w fun e w' => e = .returned (.int .i64 0) ∧ rcB w' g c win (if (cm : Int) = fin ∧ st = 1 then 2 else st) first cm gr2 fin told ∧ rgB w' c L2 ∧ Chg (K2 g c) w w' := by
  have d6 : w.cell? ⟨g, 6, none⟩ = some (.int .i64 fin) := (bk_cell hb 6).trans rfl
  have d7 : w.cell? ⟨g, 7, none⟩ = some (.int .i64 told) := (bk_cell hb 7).trans rfl
  have b5 : (fin != -1) = false := by simpa using h7
  have CT := takingI g c win st first came gr fin told w (by omega) ht h0 hb
  rw [decide_eq_true hs] at CT
  have HK : Hid _ := And.intro hK (And.intro ht True.intro)
  obtain ⟨s2, es2⟩ : ∃ s2, s2 = (if (cm : Int) = fin ∧ st = 1 then 2 else st) := ⟨_, rfl⟩
  rw [← es2]
  have HE : Hid _ := es2
  clear hb ht hK es2
  go_enter Tryd.func11, Tryd.ntmps11
  go_wp2_with fail
  go_at_call 15
  refine CT.mono ?_
  rintro e w1 ⟨rfl, b1⟩
  have C2 := HK.out.1 w1 b1
  have ht1 := HK.out.2.1.below b1 h0
  have z1 : 0 < w1.heap.size := Nat.lt_of_lt_of_le h0 b1.size
  go_wp2_with fail
  go_at_call 16
  refine C2.mono ?_
  rintro e w2 ⟨rfl, rb, rr, ch⟩
  have ht2 := ht1.chg ch z1 hne
  have z2 : 0 < w2.heap.size := Nat.lt_of_lt_of_le z1 ch.size
  have ch2 : Chg (K2 g c) w w2 := (Chg.of_below b1).trans ch
  clear C2 CT ch b1 ht1 z1 d6 d7
  have ht4 := ht2
  have z4 := z2
  have rr4 := rr
  have ch4 := ch2
  clear ht2 z2 rr ch2
  obtain ⟨s1, es1⟩ : ∃ s1, s1 = st := ⟨_, rfl⟩
  have rb5 : rcB w2 g c win s1 first cm gr2 fin told := by rw [es1]; exact rb
  have hs1 : s1 < 6 := by omega
  rw [← es1] at HE
  clear rb
  have e4 : w2.cell? ⟨g, 4, none⟩ = some (.int .i64 (cm : Int)) := (bk_cell rb5 4).trans rfl
  have e6 : w2.cell? ⟨g, 6, none⟩ = some (.int .i64 fin) := (bk_cell rb5 6).trans rfl
  have H5 : Hid _ := And.intro rb5 (And.intro ht4 (And.intro z4 (And.intro rr4 ch4)))
  clear rb5 ht4 z4 rr4 ch4
  go_wp2_with fail
  go_quiet (fail)
  have hd : ∀ S : Nat → Prop, Chg S w2 (w2.drewN nq) := fun S => ⟨rfl, rfl, rfl, Nat.le_refl _, fun _ _ _ => rfl⟩
  by_cases heq : (cm : Int) = fin
  · exact absurd heq (by omega)
  · have bq : ((cm : Int) == fin) = false := by simpa using heq
    go_wp2
    go_ret
    refine ⟨rfl, ?_, H5.out.2.2.2.1, H5.out.2.2.2.2.trans (hd _)⟩
    rw [HE.out, if_neg (fun x => heq x.1)]
    exact H5.out.1
set_option maxRecDepth 20000 in
set_option maxHeartbeats 2000000 in
theorem data_8fn (g c win st first came gr cm gr2 : Nat) (fin told off : Int) (av : Option Addr) (n dc : Nat) (L2 : List (Bool × Int)) (w : World) (hb : rcB w g c win st first came gr fin told) (h : n ≤ 1500) (h2 : 0 ≤ off) (h3 : off ≤ 4611686018427387903 - (n : Int)) (h4 : off + n ≤ told) (h7 : fin ≠ -1) (h5 : off + n ≤ fin)  (hs : st < 2) (ht : TabF w) (h0 : 0 < w.heap.size) (hne : ¬ K2 g c 0) (hgc : g ≠ c) (htold : told ≤ 1000000)
    (hK : ∀ u : World, Below w.heap.size w u → Calls Tryd.prog 16 #[.pointer (some ⟨g, 0, none⟩), .int .i64 off, .slice av n dc] u fun e w' => e = .returned (.tuple #[]) ∧ rcB w' g c win st first cm gr2 fin told ∧ rgB w' c L2 ∧ Chg (K2 g c) u w') :
    Calls Tryd.prog 11 #[.pointer (some ⟨g, 0, none⟩), .int .i64 off, .slice av n dc, .bool false] w fun e w' => e = .returned (.int .i64 0) ∧ rcB w' g c win (if (cm : Int) = fin ∧ st = 1 then 2 else st) first cm gr2 fin told ∧ rgB w' c L2 ∧ Chg (K2 g c) w w' := by
  have d6 : w.cell? ⟨g, 6, none⟩ = some (.int .i64 fin) := (bk_cell hb 6).trans rfl
  have d7 : w.cell? ⟨g, 7, none⟩ = some (.int .i64 told) := (bk_cell hb 7).trans rfl
  have b5 : (fin != -1) = true := by simpa using h7
  have CT := takingI g c win st first came gr fin told w (by omega) ht h0 hb
  rw [decide_eq_true hs] at CT
  have HK : Hid _ := And.intro hK (And.intro ht True.intro)
  obtain ⟨s2, es2⟩ : ∃ s2, s2 = (if (cm : Int) = fin ∧ st = 1 then 2 else st) := ⟨_, rfl⟩
  rw [← es2]
  have HE : Hid _ := es2
  clear hb ht hK es2
  go_enter Tryd.func11, Tryd.ntmps11
  go_wp2_with fail
  go_at_call 15
  refine CT.mono ?_
  rintro e w1 ⟨rfl, b1⟩
  have C2 := HK.out.1 w1 b1
  have ht1 := HK.out.2.1.below b1 h0
  have z1 : 0 < w1.heap.size := Nat.lt_of_lt_of_le h0 b1.size
  go_wp2_with fail
  go_at_call 16
  refine C2.mono ?_
  rintro e w2 ⟨rfl, rb, rr, ch⟩
  have ht2 := ht1.chg ch z1 hne
  have z2 : 0 < w2.heap.size := Nat.lt_of_lt_of_le z1 ch.size
  have ch2 : Chg (K2 g c) w w2 := (Chg.of_below b1).trans ch
  clear C2 CT ch b1 ht1 z1 d6 d7
  have ht4 := ht2
  have z4 := z2
  have rr4 := rr
  have ch4 := ch2
  clear ht2 z2 rr ch2
  obtain ⟨s1, es1⟩ : ∃ s1, s1 = st := ⟨_, rfl⟩
  have rb5 : rcB w2 g c win s1 first cm gr2 fin told := by rw [es1]; exact rb
  have hs1 : s1 < 6 := by omega
  rw [← es1] at HE
  clear rb
  have e4 : w2.cell? ⟨g, 4, none⟩ = some (.int .i64 (cm : Int)) := (bk_cell rb5 4).trans rfl
  have e6 : w2.cell? ⟨g, 6, none⟩ = some (.int .i64 fin) := (bk_cell rb5 6).trans rfl
  have H5 : Hid _ := And.intro rb5 (And.intro ht4 (And.intro z4 (And.intro rr4 ch4)))
  clear rb5 ht4 z4 rr4 ch4
  go_wp2_with fail
  go_quiet (fail)
  have hd : ∀ S : Nat → Prop, Chg S w2 (w2.drewN nq) := fun S => ⟨rfl, rfl, rfl, Nat.le_refl _, fun _ _ _ => rfl⟩
  by_cases heq : (cm : Int) = fin
  · have bq : ((cm : Int) == fin) = true := by simpa using heq
    have C6 := turnR g c win s1 2 first cm gr2 fin told hs1 (by decide) (by decide) (w2.drewN nq) (H5.out.2.1.chg (S := fun _ => False) (hd _) H5.out.2.2.1 (fun e => e)) H5.out.2.2.1 H5.out.1
    rw [mt2 s1 hs1] at C6
    go_wp2_with fail
    go_at_call 17
    refine C6.mono ?_
    rintro e w7 ⟨rfl, rb7, c7⟩
    have H7 : Hid _ := And.intro rb7 c7
    clear rb7 c7 C6
    go_wp2
    go_ret
    refine ⟨rfl, ?_, rgB.chg (w := w2.drewN nq) H5.out.2.2.2.1 H7.out.2 hgc, (H5.out.2.2.2.2.trans (hd _)).trans H7.out.2.k2⟩
    have r := H7.out.1
    rw [HE.out]
    by_cases h1 : s1 = 1
    · rw [if_pos ⟨heq, h1⟩]; rw [decide_eq_true h1] at r; exact r
    · rw [if_neg (fun x => h1 x.2)]; rw [decide_eq_false h1] at r; exact r
  · have bq : ((cm : Int) == fin) = false := by simpa using heq
    go_wp2
    go_ret
    refine ⟨rfl, ?_, H5.out.2.2.2.1, H5.out.2.2.2.2.trans (hd _)⟩
    rw [HE.out, if_neg (fun x => heq x.1)]
    exact H5.out.1
end Go.Proofs.YtgifbpongpbjaaaDoor
